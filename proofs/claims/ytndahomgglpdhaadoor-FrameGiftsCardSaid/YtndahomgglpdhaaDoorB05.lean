/- Texts laid one behind the other: Fi, Fj, Fl, Fm, Jb, El, Im, In. -/
import Derived.Test.YtndahomgglpdhaaDoorB04
import Derived.Deep.CutRange
/- Of law 15: great: what isn't has little in it. -/
namespace Go.Proofs.YtndahomgglpdhaaDoor
open Go.RowKit Nam Cod

theorem opIdxF {A : Option Addr} {b off len cap k : Nat} (hA : A = some ⟨b, off, none⟩) (h : k < len) : ∀ w, (Instr.indexAt 22 (.slice A len cap) (.int .i64 k)).run Tryd.prog w = .ok (.pointer (some ⟨b, off + k * 7, none⟩)) w := fun w => by
  subst hA
  have h2 : (k : Int) < (len : Int) := by omega
  go_simp
theorem enIdxF {A : Option Addr} {b off len cap k : Nat} (hA : A = some ⟨b, off, none⟩) (h : k < len) : ∀ w, (Instr.indexAt 24 (.slice A len cap) (.int .i64 k)).run Tryd.prog w = .ok (.pointer (some ⟨b, off + k * 10, none⟩)) w := fun w => by
  subst hA
  have h2 : (k : Int) < (len : Int) := by omega
  go_simp
def gsum {α : Type} (f : α → Nat) : List α → Nat
  | [] => 0
  | x :: l => f x / 100 + gsum f l
theorem gsum_next {α : Type} (f : α → Nat) : ∀ (l : List α) (k : Nat) (h : k < l.length), gsum f (l.take (k + 1)) = gsum f (l.take k) + f l[k] / 100
  | [], k, h => absurd h (Nat.not_lt_zero k)
  | x :: l, 0, _ => by show f x / 100 + 0 = 0 + f x / 100; omega
  | x :: l, k + 1, h => by
    rw [List.take_succ_cons, List.take_succ_cons, gsum, gsum, gsum_next f l k (by rw [List.length_cons] at h; omega), List.getElem_cons_succ]
    omega
theorem gsum_one {α : Type} (f : α → Nat) : ∀ (l : List α) (x : α), x ∈ l → f x / 100 ≤ gsum f l
  | [], x, h => by cases h
  | y :: l, x, h => by
    rw [gsum]
    rcases List.mem_cons.1 h with rfl | h
    · omega
    · have := gsum_one f l x h; omega
def opZ (o : Mv) : Nat := o.s.size
def enZ (e : En) : Nat := e.o.s.size
def gfZ (g : Gf) : Nat := g.s.size
def greatN (x : Fr) : Nat := x.os.length + x.rs.length + x.es.length + x.gs.length + gsum opZ x.os + gsum enZ x.es + gsum gfZ x.gs
set_option maxRecDepth 100000 in
set_option maxHeartbeats 8000000 in
theorem great15_any (y0 : Fw) (w : World) (hok : y0.ok w) (hn : FrN y0.x) (hl : FrLen y0.x) : Calls Tryd.prog 8 #[.agg #[.int .i64 y0.x.a, .int .i64 y0.x.b, .int .i64 y0.x.boot, .int .i64 y0.x.first, .slice y0.oA y0.x.os.length y0.oc, .int .i64 y0.x.pos, .slice y0.rA y0.x.rs.length y0.rc, .int .i64 y0.x.start, .slice y0.eA y0.x.es.length y0.ec, .int .i64 y0.x.ack, .int .i64 y0.x.grant, .int .i64 y0.x.s, .int .i64 y0.x.t, .slice y0.gA y0.x.gs.length y0.gc]] w fun e w' => ∃ bv, e = .returned (.bool bv) ∧ (bv = false → greatN y0.x ≤ 200) ∧ Below w.heap.size w w' := by
  have hP : frE.In (w.alloc (.cells #[.int .i64 y0.x.a, .int .i64 y0.x.b, .int .i64 y0.x.boot, .int .i64 y0.x.first, .slice y0.oA y0.x.os.length y0.oc, .int .i64 y0.x.pos, .slice y0.rA y0.x.rs.length y0.rc, .int .i64 y0.x.start, .slice y0.eA y0.x.es.length y0.ec, .int .i64 y0.x.ack, .int .i64 y0.x.grant, .int .i64 y0.x.s, .int .i64 y0.x.t, .slice y0.gA y0.x.gs.length y0.gc] 27)) w.heap.size y0 := El.In.new (E := frE) w y0 _ rfl
  have hB := below_alloc (Below.refl w.heap.size w) (.cells #[.int .i64 y0.x.a, .int .i64 y0.x.b, .int .i64 y0.x.boot, .int .i64 y0.x.first, .slice y0.oA y0.x.os.length y0.oc, .int .i64 y0.x.pos, .slice y0.rA y0.x.rs.length y0.rc, .int .i64 y0.x.start, .slice y0.eA y0.x.es.length y0.ec, .int .i64 y0.x.ack, .int .i64 y0.x.grant, .int .i64 y0.x.s, .int .i64 y0.x.t, .slice y0.gA y0.x.gs.length y0.gc] 27)
  replace hok := hok.below hB
  have HZ0 := Lib.hid (fun (o : Mv) (h : o ∈ y0.x.os) => (hn.os o h).2)
  have HZ1 := Lib.hid (fun (o : En) (h : o ∈ y0.x.es) => (hn.es o h).2)
  have HZ2 := Lib.hid (fun (o : Gf) (h : o ∈ y0.x.gs) => (hn.gs o h).2)
  unfold FrLen reachBytes at hl
  obtain ⟨l1, l2, l3, l4⟩ := hl
  have HV0 := Lib.hid (show True from trivial)
  have s1 : IntKind.i64.wrap ((y0.x.os.length : Int) + (y0.x.rs.length : Int)) = ((y0.x.os.length + y0.x.rs.length : Nat) : Int) := by rw [IntKind.wrap_i64]; omega
  have s2 : IntKind.i64.wrap (((y0.x.os.length + y0.x.rs.length : Nat) : Int) + (y0.x.es.length : Int)) = ((y0.x.os.length + y0.x.rs.length + y0.x.es.length : Nat) : Int) := by rw [IntKind.wrap_i64]; omega
  have s3 : IntKind.i64.wrap (((y0.x.os.length + y0.x.rs.length + y0.x.es.length : Nat) : Int) + (y0.x.gs.length : Int)) = ((y0.x.os.length + y0.x.rs.length + y0.x.es.length + y0.x.gs.length : Nat) : Int) := by rw [IntKind.wrap_i64]; omega
  clear hn
  go_enter Tryd.func8, Tryd.ntmps8
  go_upto_region 1 with fail
  generalize w.alloc (.cells #[.int .i64 y0.x.a, .int .i64 y0.x.b, .int .i64 y0.x.boot, .int .i64 y0.x.first, .slice y0.oA y0.x.os.length y0.oc, .int .i64 y0.x.pos, .slice y0.rA y0.x.rs.length y0.rc, .int .i64 y0.x.start, .slice y0.eA y0.x.es.length y0.ec, .int .i64 y0.x.ack, .int .i64 y0.x.grant, .int .i64 y0.x.s, .int .i64 y0.x.t, .slice y0.gA y0.x.gs.length y0.gc] 27) = W at *
  obtain ⟨n1, hn1⟩ : ∃ n, w.heap.size = n := ⟨_, rfl⟩
  rw [hn1] at hP ⊢
  obtain ⟨p0, p1, p2, p3, p4, p5, p6, p7, p8, p9, p10, p11, p12, p13⟩ := frIn14 hP
  clear hP p0 p1 p2 p3 p5 p7 p9 p10 p11 p12
  go_wp2_with fail

  go_loopw [3, 4] (fun x y wr => ∃ (k v : Nat), k ≤ y0.x.os.length ∧ x = .int .i64 v ∧ y = .int .i64 k ∧ Hid (v ≤ 200 → v = (y0.x.os.length + y0.x.rs.length + y0.x.es.length + y0.x.gs.length) + gsum opZ (y0.x.os.take k)) ∧ v ≤ 1000000000000000000 ∧ W = wr) (fun _ y _ => y0.x.os.length - (intOf y).toNat)
  case atStart => exact ⟨0, _, Nat.zero_le _, rfl, rfl, Lib.hid (fun h => by have := HV0.out; simp only [List.take_zero, gsum]; omega), by omega, rfl⟩
  case round =>
    obtain ⟨k, v, hk, rfl, rfl, HV, hv, rfl⟩ := hrel
    by_cases hkl : k < y0.x.os.length
    · by_cases h200 : v ≤ 200
      · have f1 : decide ((v : Int) ≤ 200) = true := decide_eq_true (by omega)
        have f2 : decide (v ≤ 200) = true := decide_eq_true h200
        obtain ⟨b, off, eA, hbw, hc⟩ := (hok.o).1 (by omega)
        have hx := opIdxF (cap := y0.oc) eA hkl
        have hat : opE.At W b (off + k * 7) _ := hc k hkl
        have hzb := HZ0.out _ (List.getElem_mem hkl)
        have HN := Lib.hid (gsum_next opZ y0.x.os k hkl)
        obtain ⟨x, hxe⟩ : ∃ x, y0.x.os[k] = x := ⟨_, rfl⟩
        rw [hxe] at hat hzb HN
        obtain ⟨s0, s1, s2, s3, s4, s5, s6⟩ := opAt hat
        have HZX := Lib.hid (show opZ x = x.s.size from rfl)
        obtain ⟨q, hq⟩ : ∃ q, x.s.size / 100 = q := ⟨_, rfl⟩
        have hq2 : ((x.s.size : Nat) : Int) / 100 = (q : Int) := by omega
        have hq3 : Int.tdiv ((x.s.size : Nat) : Int) 100 = (q : Int) := by rw [Int.tdiv_eq_ediv_of_nonneg (by omega)]; exact hq2
        have hwq : IntKind.i64.wrap (q : Int) = (q : Int) := by unfold maxLen at hzb; rw [IntKind.wrap_i64]; omega
        have hwv : IntKind.i64.wrap ((v : Int) + (q : Int)) = ((v + q : Nat) : Int) := by unfold maxLen at hzb; rw [IntKind.wrap_i64]; omega
        have HNX := Lib.hid (show v + q ≤ 200 → v + q = (y0.x.os.length + y0.x.rs.length + y0.x.es.length + y0.x.gs.length) + gsum opZ (y0.x.os.take (k + 1)) from fun h => by have h1 := HV.out h200; have h2 := HN.out; rw [HZX.out] at h2; omega)
        have hvq : v + q ≤ 1000000000000000000 := by unfold maxLen at hzb; omega
        clear hc eA hat hxe hq hzb
        go_wp2_with fail
        exact ⟨⟨k + 1, v + q, by omega, rfl, by go_num, HNX, hvq, by trivial⟩, by simp [intOf]; omega⟩
      · have f1 : decide ((v : Int) ≤ 200) = false := decide_eq_false (by omega)
        have f2 : decide (v ≤ 200) = false := decide_eq_false h200
        have HV1 := Lib.hid (show v ≤ 200 → v = (y0.x.os.length + y0.x.rs.length + y0.x.es.length + y0.x.gs.length) + gsum opZ y0.x.os from fun h => absurd h h200)
        have hv1 := hv
        go_wp2_with fail
        go_loopw [3, 5] (fun x y wr => ∃ (k v : Nat), k ≤ y0.x.es.length ∧ x = .int .i64 v ∧ y = .int .i64 k ∧ Hid (v ≤ 200 → v = (y0.x.os.length + y0.x.rs.length + y0.x.es.length + y0.x.gs.length) + gsum opZ y0.x.os + gsum enZ (y0.x.es.take k)) ∧ v ≤ 1000000000000000000 ∧ W = wr) (fun _ y _ => y0.x.es.length - (intOf y).toNat)
        case atStart => exact ⟨0, _, Nat.zero_le _, rfl, rfl, Lib.hid (fun h => by have := HV1.out; simp only [List.take_zero, gsum]; omega), by omega, rfl⟩
        case round =>
          obtain ⟨k, v, hk, rfl, rfl, HV, hv, rfl⟩ := hrel
          by_cases hkl : k < y0.x.es.length
          · by_cases h200 : v ≤ 200
            · have f1 : decide ((v : Int) ≤ 200) = true := decide_eq_true (by omega)
              have f2 : decide (v ≤ 200) = true := decide_eq_true h200
              obtain ⟨b, off, eA, hbw, hc⟩ := (hok.e).1 (by omega)
              have hx := enIdxF (cap := y0.ec) eA hkl
              have hat : enE.At W b (off + k * 10) _ := hc k hkl
              have hzb := HZ1.out _ (List.getElem_mem hkl)
              have HN := Lib.hid (gsum_next enZ y0.x.es k hkl)
              obtain ⟨x, hxe⟩ : ∃ x, y0.x.es[k] = x := ⟨_, rfl⟩
              rw [hxe] at hat hzb HN
              obtain ⟨s0, s1, s2, s3, s4, s5, s6, s7, s8, s9⟩ := enAtF hat
              have HZX := Lib.hid (show enZ x = x.o.s.size from rfl)
              obtain ⟨q, hq⟩ : ∃ q, x.o.s.size / 100 = q := ⟨_, rfl⟩
              have hq2 : ((x.o.s.size : Nat) : Int) / 100 = (q : Int) := by omega
              have hq3 : Int.tdiv ((x.o.s.size : Nat) : Int) 100 = (q : Int) := by rw [Int.tdiv_eq_ediv_of_nonneg (by omega)]; exact hq2
              have hwq : IntKind.i64.wrap (q : Int) = (q : Int) := by unfold maxLen at hzb; rw [IntKind.wrap_i64]; omega
              have hwv : IntKind.i64.wrap ((v : Int) + (q : Int)) = ((v + q : Nat) : Int) := by unfold maxLen at hzb; rw [IntKind.wrap_i64]; omega
              have HNX := Lib.hid (show v + q ≤ 200 → v + q = (y0.x.os.length + y0.x.rs.length + y0.x.es.length + y0.x.gs.length) + gsum opZ y0.x.os + gsum enZ (y0.x.es.take (k + 1)) from fun h => by have h1 := HV.out h200; have h2 := HN.out; rw [HZX.out] at h2; omega)
              have hvq : v + q ≤ 1000000000000000000 := by unfold maxLen at hzb; omega
              clear hc eA hat hxe hq hzb
              go_wp2_with fail
              exact ⟨⟨k + 1, v + q, by omega, rfl, by go_num, HNX, hvq, by trivial⟩, by simp [intOf]; omega⟩
            · have f1 : decide ((v : Int) ≤ 200) = false := decide_eq_false (by omega)
              have f2 : decide (v ≤ 200) = false := decide_eq_false h200
              have HV2 := Lib.hid (show v ≤ 200 → v = (y0.x.os.length + y0.x.rs.length + y0.x.es.length + y0.x.gs.length) + gsum opZ y0.x.os + gsum enZ y0.x.es from fun h => absurd h h200)
              have hv2 := hv
              go_wp2_with fail
              go_loopw [3, 6] (fun x y wr => ∃ (k v : Nat), k ≤ y0.x.gs.length ∧ x = .int .i64 v ∧ y = .int .i64 k ∧ Hid (v ≤ 200 → v = (y0.x.os.length + y0.x.rs.length + y0.x.es.length + y0.x.gs.length) + gsum opZ y0.x.os + gsum enZ y0.x.es + gsum gfZ (y0.x.gs.take k)) ∧ v ≤ 1000000000000000000 ∧ W = wr) (fun _ y _ => y0.x.gs.length - (intOf y).toNat)
              case atStart => exact ⟨0, _, Nat.zero_le _, rfl, rfl, Lib.hid (fun h => by have := HV2.out; simp only [List.take_zero, gsum]; omega), by omega, rfl⟩
              case round =>
                obtain ⟨k, v, hk, rfl, rfl, HV, hv, rfl⟩ := hrel
                by_cases hkl : k < y0.x.gs.length
                · by_cases h200 : v ≤ 200
                  · have f1 : decide ((v : Int) ≤ 200) = true := decide_eq_true (by omega)
                    have f2 : decide (v ≤ 200) = true := decide_eq_true h200
                    obtain ⟨b, off, eA, hbw, hc⟩ := (hok.g).1 (by omega)
                    have hx := gfIdxH (cap := y0.gc) eA hkl
                    have hat : gfE.At W b (off + k * 5) _ := hc k hkl
                    have hzb := HZ2.out _ (List.getElem_mem hkl)
                    have HN := Lib.hid (gsum_next gfZ y0.x.gs k hkl)
                    obtain ⟨x, hxe⟩ : ∃ x, y0.x.gs[k] = x := ⟨_, rfl⟩
                    rw [hxe] at hat hzb HN
                    obtain ⟨s0, s1, s2, s3, s4⟩ := gfAt5 hat
                    have HZX := Lib.hid (show gfZ x = x.s.size from rfl)
                    obtain ⟨q, hq⟩ : ∃ q, x.s.size / 100 = q := ⟨_, rfl⟩
                    have hq2 : ((x.s.size : Nat) : Int) / 100 = (q : Int) := by omega
                    have hq3 : Int.tdiv ((x.s.size : Nat) : Int) 100 = (q : Int) := by rw [Int.tdiv_eq_ediv_of_nonneg (by omega)]; exact hq2
                    have hwq : IntKind.i64.wrap (q : Int) = (q : Int) := by unfold maxLen at hzb; rw [IntKind.wrap_i64]; omega
                    have hwv : IntKind.i64.wrap ((v : Int) + (q : Int)) = ((v + q : Nat) : Int) := by unfold maxLen at hzb; rw [IntKind.wrap_i64]; omega
                    have HNX := Lib.hid (show v + q ≤ 200 → v + q = (y0.x.os.length + y0.x.rs.length + y0.x.es.length + y0.x.gs.length) + gsum opZ y0.x.os + gsum enZ y0.x.es + gsum gfZ (y0.x.gs.take (k + 1)) from fun h => by have h1 := HV.out h200; have h2 := HN.out; rw [HZX.out] at h2; omega)
                    have hvq : v + q ≤ 1000000000000000000 := by unfold maxLen at hzb; omega
                    clear hc eA hat hxe hq hzb
                    go_wp2_with fail
                    exact ⟨⟨k + 1, v + q, by omega, rfl, by go_num, HNX, hvq, by trivial⟩, by simp [intOf]; omega⟩
                  · have f1 : decide ((v : Int) ≤ 200) = false := decide_eq_false (by omega)
                    have f2 : decide (v ≤ 200) = false := decide_eq_false h200
                    have HR := Lib.hid (show decide (200 < v) = false → v ≤ 200 ∧ v = (y0.x.os.length + y0.x.rs.length + y0.x.es.length + y0.x.gs.length) + gsum opZ y0.x.os + gsum enZ y0.x.es + gsum gfZ y0.x.gs from fun h => absurd (by have h0 := of_decide_eq_false h; omega) h200)
                    obtain ⟨bv, hbv⟩ : ∃ bv, decide (200 < v) = bv := ⟨_, rfl⟩
                    have hbw : decide ((200 : Int) < (v : Int)) = bv := by rw [← hbv, Bool.eq_iff_iff, decide_eq_true_iff, decide_eq_true_iff]; omega
                    have HBV := Lib.hid hbv
                    go_wp2_with fail
                    go_ret
                    exact ⟨bv, rfl, fun h => by have h1 := HR.out (HBV.out.trans h); show greatN y0.x ≤ 200; unfold greatN; omega, hB⟩
                · obtain rfl : k = y0.x.gs.length := by omega
                  have HR := Lib.hid (show decide (200 < v) = false → v ≤ 200 ∧ v = (y0.x.os.length + y0.x.rs.length + y0.x.es.length + y0.x.gs.length) + gsum opZ y0.x.os + gsum enZ y0.x.es + gsum gfZ y0.x.gs from fun h => by have h0 := of_decide_eq_false h; have h1 := HV.out (by omega); rw [List.take_length] at h1; exact ⟨by omega, h1⟩)
                  obtain ⟨bv, hbv⟩ : ∃ bv, decide (200 < v) = bv := ⟨_, rfl⟩
                  have hbw : decide ((200 : Int) < (v : Int)) = bv := by rw [← hbv, Bool.eq_iff_iff, decide_eq_true_iff, decide_eq_true_iff]; omega
                  have HBV := Lib.hid hbv
                  go_wp2_with fail
                  go_ret
                  exact ⟨bv, rfl, fun h => by have h1 := HR.out (HBV.out.trans h); show greatN y0.x ≤ 200; unfold greatN; omega, hB⟩
          · obtain rfl : k = y0.x.es.length := by omega
            have HV2 := Lib.hid (show v ≤ 200 → v = (y0.x.os.length + y0.x.rs.length + y0.x.es.length + y0.x.gs.length) + gsum opZ y0.x.os + gsum enZ y0.x.es from fun h => by have h1 := HV.out h; rw [List.take_length] at h1; exact h1)
            have hv2 := hv
            go_wp2_with fail
            go_loopw [3, 6] (fun x y wr => ∃ (k v : Nat), k ≤ y0.x.gs.length ∧ x = .int .i64 v ∧ y = .int .i64 k ∧ Hid (v ≤ 200 → v = (y0.x.os.length + y0.x.rs.length + y0.x.es.length + y0.x.gs.length) + gsum opZ y0.x.os + gsum enZ y0.x.es + gsum gfZ (y0.x.gs.take k)) ∧ v ≤ 1000000000000000000 ∧ W = wr) (fun _ y _ => y0.x.gs.length - (intOf y).toNat)
            case atStart => exact ⟨0, _, Nat.zero_le _, rfl, rfl, Lib.hid (fun h => by have := HV2.out; simp only [List.take_zero, gsum]; omega), by omega, rfl⟩
            case round =>
              obtain ⟨k, v, hk, rfl, rfl, HV, hv, rfl⟩ := hrel
              by_cases hkl : k < y0.x.gs.length
              · by_cases h200 : v ≤ 200
                · have f1 : decide ((v : Int) ≤ 200) = true := decide_eq_true (by omega)
                  have f2 : decide (v ≤ 200) = true := decide_eq_true h200
                  obtain ⟨b, off, eA, hbw, hc⟩ := (hok.g).1 (by omega)
                  have hx := gfIdxH (cap := y0.gc) eA hkl
                  have hat : gfE.At W b (off + k * 5) _ := hc k hkl
                  have hzb := HZ2.out _ (List.getElem_mem hkl)
                  have HN := Lib.hid (gsum_next gfZ y0.x.gs k hkl)
                  obtain ⟨x, hxe⟩ : ∃ x, y0.x.gs[k] = x := ⟨_, rfl⟩
                  rw [hxe] at hat hzb HN
                  obtain ⟨s0, s1, s2, s3, s4⟩ := gfAt5 hat
                  have HZX := Lib.hid (show gfZ x = x.s.size from rfl)
                  obtain ⟨q, hq⟩ : ∃ q, x.s.size / 100 = q := ⟨_, rfl⟩
                  have hq2 : ((x.s.size : Nat) : Int) / 100 = (q : Int) := by omega
                  have hq3 : Int.tdiv ((x.s.size : Nat) : Int) 100 = (q : Int) := by rw [Int.tdiv_eq_ediv_of_nonneg (by omega)]; exact hq2
                  have hwq : IntKind.i64.wrap (q : Int) = (q : Int) := by unfold maxLen at hzb; rw [IntKind.wrap_i64]; omega
                  have hwv : IntKind.i64.wrap ((v : Int) + (q : Int)) = ((v + q : Nat) : Int) := by unfold maxLen at hzb; rw [IntKind.wrap_i64]; omega
                  have HNX := Lib.hid (show v + q ≤ 200 → v + q = (y0.x.os.length + y0.x.rs.length + y0.x.es.length + y0.x.gs.length) + gsum opZ y0.x.os + gsum enZ y0.x.es + gsum gfZ (y0.x.gs.take (k + 1)) from fun h => by have h1 := HV.out h200; have h2 := HN.out; rw [HZX.out] at h2; omega)
                  have hvq : v + q ≤ 1000000000000000000 := by unfold maxLen at hzb; omega
                  clear hc eA hat hxe hq hzb
                  go_wp2_with fail
                  exact ⟨⟨k + 1, v + q, by omega, rfl, by go_num, HNX, hvq, by trivial⟩, by simp [intOf]; omega⟩
                · have f1 : decide ((v : Int) ≤ 200) = false := decide_eq_false (by omega)
                  have f2 : decide (v ≤ 200) = false := decide_eq_false h200
                  have HR := Lib.hid (show decide (200 < v) = false → v ≤ 200 ∧ v = (y0.x.os.length + y0.x.rs.length + y0.x.es.length + y0.x.gs.length) + gsum opZ y0.x.os + gsum enZ y0.x.es + gsum gfZ y0.x.gs from fun h => absurd (by have h0 := of_decide_eq_false h; omega) h200)
                  obtain ⟨bv, hbv⟩ : ∃ bv, decide (200 < v) = bv := ⟨_, rfl⟩
                  have hbw : decide ((200 : Int) < (v : Int)) = bv := by rw [← hbv, Bool.eq_iff_iff, decide_eq_true_iff, decide_eq_true_iff]; omega
                  have HBV := Lib.hid hbv
                  go_wp2_with fail
                  go_ret
                  exact ⟨bv, rfl, fun h => by have h1 := HR.out (HBV.out.trans h); show greatN y0.x ≤ 200; unfold greatN; omega, hB⟩
              · obtain rfl : k = y0.x.gs.length := by omega
                have HR := Lib.hid (show decide (200 < v) = false → v ≤ 200 ∧ v = (y0.x.os.length + y0.x.rs.length + y0.x.es.length + y0.x.gs.length) + gsum opZ y0.x.os + gsum enZ y0.x.es + gsum gfZ y0.x.gs from fun h => by have h0 := of_decide_eq_false h; have h1 := HV.out (by omega); rw [List.take_length] at h1; exact ⟨by omega, h1⟩)
                obtain ⟨bv, hbv⟩ : ∃ bv, decide (200 < v) = bv := ⟨_, rfl⟩
                have hbw : decide ((200 : Int) < (v : Int)) = bv := by rw [← hbv, Bool.eq_iff_iff, decide_eq_true_iff, decide_eq_true_iff]; omega
                have HBV := Lib.hid hbv
                go_wp2_with fail
                go_ret
                exact ⟨bv, rfl, fun h => by have h1 := HR.out (HBV.out.trans h); show greatN y0.x ≤ 200; unfold greatN; omega, hB⟩
    · obtain rfl : k = y0.x.os.length := by omega
      have HV1 := Lib.hid (show v ≤ 200 → v = (y0.x.os.length + y0.x.rs.length + y0.x.es.length + y0.x.gs.length) + gsum opZ y0.x.os from fun h => by have h1 := HV.out h; rw [List.take_length] at h1; exact h1)
      have hv1 := hv
      go_wp2_with fail
      go_loopw [3, 5] (fun x y wr => ∃ (k v : Nat), k ≤ y0.x.es.length ∧ x = .int .i64 v ∧ y = .int .i64 k ∧ Hid (v ≤ 200 → v = (y0.x.os.length + y0.x.rs.length + y0.x.es.length + y0.x.gs.length) + gsum opZ y0.x.os + gsum enZ (y0.x.es.take k)) ∧ v ≤ 1000000000000000000 ∧ W = wr) (fun _ y _ => y0.x.es.length - (intOf y).toNat)
      case atStart => exact ⟨0, _, Nat.zero_le _, rfl, rfl, Lib.hid (fun h => by have := HV1.out; simp only [List.take_zero, gsum]; omega), by omega, rfl⟩
      case round =>
        obtain ⟨k, v, hk, rfl, rfl, HV, hv, rfl⟩ := hrel
        by_cases hkl : k < y0.x.es.length
        · by_cases h200 : v ≤ 200
          · have f1 : decide ((v : Int) ≤ 200) = true := decide_eq_true (by omega)
            have f2 : decide (v ≤ 200) = true := decide_eq_true h200
            obtain ⟨b, off, eA, hbw, hc⟩ := (hok.e).1 (by omega)
            have hx := enIdxF (cap := y0.ec) eA hkl
            have hat : enE.At W b (off + k * 10) _ := hc k hkl
            have hzb := HZ1.out _ (List.getElem_mem hkl)
            have HN := Lib.hid (gsum_next enZ y0.x.es k hkl)
            obtain ⟨x, hxe⟩ : ∃ x, y0.x.es[k] = x := ⟨_, rfl⟩
            rw [hxe] at hat hzb HN
            obtain ⟨s0, s1, s2, s3, s4, s5, s6, s7, s8, s9⟩ := enAtF hat
            have HZX := Lib.hid (show enZ x = x.o.s.size from rfl)
            obtain ⟨q, hq⟩ : ∃ q, x.o.s.size / 100 = q := ⟨_, rfl⟩
            have hq2 : ((x.o.s.size : Nat) : Int) / 100 = (q : Int) := by omega
            have hq3 : Int.tdiv ((x.o.s.size : Nat) : Int) 100 = (q : Int) := by rw [Int.tdiv_eq_ediv_of_nonneg (by omega)]; exact hq2
            have hwq : IntKind.i64.wrap (q : Int) = (q : Int) := by unfold maxLen at hzb; rw [IntKind.wrap_i64]; omega
            have hwv : IntKind.i64.wrap ((v : Int) + (q : Int)) = ((v + q : Nat) : Int) := by unfold maxLen at hzb; rw [IntKind.wrap_i64]; omega
            have HNX := Lib.hid (show v + q ≤ 200 → v + q = (y0.x.os.length + y0.x.rs.length + y0.x.es.length + y0.x.gs.length) + gsum opZ y0.x.os + gsum enZ (y0.x.es.take (k + 1)) from fun h => by have h1 := HV.out h200; have h2 := HN.out; rw [HZX.out] at h2; omega)
            have hvq : v + q ≤ 1000000000000000000 := by unfold maxLen at hzb; omega
            clear hc eA hat hxe hq hzb
            go_wp2_with fail
            exact ⟨⟨k + 1, v + q, by omega, rfl, by go_num, HNX, hvq, by trivial⟩, by simp [intOf]; omega⟩
          · have f1 : decide ((v : Int) ≤ 200) = false := decide_eq_false (by omega)
            have f2 : decide (v ≤ 200) = false := decide_eq_false h200
            have HV2 := Lib.hid (show v ≤ 200 → v = (y0.x.os.length + y0.x.rs.length + y0.x.es.length + y0.x.gs.length) + gsum opZ y0.x.os + gsum enZ y0.x.es from fun h => absurd h h200)
            have hv2 := hv
            go_wp2_with fail
            go_loopw [3, 6] (fun x y wr => ∃ (k v : Nat), k ≤ y0.x.gs.length ∧ x = .int .i64 v ∧ y = .int .i64 k ∧ Hid (v ≤ 200 → v = (y0.x.os.length + y0.x.rs.length + y0.x.es.length + y0.x.gs.length) + gsum opZ y0.x.os + gsum enZ y0.x.es + gsum gfZ (y0.x.gs.take k)) ∧ v ≤ 1000000000000000000 ∧ W = wr) (fun _ y _ => y0.x.gs.length - (intOf y).toNat)
            case atStart => exact ⟨0, _, Nat.zero_le _, rfl, rfl, Lib.hid (fun h => by have := HV2.out; simp only [List.take_zero, gsum]; omega), by omega, rfl⟩
            case round =>
              obtain ⟨k, v, hk, rfl, rfl, HV, hv, rfl⟩ := hrel
              by_cases hkl : k < y0.x.gs.length
              · by_cases h200 : v ≤ 200
                · have f1 : decide ((v : Int) ≤ 200) = true := decide_eq_true (by omega)
                  have f2 : decide (v ≤ 200) = true := decide_eq_true h200
                  obtain ⟨b, off, eA, hbw, hc⟩ := (hok.g).1 (by omega)
                  have hx := gfIdxH (cap := y0.gc) eA hkl
                  have hat : gfE.At W b (off + k * 5) _ := hc k hkl
                  have hzb := HZ2.out _ (List.getElem_mem hkl)
                  have HN := Lib.hid (gsum_next gfZ y0.x.gs k hkl)
                  obtain ⟨x, hxe⟩ : ∃ x, y0.x.gs[k] = x := ⟨_, rfl⟩
                  rw [hxe] at hat hzb HN
                  obtain ⟨s0, s1, s2, s3, s4⟩ := gfAt5 hat
                  have HZX := Lib.hid (show gfZ x = x.s.size from rfl)
                  obtain ⟨q, hq⟩ : ∃ q, x.s.size / 100 = q := ⟨_, rfl⟩
                  have hq2 : ((x.s.size : Nat) : Int) / 100 = (q : Int) := by omega
                  have hq3 : Int.tdiv ((x.s.size : Nat) : Int) 100 = (q : Int) := by rw [Int.tdiv_eq_ediv_of_nonneg (by omega)]; exact hq2
                  have hwq : IntKind.i64.wrap (q : Int) = (q : Int) := by unfold maxLen at hzb; rw [IntKind.wrap_i64]; omega
                  have hwv : IntKind.i64.wrap ((v : Int) + (q : Int)) = ((v + q : Nat) : Int) := by unfold maxLen at hzb; rw [IntKind.wrap_i64]; omega
                  have HNX := Lib.hid (show v + q ≤ 200 → v + q = (y0.x.os.length + y0.x.rs.length + y0.x.es.length + y0.x.gs.length) + gsum opZ y0.x.os + gsum enZ y0.x.es + gsum gfZ (y0.x.gs.take (k + 1)) from fun h => by have h1 := HV.out h200; have h2 := HN.out; rw [HZX.out] at h2; omega)
                  have hvq : v + q ≤ 1000000000000000000 := by unfold maxLen at hzb; omega
                  clear hc eA hat hxe hq hzb
                  go_wp2_with fail
                  exact ⟨⟨k + 1, v + q, by omega, rfl, by go_num, HNX, hvq, by trivial⟩, by simp [intOf]; omega⟩
                · have f1 : decide ((v : Int) ≤ 200) = false := decide_eq_false (by omega)
                  have f2 : decide (v ≤ 200) = false := decide_eq_false h200
                  have HR := Lib.hid (show decide (200 < v) = false → v ≤ 200 ∧ v = (y0.x.os.length + y0.x.rs.length + y0.x.es.length + y0.x.gs.length) + gsum opZ y0.x.os + gsum enZ y0.x.es + gsum gfZ y0.x.gs from fun h => absurd (by have h0 := of_decide_eq_false h; omega) h200)
                  obtain ⟨bv, hbv⟩ : ∃ bv, decide (200 < v) = bv := ⟨_, rfl⟩
                  have hbw : decide ((200 : Int) < (v : Int)) = bv := by rw [← hbv, Bool.eq_iff_iff, decide_eq_true_iff, decide_eq_true_iff]; omega
                  have HBV := Lib.hid hbv
                  go_wp2_with fail
                  go_ret
                  exact ⟨bv, rfl, fun h => by have h1 := HR.out (HBV.out.trans h); show greatN y0.x ≤ 200; unfold greatN; omega, hB⟩
              · obtain rfl : k = y0.x.gs.length := by omega
                have HR := Lib.hid (show decide (200 < v) = false → v ≤ 200 ∧ v = (y0.x.os.length + y0.x.rs.length + y0.x.es.length + y0.x.gs.length) + gsum opZ y0.x.os + gsum enZ y0.x.es + gsum gfZ y0.x.gs from fun h => by have h0 := of_decide_eq_false h; have h1 := HV.out (by omega); rw [List.take_length] at h1; exact ⟨by omega, h1⟩)
                obtain ⟨bv, hbv⟩ : ∃ bv, decide (200 < v) = bv := ⟨_, rfl⟩
                have hbw : decide ((200 : Int) < (v : Int)) = bv := by rw [← hbv, Bool.eq_iff_iff, decide_eq_true_iff, decide_eq_true_iff]; omega
                have HBV := Lib.hid hbv
                go_wp2_with fail
                go_ret
                exact ⟨bv, rfl, fun h => by have h1 := HR.out (HBV.out.trans h); show greatN y0.x ≤ 200; unfold greatN; omega, hB⟩
        · obtain rfl : k = y0.x.es.length := by omega
          have HV2 := Lib.hid (show v ≤ 200 → v = (y0.x.os.length + y0.x.rs.length + y0.x.es.length + y0.x.gs.length) + gsum opZ y0.x.os + gsum enZ y0.x.es from fun h => by have h1 := HV.out h; rw [List.take_length] at h1; exact h1)
          have hv2 := hv
          go_wp2_with fail
          go_loopw [3, 6] (fun x y wr => ∃ (k v : Nat), k ≤ y0.x.gs.length ∧ x = .int .i64 v ∧ y = .int .i64 k ∧ Hid (v ≤ 200 → v = (y0.x.os.length + y0.x.rs.length + y0.x.es.length + y0.x.gs.length) + gsum opZ y0.x.os + gsum enZ y0.x.es + gsum gfZ (y0.x.gs.take k)) ∧ v ≤ 1000000000000000000 ∧ W = wr) (fun _ y _ => y0.x.gs.length - (intOf y).toNat)
          case atStart => exact ⟨0, _, Nat.zero_le _, rfl, rfl, Lib.hid (fun h => by have := HV2.out; simp only [List.take_zero, gsum]; omega), by omega, rfl⟩
          case round =>
            obtain ⟨k, v, hk, rfl, rfl, HV, hv, rfl⟩ := hrel
            by_cases hkl : k < y0.x.gs.length
            · by_cases h200 : v ≤ 200
              · have f1 : decide ((v : Int) ≤ 200) = true := decide_eq_true (by omega)
                have f2 : decide (v ≤ 200) = true := decide_eq_true h200
                obtain ⟨b, off, eA, hbw, hc⟩ := (hok.g).1 (by omega)
                have hx := gfIdxH (cap := y0.gc) eA hkl
                have hat : gfE.At W b (off + k * 5) _ := hc k hkl
                have hzb := HZ2.out _ (List.getElem_mem hkl)
                have HN := Lib.hid (gsum_next gfZ y0.x.gs k hkl)
                obtain ⟨x, hxe⟩ : ∃ x, y0.x.gs[k] = x := ⟨_, rfl⟩
                rw [hxe] at hat hzb HN
                obtain ⟨s0, s1, s2, s3, s4⟩ := gfAt5 hat
                have HZX := Lib.hid (show gfZ x = x.s.size from rfl)
                obtain ⟨q, hq⟩ : ∃ q, x.s.size / 100 = q := ⟨_, rfl⟩
                have hq2 : ((x.s.size : Nat) : Int) / 100 = (q : Int) := by omega
                have hq3 : Int.tdiv ((x.s.size : Nat) : Int) 100 = (q : Int) := by rw [Int.tdiv_eq_ediv_of_nonneg (by omega)]; exact hq2
                have hwq : IntKind.i64.wrap (q : Int) = (q : Int) := by unfold maxLen at hzb; rw [IntKind.wrap_i64]; omega
                have hwv : IntKind.i64.wrap ((v : Int) + (q : Int)) = ((v + q : Nat) : Int) := by unfold maxLen at hzb; rw [IntKind.wrap_i64]; omega
                have HNX := Lib.hid (show v + q ≤ 200 → v + q = (y0.x.os.length + y0.x.rs.length + y0.x.es.length + y0.x.gs.length) + gsum opZ y0.x.os + gsum enZ y0.x.es + gsum gfZ (y0.x.gs.take (k + 1)) from fun h => by have h1 := HV.out h200; have h2 := HN.out; rw [HZX.out] at h2; omega)
                have hvq : v + q ≤ 1000000000000000000 := by unfold maxLen at hzb; omega
                clear hc eA hat hxe hq hzb
                go_wp2_with fail
                exact ⟨⟨k + 1, v + q, by omega, rfl, by go_num, HNX, hvq, by trivial⟩, by simp [intOf]; omega⟩
              · have f1 : decide ((v : Int) ≤ 200) = false := decide_eq_false (by omega)
                have f2 : decide (v ≤ 200) = false := decide_eq_false h200
                have HR := Lib.hid (show decide (200 < v) = false → v ≤ 200 ∧ v = (y0.x.os.length + y0.x.rs.length + y0.x.es.length + y0.x.gs.length) + gsum opZ y0.x.os + gsum enZ y0.x.es + gsum gfZ y0.x.gs from fun h => absurd (by have h0 := of_decide_eq_false h; omega) h200)
                obtain ⟨bv, hbv⟩ : ∃ bv, decide (200 < v) = bv := ⟨_, rfl⟩
                have hbw : decide ((200 : Int) < (v : Int)) = bv := by rw [← hbv, Bool.eq_iff_iff, decide_eq_true_iff, decide_eq_true_iff]; omega
                have HBV := Lib.hid hbv
                go_wp2_with fail
                go_ret
                exact ⟨bv, rfl, fun h => by have h1 := HR.out (HBV.out.trans h); show greatN y0.x ≤ 200; unfold greatN; omega, hB⟩
            · obtain rfl : k = y0.x.gs.length := by omega
              have HR := Lib.hid (show decide (200 < v) = false → v ≤ 200 ∧ v = (y0.x.os.length + y0.x.rs.length + y0.x.es.length + y0.x.gs.length) + gsum opZ y0.x.os + gsum enZ y0.x.es + gsum gfZ y0.x.gs from fun h => by have h0 := of_decide_eq_false h; have h1 := HV.out (by omega); rw [List.take_length] at h1; exact ⟨by omega, h1⟩)
              obtain ⟨bv, hbv⟩ : ∃ bv, decide (200 < v) = bv := ⟨_, rfl⟩
              have hbw : decide ((200 : Int) < (v : Int)) = bv := by rw [← hbv, Bool.eq_iff_iff, decide_eq_true_iff, decide_eq_true_iff]; omega
              have HBV := Lib.hid hbv
              go_wp2_with fail
              go_ret
              exact ⟨bv, rfl, fun h => by have h1 := HR.out (HBV.out.trans h); show greatN y0.x ≤ 200; unfold greatN; omega, hB⟩
end Go.Proofs.YtndahomgglpdhaaDoor

/- Of law 15: what isn't great may be asked. -/
namespace Go.Proofs.YtndahomgglpdhaaDoor
open Go.RowKit Nam Cod

theorem Kd.cat_sum {α : Type} (K : Kd α) (f : α → Nat) (c : Nat) : ∀ l : List α, (∀ x ∈ l, (K.b x).size ≤ c + f x) → (K.cat l).size ≤ (c + 99) * l.length + 100 * gsum f l
  | [], _ => Nat.zero_le _
  | x :: l, h => by
    have h1 := h x (by simp)
    have h2 := Kd.cat_sum K f c l (fun y hy => h y (by simp [hy]))
    rw [Kd.cat, ByteArray.size_append, List.length_cons, gsum, Nat.mul_add, Nat.mul_one, Nat.mul_add]
    omega
theorem text_leF {s : ByteArray} (h : s.size ≤ maxLen) : (textOf s).size ≤ 10 + s.size := by
  have := bytesOf_le10 (n := (s.size : Int)) (by unfold i64; unfold maxLen at h; omega)
  unfold textOf; rw [ByteArray.size_append]; omega
theorem opB_le {o : Mv} (h : Wide o.C o.D o.I o.M o.K o.U) (hs : o.s.size ≤ maxLen) : (o.bytes).size ≤ 70 + o.s.size := by
  have k1 := bytesOf_le10 h.c
  have k2 := bytesOf_le10 h.d
  have k3 := bytesOf_le10 h.i
  have k4 := bytesOf_le10 h.m
  have k5 := bytesOf_le10 h.k
  have k6 := bytesOf_le10 h.u
  have k7 := text_leF hs
  show (printOf o.C o.D o.I o.M o.K o.U o.s).size ≤ _
  unfold printOf
  simp only [ByteArray.size_append]
  omega
theorem enB_le {e : En} (h : EnW e) (hs : e.o.s.size ≤ maxLen) : (entBytes e).size ≤ 80 + e.o.s.size := by
  have k1 := bytesOf_le10 h.k
  have k2 := bytesOf_le10 h.d
  have k3 := bytesOf_le10 h.i
  have k4 := opB_le h.o hs
  unfold entBytes
  split
  · rw [ByteArray.size_append]; omega
  · rw [ByteArray.size_append, ByteArray.size_append]; omega
theorem gfB_le {g : Gf} (h : i64 g.d ∧ i64 g.i ∧ i64 g.c ∧ i64 g.t) (hs : g.s.size ≤ maxLen) : (gfBytes g).size ≤ 50 + g.s.size := by
  have k1 := bytesOf_le10 h.1
  have k2 := bytesOf_le10 h.2.1
  have k3 := bytesOf_le10 h.2.2.1
  have k4 := bytesOf_le10 h.2.2.2
  have k5 := text_leF hs
  unfold gfBytes
  simp only [ByteArray.size_append]
  omega
theorem FrN.small {x : Fr} (h : FrN x) (hg : greatN x ≤ 200) : FrW x := by
  unfold greatN at hg
  have b10 : ∀ n : Nat, n ≤ 1000 → (bytesOf (n : Int)).size ≤ 10 := fun n hn => bytesOf_le10 (by unfold i64; omega)
  refine ⟨h.n, fun o ho => ⟨(h.os o ho).1, ?_⟩, h.rs, fun e he => ⟨(h.es e he).1, ?_⟩, fun g hg2 => ⟨(h.gs g hg2).1.1, (h.gs g hg2).1.2.1, (h.gs g hg2).1.2.2.1, (h.gs g hg2).1.2.2.2, ?_⟩, by omega, ?_⟩
  · have h1 := gsum_one opZ x.os o ho
    have h2 : opZ o = o.s.size := rfl
    omega
  · have h1 := gsum_one enZ x.es e he
    have h2 : enZ e = e.o.s.size := rfl
    omega
  · have h1 := gsum_one gfZ x.gs g hg2
    have h2 : gfZ g = g.s.size := rfl
    omega
  · have h0 := catN_le (frL x) h.n
    rw [show (frL x).length = 10 from rfl] at h0
    have h1 := opK.cat_sum opZ 70 x.os (fun o ho => opB_le (h.os o ho).1 (h.os o ho).2)
    have h2 := rpK.cat_le 90 x.rs (fun r hr => by
      have := catN_le (rpL r) (h.rs r hr)
      rw [show (rpL r).length = 9 from rfl] at this
      exact this)
    have h3 := enK.cat_sum enZ 80 x.es (fun e he => enB_le (h.es e he).1 (h.es e he).2)
    have h4 := gfK.cat_sum gfZ 50 x.gs (fun g hg2 => gfB_le (h.gs g hg2).1 (h.gs g hg2).2)
    have b1 := b10 x.os.length (by omega)
    have b2 := b10 x.rs.length (by omega)
    have b3 := b10 x.es.length (by omega)
    have b4 := b10 x.gs.length (by omega)
    unfold bodyF Kd.part
    simp only [ByteArray.size_append]
    omega
end Go.Proofs.YtndahomgglpdhaaDoor

/- The document's Print of frames. -/
namespace Go.Proofs.YtndahomgglpdhaaDoor
open Go.RowKit Nam Cod

theorem idx10 (f : Fr) (w : World) : ∀ k, k < 10 → (Instr.index 82 (.agg #[.int .i64 f.a, .int .i64 f.b, .int .i64 f.boot, .int .i64 f.first, .int .i64 f.pos, .int .i64 f.start, .int .i64 f.ack, .int .i64 f.grant, .int .i64 f.s, .int .i64 f.t]) (.int .i64 (k : Nat))).run Tryd.prog w = .ok (.int .i64 ((frL f).getD k 0)) w
  | 0, _ => by kernel_rfl
  | 1, _ => by kernel_rfl
  | 2, _ => by kernel_rfl
  | 3, _ => by kernel_rfl
  | 4, _ => by kernel_rfl
  | 5, _ => by kernel_rfl
  | 6, _ => by kernel_rfl
  | 7, _ => by kernel_rfl
  | 8, _ => by kernel_rfl
  | 9, _ => by kernel_rfl
  | k + 10, h => absurd h (by omega)
theorem fr10_next (f : Fr) {k : Nat} (hk : k < 10) : catN ((frL f).take (k + 1)) = catN ((frL f).take k) ++ bytesOf ((frL f).getD k 0) := by
  have hl : k < (frL f).length := by simpa [frL] using hk
  rw [catN_next _ k hl, List.getD_eq_getElem?_getD, List.getElem?_eq_getElem hl]; rfl
theorem fr10_i64 {f : Fr} (h : ∀ n ∈ frL f, i64 n) {k : Nat} (hk : k < 10) : i64 ((frL f).getD k 0) := by
  rw [List.getD_eq_getElem?_getD, List.getElem?_eq_getElem (by simpa [frL] using hk)]
  exact h _ (List.getElem_mem _)

set_option maxRecDepth 100000 in
set_option maxHeartbeats 8000000 in
theorem refPrint15_any (y : Fw) (w : World) (hw : FrW y.x) (hok : y.ok w) : Calls Tryd.prog 17 #[.agg #[.int .i64 y.x.a, .int .i64 y.x.b, .int .i64 y.x.boot, .int .i64 y.x.first, .slice y.oA y.x.os.length y.oc, .int .i64 y.x.pos, .slice y.rA y.x.rs.length y.rc, .int .i64 y.x.start, .slice y.eA y.x.es.length y.ec, .int .i64 y.x.ack, .int .i64 y.x.grant, .int .i64 y.x.s, .int .i64 y.x.t, .slice y.gA y.x.gs.length y.gc]] w fun e w' => e = .returned (.string (frBytes y.x)) ∧ Below w.heap.size w w' := by
  have hP : frE.In (w.alloc (.cells #[.int .i64 y.x.a, .int .i64 y.x.b, .int .i64 y.x.boot, .int .i64 y.x.first, .slice y.oA y.x.os.length y.oc, .int .i64 y.x.pos, .slice y.rA y.x.rs.length y.rc, .int .i64 y.x.start, .slice y.eA y.x.es.length y.ec, .int .i64 y.x.ack, .int .i64 y.x.grant, .int .i64 y.x.s, .int .i64 y.x.t, .slice y.gA y.x.gs.length y.gc] 27)) w.heap.size y := El.In.new (E := frE) w y _ rfl
  have hB := below_alloc (Below.refl w.heap.size w) (.cells #[.int .i64 y.x.a, .int .i64 y.x.b, .int .i64 y.x.boot, .int .i64 y.x.first, .slice y.oA y.x.os.length y.oc, .int .i64 y.x.pos, .slice y.rA y.x.rs.length y.rc, .int .i64 y.x.start, .slice y.eA y.x.es.length y.ec, .int .i64 y.x.ack, .int .i64 y.x.grant, .int .i64 y.x.s, .int .i64 y.x.t, .slice y.gA y.x.gs.length y.gc] 27)
  have HOK := Lib.hid hok
  have hz := hw.z
  obtain ⟨l1, l2, l3, l4⟩ := hw.l
  unfold bodyF Kd.part at hz
  simp only [ByteArray.size_append] at hz
  have HWN := Lib.hid hw.n
  have HWO := Lib.hid hw.os
  have HWR := Lib.hid hw.rs
  have HWE := Lib.hid hw.es
  have HWG := Lib.hid hw.gs
  have HV := Lib.hid (show frBytes y.x = Crk.sealOf (bodyF y.x) from rfl)
  have HX := Lib.hid (show bodyF y.x = catN (frL y.x) ++ bytesOf y.x.os.length ++ opK.cat y.x.os ++ bytesOf y.x.rs.length ++ rpK.cat y.x.rs ++ bytesOf y.x.es.length ++ enK.cat y.x.es ++ bytesOf y.x.gs.length ++ gfK.cat y.x.gs by unfold bodyF Kd.part; simp only [ByteArray.append_assoc])
  clear hw hok
  go_enter Tryd.func17, Tryd.ntmps17
  go_upto_region 1 with fail
  generalize w.alloc (.cells #[.int .i64 y.x.a, .int .i64 y.x.b, .int .i64 y.x.boot, .int .i64 y.x.first, .slice y.oA y.x.os.length y.oc, .int .i64 y.x.pos, .slice y.rA y.x.rs.length y.rc, .int .i64 y.x.start, .slice y.eA y.x.es.length y.ec, .int .i64 y.x.ack, .int .i64 y.x.grant, .int .i64 y.x.s, .int .i64 y.x.t, .slice y.gA y.x.gs.length y.gc] 27) = W at *
  obtain ⟨n1, hn1⟩ : ∃ n, w.heap.size = n := ⟨_, rfl⟩
  rw [hn1] at hP ⊢
  clear hn1
  obtain ⟨p0, p1, p2, p3, p4, p5, p6, p7, p8, p9, p10, p11, p12, p13⟩ := frIn14 hP
  go_wp2_with fail
  clear p0 p1 p2 p3 p4 p5 p6 p7 p8 p9 p10 p11 p12 p13
  go_loopw [3, 31] (fun v i wr => ∃ k : Nat, k ≤ 10 ∧ i = .int .i64 k ∧ v = .string (catN ((frL y.x).take k)) ∧ frE.In wr n1 y ∧ Below w.heap.size w wr) (fun _ i _ => 10 - (intOf i).toNat)
  case atStart => exact ⟨0, Nat.zero_le _, rfl, rfl, hP, hB⟩
  case round =>
    clear hP hB
    obtain ⟨k, hk, rfl, rfl, hP, hB⟩ := hrel
    by_cases hkl : k < 10
    · have hx := fun wx => idx10 y.x wx k hkl
      have hi := fr10_i64 HWN.out hkl
      have HNX := Lib.hid (fr10_next y.x hkl)
      have hle := catN_le ((frL y.x).take k) (fun n hn => HWN.out n (List.mem_of_mem_take hn))
      rw [List.length_take] at hle
      generalize (frL y.x).getD k 0 = n at *
      have C := Lib.hid (fun wx => refNum_any n wx hi.1 hi.2)
      have hz1 := bytesOf_le10 hi
      generalize catN ((frL y.x).take k) = T at *
      generalize bytesOf n = x at *
      have hT : T.size ≤ 100 := by omega
      clear hi hle
      go_wp2_with fail
      refine (C.out _).mono ?_
      rintro e w2 ⟨rfl, hb2⟩
      replace hP := hP.below hb2
      replace hB := below_then hB hb2
      clear hb2
      go_wp2_with fail
      exact ⟨⟨k + 1, by omega, by go_num, by rw [HNX.out], hP, hB⟩, by simp [intOf]; omega⟩
    · obtain rfl : k = 10 := by omega
      have hv : catN ((frL y.x).take 10) = catN (frL y.x) := rfl
      rw [hv]
      clear hv hk hkl
      obtain ⟨X0, hX0⟩ : ∃ X, catN (frL y.x) = X := ⟨_, rfl⟩
      rw [hX0] at hz ⊢
      have HX0 := Lib.hid hX0
      clear hX0
      have C0 := Lib.hid (fun wx => refNum_any (y.x.os.length : Int) wx (by omega) (by omega))
      have hz0 : (bytesOf (y.x.os.length : Int)).size ≤ 10 := bytesOf_le10 (by unfold i64; omega)
      obtain ⟨N0, hN0⟩ : ∃ N, bytesOf (y.x.os.length : Int) = N := ⟨_, rfl⟩
      rw [hN0] at hz hz0 C0
      have HN0 := Lib.hid hN0
      have hy0 : ¬ 9223372036854775807 < X0.size + N0.size := by omega
      clear hN0
      have p4 := (frIn14 hP).2.2.2.2.1
      go_wp2_with fail
      refine (C0.out _).mono ?_
      rintro e w2 ⟨rfl, hb2⟩
      replace hP := hP.below hb2
      replace hB := below_then hB hb2
      clear hb2 C0 p4
      go_wp2_with fail
      clear hy0
      obtain ⟨Y0, hY0⟩ : ∃ Y, X0 ++ N0 = Y := ⟨_, rfl⟩
      have hYs0 : Y0.size = X0.size + N0.size := by rw [← hY0, ByteArray.size_append]
      rw [hY0]
      have HY0 := Lib.hid hY0
      have hst0 : Y0 = Y0 ++ opK.cat (y.x.os.take 0) := by rw [List.take_zero]; exact L_inj (by rw [L_app]; show L Y0 = L Y0 ++ L ⟨#[]⟩; simp [L])
      have HST0 := Lib.hid hst0
      clear hY0 hst0
      go_loopw [3, 6] (fun v i wr => ∃ k : Nat, k ≤ y.x.os.length ∧ i = .int .i64 k ∧ v = .string (Y0 ++ opK.cat (y.x.os.take k)) ∧ frE.In wr n1 y ∧ Below w.heap.size w wr) (fun _ i _ => y.x.os.length - (intOf i).toNat)
      case atStart => exact ⟨0, Nat.zero_le _, rfl, by rw [← HST0.out], hP, hB⟩
      case round =>
        clear hP hB
        obtain ⟨k, hk, rfl, rfl, hP, hB⟩ := hrel
        have p4 := (frIn14 hP).2.2.2.2.1
        by_cases hkl : k < y.x.os.length
        · obtain ⟨b, off, eA, hbw, hc⟩ := HOK.out.o.1 (by omega)
          have hx := opIdxF (cap := y.oc) eA hkl
          have hat : opE.At wr b (off + k * 7) _ := (hc k hkl).below hB hbw
          have hit := opK.item_le y.x.os k hkl
          have HNX := Lib.hid (show Y0 ++ opK.cat (y.x.os.take (k + 1)) = Y0 ++ opK.cat (y.x.os.take k) ++ opK.b y.x.os[k] by rw [opK.cat_next y.x.os k hkl, ByteArray.append_assoc])
          have hxm : y.x.os[k] ∈ y.x.os := List.getElem_mem _
          generalize y.x.os[k] = x at *
          have hss : (Y0 ++ opK.cat (y.x.os.take k)).size = Y0.size + (opK.cat (y.x.os.take k)).size := ByteArray.size_append
          have CI := Lib.hid (fun wx => (show Calls Tryd.prog 48 #[.agg #[.int .i64 x.C, .int .i64 x.D, .int .i64 x.I, .int .i64 x.M, .int .i64 x.K, .int .i64 x.U, .string x.s]] wx fun e w' => e = .returned (.string (opK.b x)) ∧ Below wx.heap.size wx w' from opRefP_mv x wx (HWO.out x hxm).1 (HWO.out x hxm).2))
          generalize Y0 ++ opK.cat (y.x.os.take k) = Z at *
          generalize opK.b x = B at *
          have hzz : ¬ 9223372036854775807 < Z.size + B.size := by omega
          clear hc eA hit hss hxm
          go_wp2_with (first | (refine El.load opRow rfl _ rfl b (off + k * 7) rfl x hat #[.int .i64 x.C, .int .i64 x.D, .int .i64 x.I, .int .i64 x.M, .int .i64 x.K, .int .i64 x.U, .string x.s] rfl ?_) | fail)
          refine (CI.out _).mono ?_
          rintro e w2 ⟨rfl, hb2⟩
          replace hP := hP.below hb2
          replace hB := below_then hB hb2
          clear hb2 CI hat p4
          go_wp2_with fail
          exact ⟨⟨k + 1, by omega, by go_num, by rw [HNX.out], hP, hB⟩, by simp [intOf]; omega⟩
        · obtain rfl : k = y.x.os.length := by omega
          rw [List.take_length]
          obtain ⟨X1, hX1⟩ : ∃ X, Y0 ++ opK.cat y.x.os = X := ⟨_, rfl⟩
          have hXs1 : X1.size = Y0.size + (opK.cat y.x.os).size := by rw [← hX1, ByteArray.size_append]
          rw [hX1]
          have HX1 := Lib.hid hX1
          clear hX1 hk hkl
          have C1 := Lib.hid (fun wx => refNum_any (y.x.rs.length : Int) wx (by omega) (by omega))
          have hz1 : (bytesOf (y.x.rs.length : Int)).size ≤ 10 := bytesOf_le10 (by unfold i64; omega)
          obtain ⟨N1, hN1⟩ : ∃ N, bytesOf (y.x.rs.length : Int) = N := ⟨_, rfl⟩
          rw [hN1] at hz hz1 C1
          have HN1 := Lib.hid hN1
          have hy1 : ¬ 9223372036854775807 < X1.size + N1.size := by omega
          clear hN1
          have p6 := (frIn14 hP).2.2.2.2.2.2.1
          go_wp2_with fail
          refine (C1.out _).mono ?_
          rintro e w2 ⟨rfl, hb2⟩
          replace hP := hP.below hb2
          replace hB := below_then hB hb2
          clear hb2 C1 p6
          go_wp2_with fail
          clear hy1
          obtain ⟨Y1, hY1⟩ : ∃ Y, X1 ++ N1 = Y := ⟨_, rfl⟩
          have hYs1 : Y1.size = X1.size + N1.size := by rw [← hY1, ByteArray.size_append]
          rw [hY1]
          have HY1 := Lib.hid hY1
          have hst1 : Y1 = Y1 ++ rpK.cat (y.x.rs.take 0) := by rw [List.take_zero]; exact L_inj (by rw [L_app]; show L Y1 = L Y1 ++ L ⟨#[]⟩; simp [L])
          have HST1 := Lib.hid hst1
          clear hY1 hst1
          go_loopw [3, 7] (fun v i wr => ∃ k : Nat, k ≤ y.x.rs.length ∧ i = .int .i64 k ∧ v = .string (Y1 ++ rpK.cat (y.x.rs.take k)) ∧ frE.In wr n1 y ∧ Below w.heap.size w wr) (fun _ i _ => y.x.rs.length - (intOf i).toNat)
          case atStart => exact ⟨0, Nat.zero_le _, rfl, by rw [← HST1.out], hP, hB⟩
          case round =>
            clear hP hB
            obtain ⟨k, hk, rfl, rfl, hP, hB⟩ := hrel
            have p6 := (frIn14 hP).2.2.2.2.2.2.1
            by_cases hkl : k < y.x.rs.length
            · obtain ⟨b, off, eA, hbw, hc⟩ := HOK.out.r.1 (by omega)
              have hx := rpIdxH (cap := y.rc) eA hkl
              have hat : rpE.At wr b (off + k * 9) _ := (hc k hkl).below hB hbw
              have hit := rpK.item_le y.x.rs k hkl
              have HNX := Lib.hid (show Y1 ++ rpK.cat (y.x.rs.take (k + 1)) = Y1 ++ rpK.cat (y.x.rs.take k) ++ rpK.b y.x.rs[k] by rw [rpK.cat_next y.x.rs k hkl, ByteArray.append_assoc])
              have hxm : y.x.rs[k] ∈ y.x.rs := List.getElem_mem _
              generalize y.x.rs[k] = x at *
              have hss : (Y1 ++ rpK.cat (y.x.rs.take k)).size = Y1.size + (rpK.cat (y.x.rs.take k)).size := ByteArray.size_append
              have CI := Lib.hid (fun wx => (show Calls Tryd.prog 49 #[.agg #[.int .i64 x.d, .int .i64 x.i, .int .i64 x.b, .int .i64 x.t, .int .i64 x.m, .int .i64 x.p, .int .i64 x.c, .int .i64 x.s, .int .i64 x.k]] wx fun e w' => e = .returned (.string (rpK.b x)) ∧ Below wx.heap.size wx w' from refRpPrint_any x wx (HWR.out x hxm)))
              generalize Y1 ++ rpK.cat (y.x.rs.take k) = Z at *
              generalize rpK.b x = B at *
              have hzz : ¬ 9223372036854775807 < Z.size + B.size := by omega
              clear hc eA hit hss hxm
              go_wp2_with (first | (refine El.load rpRow rfl _ rfl b (off + k * 9) rfl x hat #[.int .i64 x.d, .int .i64 x.i, .int .i64 x.b, .int .i64 x.t, .int .i64 x.m, .int .i64 x.p, .int .i64 x.c, .int .i64 x.s, .int .i64 x.k] rfl ?_) | fail)
              refine (CI.out _).mono ?_
              rintro e w2 ⟨rfl, hb2⟩
              replace hP := hP.below hb2
              replace hB := below_then hB hb2
              clear hb2 CI hat p6
              go_wp2_with fail
              exact ⟨⟨k + 1, by omega, by go_num, by rw [HNX.out], hP, hB⟩, by simp [intOf]; omega⟩
            · obtain rfl : k = y.x.rs.length := by omega
              rw [List.take_length]
              obtain ⟨X2, hX2⟩ : ∃ X, Y1 ++ rpK.cat y.x.rs = X := ⟨_, rfl⟩
              have hXs2 : X2.size = Y1.size + (rpK.cat y.x.rs).size := by rw [← hX2, ByteArray.size_append]
              rw [hX2]
              have HX2 := Lib.hid hX2
              clear hX2 hk hkl
              have C2 := Lib.hid (fun wx => refNum_any (y.x.es.length : Int) wx (by omega) (by omega))
              have hz2 : (bytesOf (y.x.es.length : Int)).size ≤ 10 := bytesOf_le10 (by unfold i64; omega)
              obtain ⟨N2, hN2⟩ : ∃ N, bytesOf (y.x.es.length : Int) = N := ⟨_, rfl⟩
              rw [hN2] at hz hz2 C2
              have HN2 := Lib.hid hN2
              have hy2 : ¬ 9223372036854775807 < X2.size + N2.size := by omega
              clear hN2
              have p8 := (frIn14 hP).2.2.2.2.2.2.2.2.1
              go_wp2_with fail
              refine (C2.out _).mono ?_
              rintro e w2 ⟨rfl, hb2⟩
              replace hP := hP.below hb2
              replace hB := below_then hB hb2
              clear hb2 C2 p8
              go_wp2_with fail
              clear hy2
              obtain ⟨Y2, hY2⟩ : ∃ Y, X2 ++ N2 = Y := ⟨_, rfl⟩
              have hYs2 : Y2.size = X2.size + N2.size := by rw [← hY2, ByteArray.size_append]
              rw [hY2]
              have HY2 := Lib.hid hY2
              have hst2 : Y2 = Y2 ++ enK.cat (y.x.es.take 0) := by rw [List.take_zero]; exact L_inj (by rw [L_app]; show L Y2 = L Y2 ++ L ⟨#[]⟩; simp [L])
              have HST2 := Lib.hid hst2
              clear hY2 hst2
              go_loopw [3, 8] (fun v i wr => ∃ k : Nat, k ≤ y.x.es.length ∧ i = .int .i64 k ∧ v = .string (Y2 ++ enK.cat (y.x.es.take k)) ∧ frE.In wr n1 y ∧ Below w.heap.size w wr) (fun _ i _ => y.x.es.length - (intOf i).toNat)
              case atStart => exact ⟨0, Nat.zero_le _, rfl, by rw [← HST2.out], hP, hB⟩
              case round =>
                clear hP hB
                obtain ⟨k, hk, rfl, rfl, hP, hB⟩ := hrel
                have p8 := (frIn14 hP).2.2.2.2.2.2.2.2.1
                by_cases hkl : k < y.x.es.length
                · obtain ⟨b, off, eA, hbw, hc⟩ := HOK.out.e.1 (by omega)
                  have hx := enIdxF (cap := y.ec) eA hkl
                  have hat : enE.At wr b (off + k * 10) _ := (hc k hkl).below hB hbw
                  have hit := enK.item_le y.x.es k hkl
                  have HNX := Lib.hid (show Y2 ++ enK.cat (y.x.es.take (k + 1)) = Y2 ++ enK.cat (y.x.es.take k) ++ enK.b y.x.es[k] by rw [enK.cat_next y.x.es k hkl, ByteArray.append_assoc])
                  have hxm : y.x.es[k] ∈ y.x.es := List.getElem_mem _
                  generalize y.x.es[k] = x at *
                  have hss : (Y2 ++ enK.cat (y.x.es.take k)).size = Y2.size + (enK.cat (y.x.es.take k)).size := ByteArray.size_append
                  have CI := Lib.hid (fun wx => (show Calls Tryd.prog 50 #[.agg #[.int .i64 x.k, .int .i64 x.d, .int .i64 x.i, .int .i64 x.o.C, .int .i64 x.o.D, .int .i64 x.o.I, .int .i64 x.o.M, .int .i64 x.o.K, .int .i64 x.o.U, .string x.o.s]] wx fun e w' => e = .returned (.string (enK.b x)) ∧ Below wx.heap.size wx w' from refEntPrint_any x wx (HWE.out x hxm).1 (HWE.out x hxm).2))
                  generalize Y2 ++ enK.cat (y.x.es.take k) = Z at *
                  generalize enK.b x = B at *
                  have hzz : ¬ 9223372036854775807 < Z.size + B.size := by omega
                  clear hc eA hit hss hxm
                  go_wp2_with (first | (refine El.load enRow rfl _ rfl b (off + k * 10) rfl x hat #[.int .i64 x.k, .int .i64 x.d, .int .i64 x.i, .int .i64 x.o.C, .int .i64 x.o.D, .int .i64 x.o.I, .int .i64 x.o.M, .int .i64 x.o.K, .int .i64 x.o.U, .string x.o.s] rfl ?_) | fail)
                  refine (CI.out _).mono ?_
                  rintro e w2 ⟨rfl, hb2⟩
                  replace hP := hP.below hb2
                  replace hB := below_then hB hb2
                  clear hb2 CI hat p8
                  go_wp2_with fail
                  exact ⟨⟨k + 1, by omega, by go_num, by rw [HNX.out], hP, hB⟩, by simp [intOf]; omega⟩
                · obtain rfl : k = y.x.es.length := by omega
                  rw [List.take_length]
                  obtain ⟨X3, hX3⟩ : ∃ X, Y2 ++ enK.cat y.x.es = X := ⟨_, rfl⟩
                  have hXs3 : X3.size = Y2.size + (enK.cat y.x.es).size := by rw [← hX3, ByteArray.size_append]
                  rw [hX3]
                  have HX3 := Lib.hid hX3
                  clear hX3 hk hkl
                  have C3 := Lib.hid (fun wx => refNum_any (y.x.gs.length : Int) wx (by omega) (by omega))
                  have hz3 : (bytesOf (y.x.gs.length : Int)).size ≤ 10 := bytesOf_le10 (by unfold i64; omega)
                  obtain ⟨N3, hN3⟩ : ∃ N, bytesOf (y.x.gs.length : Int) = N := ⟨_, rfl⟩
                  rw [hN3] at hz hz3 C3
                  have HN3 := Lib.hid hN3
                  have hy3 : ¬ 9223372036854775807 < X3.size + N3.size := by omega
                  clear hN3
                  have p13 := (frIn14 hP).2.2.2.2.2.2.2.2.2.2.2.2.2
                  go_wp2_with fail
                  refine (C3.out _).mono ?_
                  rintro e w2 ⟨rfl, hb2⟩
                  replace hP := hP.below hb2
                  replace hB := below_then hB hb2
                  clear hb2 C3 p13
                  go_wp2_with fail
                  clear hy3
                  obtain ⟨Y3, hY3⟩ : ∃ Y, X3 ++ N3 = Y := ⟨_, rfl⟩
                  have hYs3 : Y3.size = X3.size + N3.size := by rw [← hY3, ByteArray.size_append]
                  rw [hY3]
                  have HY3 := Lib.hid hY3
                  have hst3 : Y3 = Y3 ++ gfK.cat (y.x.gs.take 0) := by rw [List.take_zero]; exact L_inj (by rw [L_app]; show L Y3 = L Y3 ++ L ⟨#[]⟩; simp [L])
                  have HST3 := Lib.hid hst3
                  clear hY3 hst3
                  go_loopw [3, 9] (fun v i wr => ∃ k : Nat, k ≤ y.x.gs.length ∧ i = .int .i64 k ∧ v = .string (Y3 ++ gfK.cat (y.x.gs.take k)) ∧ frE.In wr n1 y ∧ Below w.heap.size w wr) (fun _ i _ => y.x.gs.length - (intOf i).toNat)
                  case atStart => exact ⟨0, Nat.zero_le _, rfl, by rw [← HST3.out], hP, hB⟩
                  case round =>
                    clear hP hB
                    obtain ⟨k, hk, rfl, rfl, hP, hB⟩ := hrel
                    have p13 := (frIn14 hP).2.2.2.2.2.2.2.2.2.2.2.2.2
                    by_cases hkl : k < y.x.gs.length
                    · obtain ⟨b, off, eA, hbw, hc⟩ := HOK.out.g.1 (by omega)
                      have hx := gfIdxH (cap := y.gc) eA hkl
                      have hat : gfE.At wr b (off + k * 5) _ := (hc k hkl).below hB hbw
                      have hit := gfK.item_le y.x.gs k hkl
                      have HNX := Lib.hid (show Y3 ++ gfK.cat (y.x.gs.take (k + 1)) = Y3 ++ gfK.cat (y.x.gs.take k) ++ gfK.b y.x.gs[k] by rw [gfK.cat_next y.x.gs k hkl, ByteArray.append_assoc])
                      have hxm : y.x.gs[k] ∈ y.x.gs := List.getElem_mem _
                      generalize y.x.gs[k] = x at *
                      have hss : (Y3 ++ gfK.cat (y.x.gs.take k)).size = Y3.size + (gfK.cat (y.x.gs.take k)).size := ByteArray.size_append
                      have CI := Lib.hid (fun wx => (show Calls Tryd.prog 13 #[.agg #[.int .i64 x.d, .int .i64 x.i, .int .i64 x.c, .int .i64 x.t, .string x.s]] wx fun e w' => e = .returned (.string (gfK.b x)) ∧ Below wx.heap.size wx w' from refPrintGift_any x wx (HWG.out x hxm)))
                      generalize Y3 ++ gfK.cat (y.x.gs.take k) = Z at *
                      generalize gfK.b x = B at *
                      have hzz : ¬ 9223372036854775807 < Z.size + B.size := by omega
                      clear hc eA hit hss hxm
                      go_wp2_with (first | (refine El.load gfRow rfl _ rfl b (off + k * 5) rfl x hat #[.int .i64 x.d, .int .i64 x.i, .int .i64 x.c, .int .i64 x.t, .string x.s] rfl ?_) | fail)
                      refine (CI.out _).mono ?_
                      rintro e w2 ⟨rfl, hb2⟩
                      replace hP := hP.below hb2
                      replace hB := below_then hB hb2
                      clear hb2 CI hat p13
                      go_wp2_with fail
                      exact ⟨⟨k + 1, by omega, by go_num, by rw [HNX.out], hP, hB⟩, by simp [intOf]; omega⟩
                    · obtain rfl : k = y.x.gs.length := by omega
                      rw [List.take_length]
                      obtain ⟨X4, hX4⟩ : ∃ X, Y3 ++ gfK.cat y.x.gs = X := ⟨_, rfl⟩
                      have hXs4 : X4.size = Y3.size + (gfK.cat y.x.gs).size := by rw [← hX4, ByteArray.size_append]
                      rw [hX4]
                      have HX4 := Lib.hid hX4
                      clear hX4 hk hkl
                      have hfin : X4 = bodyF y.x := by rw [HX.out, ← HX4.out, ← HY3.out, ← HX3.out, ← HY2.out, ← HX2.out, ← HY1.out, ← HX1.out, ← HY0.out, HX0.out, HN0.out, HN1.out, HN2.out, HN3.out]
                      have CSL := Lib.hid (fun wx => Crk.refSeal_any X4 wx (by omega))
                      have HF := Lib.hid hfin
                      clear hfin
                      go_wp2_with fail
                      refine (CSL.out _).mono ?_
                      rintro e w2 ⟨rfl, hb2⟩
                      go_wp2_with fail
                      go_ret
                      exact ⟨by rw [HV.out, HF.out]; rfl, below_then hB hb2⟩
end Go.Proofs.YtndahomgglpdhaaDoor

/- The document's Right of frames. -/
namespace Go.Proofs.YtndahomgglpdhaaDoor
open Go.RowKit Nam Cod

theorem idx6 (f : Fr) (w : World) : ∀ k, k < 6 → (Instr.index 65 (.agg #[.int .i64 f.boot, .int .i64 f.pos, .int .i64 f.ack, .int .i64 f.grant, .int .i64 f.s, .int .i64 f.t]) (.int .i64 (k : Nat))).run Tryd.prog w = .ok (.int .i64 ((fr6 f).getD k 0)) w
  | 0, _ => by kernel_rfl
  | 1, _ => by kernel_rfl
  | 2, _ => by kernel_rfl
  | 3, _ => by kernel_rfl
  | 4, _ => by kernel_rfl
  | 5, _ => by kernel_rfl
  | k + 6, h => absurd h (by omega)
theorem frB_six {f : Fr} {k : Nat} (h : k < 6) (hn : cnt0 ((fr6 f).getD k 0) = false) : frB f = false := by
  have h1 : (fr6 f).all cnt0 = false := by
    rw [Bool.eq_false_iff]; intro ha
    rw [List.all_eq_true] at ha
    have := ha ((fr6 f).getD k 0) (by
      rw [List.getD_eq_getElem?_getD, List.getElem?_eq_getElem (by simpa [fr6] using h)]
      exact List.getElem_mem _)
    rw [hn] at this; cases this
  unfold frB
  rw [h1, Bool.false_and]
theorem fr6_all {f : Fr} (h : ∀ k, k < 6 → cnt0 ((fr6 f).getD k 0) = true) : (fr6 f).all cnt0 = true := by
  rw [List.all_eq_true]
  intro n hn
  obtain ⟨k, hk, rfl⟩ := List.getElem_of_mem hn
  have h2 : k < 6 := by simpa [fr6] using hk
  have := h k h2
  rw [List.getD_eq_getElem?_getD, List.getElem?_eq_getElem hk] at this
  exact this
theorem all_noF {α : Type} {p : α → Bool} {l : List α} {x : α} (hx : x ∈ l) (h : p x = false) : l.all p = false := by
  rw [Bool.eq_false_iff]; intro ha
  rw [List.all_eq_true] at ha
  have := ha x hx
  rw [h] at this; cases this
theorem all_toF {α : Type} {p : α → Bool} {l : List α} (h : ∀ j (hj : j < l.length), p l[j] = true) : l.all p = true := by
  rw [List.all_eq_true]
  intro x hx
  obtain ⟨j, hj, rfl⟩ := List.getElem_of_mem hx
  exact h j hj
theorem frB_os {f : Fr} (h : f.os.all okB = false) : frB f = false := by unfold frB; rw [h]; simp
theorem frB_es {f : Fr} (h : f.es.all entB = false) : frB f = false := by unfold frB; rw [h]; simp
theorem frB_rs {f : Fr} (h : f.rs.all rpB = false) : frB f = false := by unfold frB; rw [h]; simp
theorem frB_gs {f : Fr} (h : f.gs.all gfB = false) : frB f = false := by unfold frB; rw [h]; simp
theorem frB_end {f : Fr} (h0 : (fr6 f).all cnt0 = true) (h1 : f.os.all okB = true) (h2 : f.es.all entB = true) (h3 : f.rs.all rpB = true) (h4 : f.gs.all gfB = true) : frB f = frEnd f := by
  unfold frB; rw [h0, h1, h2, h3, h4]; simp

set_option maxRecDepth 100000 in
set_option maxHeartbeats 16000000 in
theorem refRight15_any (y : Fw) (w : World) (hw : FrW y.x) (hok : y.ok w) : Calls Tryd.prog 15 #[.agg #[.int .i64 y.x.a, .int .i64 y.x.b, .int .i64 y.x.boot, .int .i64 y.x.first, .slice y.oA y.x.os.length y.oc, .int .i64 y.x.pos, .slice y.rA y.x.rs.length y.rc, .int .i64 y.x.start, .slice y.eA y.x.es.length y.ec, .int .i64 y.x.ack, .int .i64 y.x.grant, .int .i64 y.x.s, .int .i64 y.x.t, .slice y.gA y.x.gs.length y.gc]] w fun e w' => e = .returned (.bool (frB y.x)) ∧ Below w.heap.size w w' := by
  have hP : frE.In (w.alloc (.cells #[.int .i64 y.x.a, .int .i64 y.x.b, .int .i64 y.x.boot, .int .i64 y.x.first, .slice y.oA y.x.os.length y.oc, .int .i64 y.x.pos, .slice y.rA y.x.rs.length y.rc, .int .i64 y.x.start, .slice y.eA y.x.es.length y.ec, .int .i64 y.x.ack, .int .i64 y.x.grant, .int .i64 y.x.s, .int .i64 y.x.t, .slice y.gA y.x.gs.length y.gc] 27)) w.heap.size y := El.In.new (E := frE) w y _ rfl
  have hB := below_alloc (Below.refl w.heap.size w) (.cells #[.int .i64 y.x.a, .int .i64 y.x.b, .int .i64 y.x.boot, .int .i64 y.x.first, .slice y.oA y.x.os.length y.oc, .int .i64 y.x.pos, .slice y.rA y.x.rs.length y.rc, .int .i64 y.x.start, .slice y.eA y.x.es.length y.ec, .int .i64 y.x.ack, .int .i64 y.x.grant, .int .i64 y.x.s, .int .i64 y.x.t, .slice y.gA y.x.gs.length y.gc] 27)
  have HOK := Lib.hid hok
  obtain ⟨l1, l2, l3, l4⟩ := hw.l
  have HWO := Lib.hid hw.os
  have HWE := Lib.hid hw.es
  have HWG := Lib.hid hw.gs
  obtain ⟨bv, hbv⟩ : ∃ bv, frB y.x = bv := ⟨_, rfl⟩
  rw [hbv]
  have HV := Lib.hid hbv
  have HC0 := Lib.hid (fun (j : Nat) (hj : j < 0) => (absurd hj (Nat.not_lt_zero j) : cnt0 ((fr6 y.x).getD j 0) = true))
  clear hbv hw hok
  go_enter Tryd.func15, Tryd.ntmps15
  go_upto_region 1 with fail
  generalize w.alloc (.cells #[.int .i64 y.x.a, .int .i64 y.x.b, .int .i64 y.x.boot, .int .i64 y.x.first, .slice y.oA y.x.os.length y.oc, .int .i64 y.x.pos, .slice y.rA y.x.rs.length y.rc, .int .i64 y.x.start, .slice y.eA y.x.es.length y.ec, .int .i64 y.x.ack, .int .i64 y.x.grant, .int .i64 y.x.s, .int .i64 y.x.t, .slice y.gA y.x.gs.length y.gc] 27) = W at *
  obtain ⟨n1, hn1⟩ : ∃ n, w.heap.size = n := ⟨_, rfl⟩
  rw [hn1] at hP ⊢
  clear hn1
  obtain ⟨p0, p1, p2, p3, p4, p5, p6, p7, p8, p9, p10, p11, p12, p13⟩ := frIn14 hP
  go_wp2_with fail
  clear p0 p1 p2 p3 p4 p5 p6 p7 p8 p9 p10 p11 p12 p13
  go_loopw [22] (fun i wr => ∃ k : Nat, k ≤ 6 ∧ i = .int .i64 k ∧ Hid (∀ j, j < k → cnt0 ((fr6 y.x).getD j 0) = true) ∧ W = wr) (fun i _ => 6 - (intOf i).toNat)
  case atStart => exact ⟨0, Nat.zero_le _, rfl, HC0, rfl⟩
  case round =>
    clear HC0
    obtain ⟨k, hk, rfl, HC, rfl⟩ := hrel
    by_cases hkl : k < 6
    · have hx := fun wx => idx6 y.x wx k hkl
      have HO := Lib.hid (frB_six (f := y.x) hkl)
      have HN := Lib.hid (fun (h : cnt0 ((fr6 y.x).getD k 0) = true) (j : Nat) (hj : j < k + 1) => (by
        by_cases e : j < k
        · exact HC.out j e
        · obtain rfl : j = k := by omega
          exact h : cnt0 ((fr6 y.x).getD j 0) = true))
      generalize (fr6 y.x).getD k 0 = n at *
      by_cases h0 : n < 0
      · have hv := HO.out (by unfold cnt0; exact decide_eq_false (by omega))
        obtain rfl : false = bv := hv.symm.trans HV.out
        have f1 : decide (n < 0) = true := decide_eq_true h0
        clear hv
        go_wp2_with fail
        go_ret
        exact ⟨rfl, hB⟩
      · have f1 : decide (n < 0) = false := decide_eq_false h0
        by_cases h1 : 1099511627776 < n
        · have hv := HO.out (by unfold cnt0; exact decide_eq_false (by omega))
          obtain rfl : false = bv := hv.symm.trans HV.out
          have f2 : decide (1099511627776 < n) = true := decide_eq_true h1
          clear hv
          go_wp2_with fail
          go_ret
          exact ⟨rfl, hB⟩
        · have f2 : decide (1099511627776 < n) = false := decide_eq_false h1
          have HN2 := Lib.hid (HN.out (by unfold cnt0; exact decide_eq_true (by omega)))
          go_wp2_with fail
          exact ⟨⟨k + 1, by omega, by go_num, HN2, by trivial⟩, by simp [intOf]; omega⟩
    · obtain rfl : k = 6 := by omega
      simp only [show ((6 : Nat) : Int) = (6 : Int) from rfl]
      have HSIX := Lib.hid (fr6_all HC.out)
      clear HC hk hkl
      have p4 := (frIn14 hP).2.2.2.2.1
      go_wp2_with fail
      have HA0 := Lib.hid (fun (j : Nat) (hj : j < 0) (h : j < y.x.os.length) => (absurd hj (Nat.not_lt_zero j) : okB y.x.os[j] = true))
      clear p4
      go_loopw [5] (fun i wr => ∃ k : Nat, k ≤ y.x.os.length ∧ i = .int .i64 k ∧ Hid (∀ j, j < k → ∀ h : j < y.x.os.length, okB y.x.os[j] = true) ∧ frE.In wr n1 y ∧ Below w.heap.size w wr) (fun i _ => y.x.os.length - (intOf i).toNat)
      case atStart => exact ⟨0, Nat.zero_le _, rfl, HA0, hP, hB⟩
      case round =>
        clear hP hB HA0
        obtain ⟨k, hk, rfl, HC, hP, hB⟩ := hrel
        have p4 := (frIn14 hP).2.2.2.2.1
        by_cases hkl : k < y.x.os.length
        · obtain ⟨b, off, eA, hbw, hc⟩ := HOK.out.o.1 (by omega)
          have hx := opIdxF (cap := y.oc) eA hkl
          have hat : opE.At wr b (off + k * 7) _ := (hc k hkl).below hB hbw
          have hxm : y.x.os[k] ∈ y.x.os := List.getElem_mem _
          have HO := Lib.hid (fun (h : okB y.x.os[k] = false) => frB_os (all_noF hxm h))
          have HN := Lib.hid (fun (h : okB y.x.os[k] = true) (j : Nat) (hj : j < k + 1) (h2 : j < y.x.os.length) => (by
            by_cases e : j < k
            · exact HC.out j e h2
            · obtain rfl : j = k := by omega
              exact h : okB y.x.os[j] = true))
          generalize y.x.os[k] = x at *
          have CI := Lib.hid (fun wx => (show Calls Tryd.prog 35 #[.agg #[.int .i64 x.C, .int .i64 x.D, .int .i64 x.I, .int .i64 x.M, .int .i64 x.K, .int .i64 x.U, .string x.s]] wx fun e w' => e = .returned (.bool (okB x)) ∧ Below wx.heap.size wx w' from opRef_mv x wx (by have := (HWO.out x hxm).2; omega)))
          clear hc eA hxm
          cases hb : okB x with
          | false =>
            rw [hb] at CI
            obtain rfl : false = bv := (HO.out hb).symm.trans HV.out
            clear hb HO HN
            go_wp2_with (first | (refine El.load opRow rfl _ rfl b (off + k * 7) rfl x hat #[.int .i64 x.C, .int .i64 x.D, .int .i64 x.I, .int .i64 x.M, .int .i64 x.K, .int .i64 x.U, .string x.s] rfl ?_) | fail)
            refine (CI.out _).mono ?_
            rintro e w2 ⟨rfl, hb2⟩
            go_wp2_with fail
            go_ret
            exact ⟨rfl, below_then hB hb2⟩
          | true =>
            rw [hb] at CI
            have HN2 := Lib.hid (HN.out hb)
            clear hb HO HN
            go_wp2_with (first | (refine El.load opRow rfl _ rfl b (off + k * 7) rfl x hat #[.int .i64 x.C, .int .i64 x.D, .int .i64 x.I, .int .i64 x.M, .int .i64 x.K, .int .i64 x.U, .string x.s] rfl ?_) | fail)
            refine (CI.out _).mono ?_
            rintro e w2 ⟨rfl, hb2⟩
            replace hP := hP.below hb2
            replace hB := below_then hB hb2
            clear hb2 CI hat p4
            go_wp2_with fail
            go_roundw
            case rel => exact ⟨k + 1, by omega, by go_num, HN2, hP, hB⟩
            case measure => simp [intOf]; omega
        · obtain rfl : k = y.x.os.length := by omega
          have HALL0 := Lib.hid (all_toF (p := okB) (l := y.x.os) fun j hj => HC.out j hj hj)
          clear HC hk hkl
          have p8 := (frIn14 hP).2.2.2.2.2.2.2.2.1
          go_wp2_with fail
          have HA1 := Lib.hid (fun (j : Nat) (hj : j < 0) (h : j < y.x.es.length) => (absurd hj (Nat.not_lt_zero j) : entB y.x.es[j] = true))
          clear p8
          go_loopw [6] (fun i wr => ∃ k : Nat, k ≤ y.x.es.length ∧ i = .int .i64 k ∧ Hid (∀ j, j < k → ∀ h : j < y.x.es.length, entB y.x.es[j] = true) ∧ frE.In wr n1 y ∧ Below w.heap.size w wr) (fun i _ => y.x.es.length - (intOf i).toNat)
          case atStart => exact ⟨0, Nat.zero_le _, rfl, HA1, hP, hB⟩
          case round =>
            clear hP hB HA1
            obtain ⟨k, hk, rfl, HC, hP, hB⟩ := hrel
            have p8 := (frIn14 hP).2.2.2.2.2.2.2.2.1
            by_cases hkl : k < y.x.es.length
            · obtain ⟨b, off, eA, hbw, hc⟩ := HOK.out.e.1 (by omega)
              have hx := enIdxF (cap := y.ec) eA hkl
              have hat : enE.At wr b (off + k * 10) _ := (hc k hkl).below hB hbw
              have hxm : y.x.es[k] ∈ y.x.es := List.getElem_mem _
              have HO := Lib.hid (fun (h : entB y.x.es[k] = false) => frB_es (all_noF hxm h))
              have HN := Lib.hid (fun (h : entB y.x.es[k] = true) (j : Nat) (hj : j < k + 1) (h2 : j < y.x.es.length) => (by
                by_cases e : j < k
                · exact HC.out j e h2
                · obtain rfl : j = k := by omega
                  exact h : entB y.x.es[j] = true))
              generalize y.x.es[k] = x at *
              have CI := Lib.hid (fun wx => (show Calls Tryd.prog 36 #[.agg #[.int .i64 x.k, .int .i64 x.d, .int .i64 x.i, .int .i64 x.o.C, .int .i64 x.o.D, .int .i64 x.o.I, .int .i64 x.o.M, .int .i64 x.o.K, .int .i64 x.o.U, .string x.o.s]] wx fun e w' => e = .returned (.bool (entB x)) ∧ Below wx.heap.size wx w' from refEntRight_any x wx (by have := (HWE.out x hxm).2; omega)))
              clear hc eA hxm
              cases hb : entB x with
              | false =>
                rw [hb] at CI
                obtain rfl : false = bv := (HO.out hb).symm.trans HV.out
                clear hb HO HN
                go_wp2_with (first | (refine El.load enRow rfl _ rfl b (off + k * 10) rfl x hat #[.int .i64 x.k, .int .i64 x.d, .int .i64 x.i, .int .i64 x.o.C, .int .i64 x.o.D, .int .i64 x.o.I, .int .i64 x.o.M, .int .i64 x.o.K, .int .i64 x.o.U, .string x.o.s] rfl ?_) | fail)
                refine (CI.out _).mono ?_
                rintro e w2 ⟨rfl, hb2⟩
                go_wp2_with fail
                go_ret
                exact ⟨rfl, below_then hB hb2⟩
              | true =>
                rw [hb] at CI
                have HN2 := Lib.hid (HN.out hb)
                clear hb HO HN
                go_wp2_with (first | (refine El.load enRow rfl _ rfl b (off + k * 10) rfl x hat #[.int .i64 x.k, .int .i64 x.d, .int .i64 x.i, .int .i64 x.o.C, .int .i64 x.o.D, .int .i64 x.o.I, .int .i64 x.o.M, .int .i64 x.o.K, .int .i64 x.o.U, .string x.o.s] rfl ?_) | fail)
                refine (CI.out _).mono ?_
                rintro e w2 ⟨rfl, hb2⟩
                replace hP := hP.below hb2
                replace hB := below_then hB hb2
                clear hb2 CI hat p8
                go_wp2_with fail
                go_roundw
                case rel => exact ⟨k + 1, by omega, by go_num, HN2, hP, hB⟩
                case measure => simp [intOf]; omega
            · obtain rfl : k = y.x.es.length := by omega
              have HALL1 := Lib.hid (all_toF (p := entB) (l := y.x.es) fun j hj => HC.out j hj hj)
              clear HC hk hkl
              have p6 := (frIn14 hP).2.2.2.2.2.2.1
              go_wp2_with fail
              have HA2 := Lib.hid (fun (j : Nat) (hj : j < 0) (h : j < y.x.rs.length) => (absurd hj (Nat.not_lt_zero j) : rpB y.x.rs[j] = true))
              clear p6
              go_loopw [7] (fun i wr => ∃ k : Nat, k ≤ y.x.rs.length ∧ i = .int .i64 k ∧ Hid (∀ j, j < k → ∀ h : j < y.x.rs.length, rpB y.x.rs[j] = true) ∧ frE.In wr n1 y ∧ Below w.heap.size w wr) (fun i _ => y.x.rs.length - (intOf i).toNat)
              case atStart => exact ⟨0, Nat.zero_le _, rfl, HA2, hP, hB⟩
              case round =>
                clear hP hB HA2
                obtain ⟨k, hk, rfl, HC, hP, hB⟩ := hrel
                have p6 := (frIn14 hP).2.2.2.2.2.2.1
                by_cases hkl : k < y.x.rs.length
                · obtain ⟨b, off, eA, hbw, hc⟩ := HOK.out.r.1 (by omega)
                  have hx := rpIdxH (cap := y.rc) eA hkl
                  have hat : rpE.At wr b (off + k * 9) _ := (hc k hkl).below hB hbw
                  have hxm : y.x.rs[k] ∈ y.x.rs := List.getElem_mem _
                  have HO := Lib.hid (fun (h : rpB y.x.rs[k] = false) => frB_rs (all_noF hxm h))
                  have HN := Lib.hid (fun (h : rpB y.x.rs[k] = true) (j : Nat) (hj : j < k + 1) (h2 : j < y.x.rs.length) => (by
                    by_cases e : j < k
                    · exact HC.out j e h2
                    · obtain rfl : j = k := by omega
                      exact h : rpB y.x.rs[j] = true))
                  generalize y.x.rs[k] = x at *
                  have CI := Lib.hid (fun wx => (show Calls Tryd.prog 37 #[.agg #[.int .i64 x.d, .int .i64 x.i, .int .i64 x.b, .int .i64 x.t, .int .i64 x.m, .int .i64 x.p, .int .i64 x.c, .int .i64 x.s, .int .i64 x.k]] wx fun e w' => e = .returned (.bool (rpB x)) ∧ Below wx.heap.size wx w' from refRpRight_any x wx))
                  clear hc eA hxm
                  cases hb : rpB x with
                  | false =>
                    rw [hb] at CI
                    obtain rfl : false = bv := (HO.out hb).symm.trans HV.out
                    clear hb HO HN
                    go_wp2_with (first | (refine El.load rpRow rfl _ rfl b (off + k * 9) rfl x hat #[.int .i64 x.d, .int .i64 x.i, .int .i64 x.b, .int .i64 x.t, .int .i64 x.m, .int .i64 x.p, .int .i64 x.c, .int .i64 x.s, .int .i64 x.k] rfl ?_) | fail)
                    refine (CI.out _).mono ?_
                    rintro e w2 ⟨rfl, hb2⟩
                    go_wp2_with fail
                    go_ret
                    exact ⟨rfl, below_then hB hb2⟩
                  | true =>
                    rw [hb] at CI
                    have HN2 := Lib.hid (HN.out hb)
                    clear hb HO HN
                    go_wp2_with (first | (refine El.load rpRow rfl _ rfl b (off + k * 9) rfl x hat #[.int .i64 x.d, .int .i64 x.i, .int .i64 x.b, .int .i64 x.t, .int .i64 x.m, .int .i64 x.p, .int .i64 x.c, .int .i64 x.s, .int .i64 x.k] rfl ?_) | fail)
                    refine (CI.out _).mono ?_
                    rintro e w2 ⟨rfl, hb2⟩
                    replace hP := hP.below hb2
                    replace hB := below_then hB hb2
                    clear hb2 CI hat p6
                    go_wp2_with fail
                    go_roundw
                    case rel => exact ⟨k + 1, by omega, by go_num, HN2, hP, hB⟩
                    case measure => simp [intOf]; omega
                · obtain rfl : k = y.x.rs.length := by omega
                  have HALL2 := Lib.hid (all_toF (p := rpB) (l := y.x.rs) fun j hj => HC.out j hj hj)
                  clear HC hk hkl
                  have p13 := (frIn14 hP).2.2.2.2.2.2.2.2.2.2.2.2.2
                  go_wp2_with fail
                  have HA3 := Lib.hid (fun (j : Nat) (hj : j < 0) (h : j < y.x.gs.length) => (absurd hj (Nat.not_lt_zero j) : gfB y.x.gs[j] = true))
                  clear p13
                  go_loopw [8] (fun i wr => ∃ k : Nat, k ≤ y.x.gs.length ∧ i = .int .i64 k ∧ Hid (∀ j, j < k → ∀ h : j < y.x.gs.length, gfB y.x.gs[j] = true) ∧ frE.In wr n1 y ∧ Below w.heap.size w wr) (fun i _ => y.x.gs.length - (intOf i).toNat)
                  case atStart => exact ⟨0, Nat.zero_le _, rfl, HA3, hP, hB⟩
                  case round =>
                    clear hP hB HA3
                    obtain ⟨k, hk, rfl, HC, hP, hB⟩ := hrel
                    have p13 := (frIn14 hP).2.2.2.2.2.2.2.2.2.2.2.2.2
                    by_cases hkl : k < y.x.gs.length
                    · obtain ⟨b, off, eA, hbw, hc⟩ := HOK.out.g.1 (by omega)
                      have hx := gfIdxH (cap := y.gc) eA hkl
                      have hat : gfE.At wr b (off + k * 5) _ := (hc k hkl).below hB hbw
                      have hxm : y.x.gs[k] ∈ y.x.gs := List.getElem_mem _
                      have HO := Lib.hid (fun (h : gfB y.x.gs[k] = false) => frB_gs (all_noF hxm h))
                      have HN := Lib.hid (fun (h : gfB y.x.gs[k] = true) (j : Nat) (hj : j < k + 1) (h2 : j < y.x.gs.length) => (by
                        by_cases e : j < k
                        · exact HC.out j e h2
                        · obtain rfl : j = k := by omega
                          exact h : gfB y.x.gs[j] = true))
                      generalize y.x.gs[k] = x at *
                      have CI := Lib.hid (fun wx => (show Calls Tryd.prog 11 #[.agg #[.int .i64 x.d, .int .i64 x.i, .int .i64 x.c, .int .i64 x.t, .string x.s]] wx fun e w' => e = .returned (.bool (gfB x)) ∧ Below wx.heap.size wx w' from refRightGift_any x wx (HWG.out x hxm).2.2.2.2))
                      clear hc eA hxm
                      cases hb : gfB x with
                      | false =>
                        rw [hb] at CI
                        obtain rfl : false = bv := (HO.out hb).symm.trans HV.out
                        clear hb HO HN
                        go_wp2_with (first | (refine El.load gfRow rfl _ rfl b (off + k * 5) rfl x hat #[.int .i64 x.d, .int .i64 x.i, .int .i64 x.c, .int .i64 x.t, .string x.s] rfl ?_) | fail)
                        refine (CI.out _).mono ?_
                        rintro e w2 ⟨rfl, hb2⟩
                        go_wp2_with fail
                        go_ret
                        exact ⟨rfl, below_then hB hb2⟩
                      | true =>
                        rw [hb] at CI
                        have HN2 := Lib.hid (HN.out hb)
                        clear hb HO HN
                        go_wp2_with (first | (refine El.load gfRow rfl _ rfl b (off + k * 5) rfl x hat #[.int .i64 x.d, .int .i64 x.i, .int .i64 x.c, .int .i64 x.t, .string x.s] rfl ?_) | fail)
                        refine (CI.out _).mono ?_
                        rintro e w2 ⟨rfl, hb2⟩
                        replace hP := hP.below hb2
                        replace hB := below_then hB hb2
                        clear hb2 CI hat p13
                        go_wp2_with fail
                        go_roundw
                        case rel => exact ⟨k + 1, by omega, by go_num, HN2, hP, hB⟩
                        case measure => simp [intOf]; omega
                    · obtain rfl : k = y.x.gs.length := by omega
                      have HALL3 := Lib.hid (all_toF (p := gfB) (l := y.x.gs) fun j hj => HC.out j hj hj)
                      clear HC hk hkl p13
                      have HE := Lib.hid ((frB_end HSIX.out HALL0.out HALL1.out HALL2.out HALL3.out).symm.trans HV.out)
                      clear HSIX HALL0 HALL1 HALL2 HALL3 HOK HWO HWE HWG
                      obtain ⟨p0, p1, p2, p3, p4, p5, p6, p7, p8, p9, p10, p11, p12, p13⟩ := frIn14 hP
                      by_cases a0 : 0 ≤ y.x.a
                      · skip
                        have f0 : decide (0 ≤ y.x.a) = true := decide_eq_true a0
                        by_cases a1 : y.x.a < 12
                        · skip
                          have f1 : decide (y.x.a < 12) = true := decide_eq_true a1
                          by_cases a2 : 0 ≤ y.x.b
                          · skip
                            have f2 : decide (0 ≤ y.x.b) = true := decide_eq_true a2
                            by_cases a3 : y.x.b < 12
                            · skip
                              have f3 : decide (y.x.b < 12) = true := decide_eq_true a3
                              by_cases a4 : 1 ≤ y.x.first
                              · skip
                                have f4 : decide (1 ≤ y.x.first) = true := decide_eq_true a4
                                by_cases a5 : y.x.first ≤ 1099511627776
                                · skip
                                  have f5 : decide (y.x.first ≤ 1099511627776) = true := decide_eq_true a5
                                  by_cases a6 : 1 ≤ y.x.start
                                  · skip
                                    have f6 : decide (1 ≤ y.x.start) = true := decide_eq_true a6
                                    by_cases a7 : y.x.start ≤ 1099511627776
                                    · skip
                                      have f7 : decide (y.x.start ≤ 1099511627776) = true := decide_eq_true a7
                                      by_cases a8 : y.x.os.length ≤ 64
                                      · skip
                                        have f8 : decide (y.x.os.length ≤ 64) = true := decide_eq_true a8
                                        have g8 : decide ((y.x.os.length : Int) ≤ 64) = true := decide_eq_true (by omega)
                                        by_cases a9 : y.x.es.length ≤ 64
                                        · skip
                                          have f9 : decide (y.x.es.length ≤ 64) = true := decide_eq_true a9
                                          have g9 : decide ((y.x.es.length : Int) ≤ 64) = true := decide_eq_true (by omega)
                                          by_cases a10 : y.x.rs.length ≤ 8
                                          · skip
                                            have f10 : decide (y.x.rs.length ≤ 8) = true := decide_eq_true a10
                                            have g10 : decide ((y.x.rs.length : Int) ≤ 8) = true := decide_eq_true (by omega)
                                            by_cases a11 : y.x.gs.length ≤ 8
                                            · skip
                                              have f11 : decide (y.x.gs.length ≤ 8) = true := decide_eq_true a11
                                              have g11 : decide ((y.x.gs.length : Int) ≤ 8) = true := decide_eq_true (by omega)
                                              have hv : frEnd y.x = true := by unfold frEnd; exact decide_eq_true (by omega)
                                              obtain rfl : true = bv := hv.symm.trans HE.out
                                              clear hv a0 a1 a2 a3 a4 a5 a6 a7 a8 a9 a10 a11
                                              go_wp2_with fail
                                              go_ret
                                              exact ⟨rfl, hB⟩
                                            · skip
                                              have f11 : decide (y.x.gs.length ≤ 8) = false := decide_eq_false a11
                                              have g11 : decide ((y.x.gs.length : Int) ≤ 8) = false := decide_eq_false (by omega)
                                              have hv : frEnd y.x = false := by unfold frEnd; exact decide_eq_false (by omega)
                                              obtain rfl : false = bv := hv.symm.trans HE.out
                                              clear hv a0 a1 a2 a3 a4 a5 a6 a7 a8 a9 a10 a11
                                              go_wp2_with fail
                                              go_ret
                                              exact ⟨rfl, hB⟩
                                          · skip
                                            have f10 : decide (y.x.rs.length ≤ 8) = false := decide_eq_false a10
                                            have g10 : decide ((y.x.rs.length : Int) ≤ 8) = false := decide_eq_false (by omega)
                                            have hv : frEnd y.x = false := by unfold frEnd; exact decide_eq_false (by omega)
                                            obtain rfl : false = bv := hv.symm.trans HE.out
                                            clear hv a0 a1 a2 a3 a4 a5 a6 a7 a8 a9 a10
                                            go_wp2_with fail
                                            go_ret
                                            exact ⟨rfl, hB⟩
                                        · skip
                                          have f9 : decide (y.x.es.length ≤ 64) = false := decide_eq_false a9
                                          have g9 : decide ((y.x.es.length : Int) ≤ 64) = false := decide_eq_false (by omega)
                                          have hv : frEnd y.x = false := by unfold frEnd; exact decide_eq_false (by omega)
                                          obtain rfl : false = bv := hv.symm.trans HE.out
                                          clear hv a0 a1 a2 a3 a4 a5 a6 a7 a8 a9
                                          go_wp2_with fail
                                          go_ret
                                          exact ⟨rfl, hB⟩
                                      · skip
                                        have f8 : decide (y.x.os.length ≤ 64) = false := decide_eq_false a8
                                        have g8 : decide ((y.x.os.length : Int) ≤ 64) = false := decide_eq_false (by omega)
                                        have hv : frEnd y.x = false := by unfold frEnd; exact decide_eq_false (by omega)
                                        obtain rfl : false = bv := hv.symm.trans HE.out
                                        clear hv a0 a1 a2 a3 a4 a5 a6 a7 a8
                                        go_wp2_with fail
                                        go_ret
                                        exact ⟨rfl, hB⟩
                                    · skip
                                      have f7 : decide (y.x.start ≤ 1099511627776) = false := decide_eq_false a7
                                      have hv : frEnd y.x = false := by unfold frEnd; exact decide_eq_false (by omega)
                                      obtain rfl : false = bv := hv.symm.trans HE.out
                                      clear hv a0 a1 a2 a3 a4 a5 a6 a7
                                      go_wp2_with fail
                                      go_ret
                                      exact ⟨rfl, hB⟩
                                  · skip
                                    have f6 : decide (1 ≤ y.x.start) = false := decide_eq_false a6
                                    have hv : frEnd y.x = false := by unfold frEnd; exact decide_eq_false (by omega)
                                    obtain rfl : false = bv := hv.symm.trans HE.out
                                    clear hv a0 a1 a2 a3 a4 a5 a6
                                    go_wp2_with fail
                                    go_ret
                                    exact ⟨rfl, hB⟩
                                · skip
                                  have f5 : decide (y.x.first ≤ 1099511627776) = false := decide_eq_false a5
                                  have hv : frEnd y.x = false := by unfold frEnd; exact decide_eq_false (by omega)
                                  obtain rfl : false = bv := hv.symm.trans HE.out
                                  clear hv a0 a1 a2 a3 a4 a5
                                  go_wp2_with fail
                                  go_ret
                                  exact ⟨rfl, hB⟩
                              · skip
                                have f4 : decide (1 ≤ y.x.first) = false := decide_eq_false a4
                                have hv : frEnd y.x = false := by unfold frEnd; exact decide_eq_false (by omega)
                                obtain rfl : false = bv := hv.symm.trans HE.out
                                clear hv a0 a1 a2 a3 a4
                                go_wp2_with fail
                                go_ret
                                exact ⟨rfl, hB⟩
                            · skip
                              have f3 : decide (y.x.b < 12) = false := decide_eq_false a3
                              have hv : frEnd y.x = false := by unfold frEnd; exact decide_eq_false (by omega)
                              obtain rfl : false = bv := hv.symm.trans HE.out
                              clear hv a0 a1 a2 a3
                              go_wp2_with fail
                              go_ret
                              exact ⟨rfl, hB⟩
                          · skip
                            have f2 : decide (0 ≤ y.x.b) = false := decide_eq_false a2
                            have hv : frEnd y.x = false := by unfold frEnd; exact decide_eq_false (by omega)
                            obtain rfl : false = bv := hv.symm.trans HE.out
                            clear hv a0 a1 a2
                            go_wp2_with fail
                            go_ret
                            exact ⟨rfl, hB⟩
                        · skip
                          have f1 : decide (y.x.a < 12) = false := decide_eq_false a1
                          have hv : frEnd y.x = false := by unfold frEnd; exact decide_eq_false (by omega)
                          obtain rfl : false = bv := hv.symm.trans HE.out
                          clear hv a0 a1
                          go_wp2_with fail
                          go_ret
                          exact ⟨rfl, hB⟩
                      · skip
                        have f0 : decide (0 ≤ y.x.a) = false := decide_eq_false a0
                        have hv : frEnd y.x = false := by unfold frEnd; exact decide_eq_false (by omega)
                        obtain rfl : false = bv := hv.symm.trans HE.out
                        clear hv a0
                        go_wp2_with fail
                        go_ret
                        exact ⟨rfl, hB⟩
end Go.Proofs.YtndahomgglpdhaaDoor

/- The program's frames: within, rightNumbers, RightGift, PrintGift. -/
namespace Go.Proofs.YtndahomgglpdhaaDoor
open Go.RowKit Nam Cod

theorem rowCell (w : World) (vs : Array Value) (T : TypeId) (j : Nat) : (w.alloc (.cells vs T)).cell? ⟨w.heap.size, j, none⟩ = vs[j]? := cell_of_row (w.alloc (.cells vs T)) w.heap.size j vs T (0, 0) (heap_alloc_new w _)
theorem rowInts (w : World) (l : List Int) (T : TypeId) (vs : Array Value) (h : vs = (l.map fun n => (Value.int .i64 n)).toArray) (j : Nat) (hj : j < l.length) : (w.alloc (.cells vs T)).cell? ⟨w.heap.size, j, none⟩ = some (.int .i64 l[j]) := by
  subst h
  rw [rowCell]
  simp [hj]
def inR (lo hi n : Int) : Bool := decide (lo ≤ n ∧ n ≤ hi)
set_option maxRecDepth 100000 in
set_option maxHeartbeats 2000000 in
theorem frWithin_any (lo hi : Int) (b : Nat) (l : List Int) (k0 : Nat) (hk0 : k0 = l.length) (bv : Bool) (w : World) (hl : l.length ≤ 1000) (hc : ∀ j (hj : j < l.length), w.cell? ⟨b, j, none⟩ = some (.int .i64 l[j])) (hbv : l.all (inR lo hi) = bv) :
    Calls Tryd.prog 22 #[.int .i64 lo, .int .i64 hi, .slice (some ⟨b, 0, none⟩) k0 k0] w fun e w' => e = .returned (.bool bv) ∧ w = w' := by
  subst hk0
  have HC0 := Lib.hid (fun (j : Nat) (hj : j < 0) (_ : j < l.length) => (absurd hj (Nat.not_lt_zero j) : inR lo hi l[j] = true))
  have HV := Lib.hid hbv
  have HC := Lib.hid hc
  clear hbv hc
  go_enter Tryd.func22, Tryd.ntmps22
  go_wp2_with fail
  go_loopw [11] (fun i wr => ∃ k : Nat, k ≤ l.length ∧ i = .int .i64 k ∧ Hid (∀ j, j < k → ∀ hj : j < l.length, inR lo hi l[j] = true) ∧ w = wr) (fun i _ => l.length - (intOf i).toNat)
  case atStart => exact ⟨0, Nat.zero_le _, rfl, HC0, rfl⟩
  case round =>
    clear HC0
    obtain ⟨k, hk, rfl, HK, rfl⟩ := hrel
    by_cases hkl : k < l.length
    · have c1 := HC.out k hkl
      have HO := Lib.hid (show inR lo hi l[k] = false → l.all (inR lo hi) = false from fun h => by
        rw [Bool.eq_false_iff]
        intro ha
        rw [List.all_eq_true.1 ha l[k] (List.getElem_mem _)] at h
        cases h)
      have HN := Lib.hid (fun (h : inR lo hi l[k] = true) (j : Nat) (hj : j < k + 1) (hjl : j < l.length) => (by
        by_cases e : j < k
        · exact HK.out j e hjl
        · obtain rfl : j = k := by omega
          exact h : inR lo hi l[j] = true))
      generalize l[k] = n at *
      by_cases h0 : n < lo
      · have hv := HO.out (decide_eq_false (by omega))
        obtain rfl : false = bv := hv.symm.trans HV.out
        have f1 : decide (n < lo) = true := decide_eq_true h0
        clear hv
        go_wp2_with fail
        go_ret
        exact ⟨rfl, rfl⟩
      · have f1 : decide (n < lo) = false := decide_eq_false h0
        by_cases h1 : hi < n
        · have hv := HO.out (decide_eq_false (by omega))
          obtain rfl : false = bv := hv.symm.trans HV.out
          have f2 : decide (hi < n) = true := decide_eq_true h1
          clear hv
          go_wp2_with fail
          go_ret
          exact ⟨rfl, rfl⟩
        · have f2 : decide (hi < n) = false := decide_eq_false h1
          have HN2 := Lib.hid (HN.out (decide_eq_true (by omega)))
          go_wp2_with fail
          exact ⟨⟨k + 1, by omega, by go_num, HN2, by trivial⟩, by simp [intOf]; omega⟩
    · obtain rfl : k = l.length := by omega
      have hv : l.all (inR lo hi) = true := List.all_eq_true.2 fun x hx => by
        obtain ⟨j, hj, rfl⟩ := List.getElem_of_mem hx
        exact HK.out j hj hj
      obtain rfl : true = bv := hv.symm.trans HV.out
      clear hv
      go_wp2_with fail
      go_ret
      exact ⟨rfl, rfl⟩

/-- The numbers of a frame, those in its lists left out. -/
def frN3 (f : Fr) : Bool := [f.a, f.b].all (inR 0 11) && ([f.first, f.start].all (inR 1 1099511627776) && [f.boot, f.pos, f.ack, f.grant, f.s, f.t].all (inR 0 1099511627776))
set_option maxRecDepth 100000 in
set_option maxHeartbeats 4000000 in
theorem frNumbers_any (y : Fw) (w : World) : Calls Tryd.prog 27 #[.agg #[.int .i64 y.x.a, .int .i64 y.x.b, .int .i64 y.x.boot, .int .i64 y.x.first, .slice y.oA y.x.os.length y.oc, .int .i64 y.x.pos, .slice y.rA y.x.rs.length y.rc, .int .i64 y.x.start, .slice y.eA y.x.es.length y.ec, .int .i64 y.x.ack, .int .i64 y.x.grant, .int .i64 y.x.s, .int .i64 y.x.t, .slice y.gA y.x.gs.length y.gc]] w fun e w' => e = .returned (.bool (frN3 y.x)) ∧ Below w.heap.size w w' := by
  have hP : frE.In (w.alloc (.cells #[.int .i64 y.x.a, .int .i64 y.x.b, .int .i64 y.x.boot, .int .i64 y.x.first, .slice y.oA y.x.os.length y.oc, .int .i64 y.x.pos, .slice y.rA y.x.rs.length y.rc, .int .i64 y.x.start, .slice y.eA y.x.es.length y.ec, .int .i64 y.x.ack, .int .i64 y.x.grant, .int .i64 y.x.s, .int .i64 y.x.t, .slice y.gA y.x.gs.length y.gc] 27)) w.heap.size y := El.In.new (E := frE) w y _ rfl
  have hB := below_alloc (Below.refl w.heap.size w) (.cells #[.int .i64 y.x.a, .int .i64 y.x.b, .int .i64 y.x.boot, .int .i64 y.x.first, .slice y.oA y.x.os.length y.oc, .int .i64 y.x.pos, .slice y.rA y.x.rs.length y.rc, .int .i64 y.x.start, .slice y.eA y.x.es.length y.ec, .int .i64 y.x.ack, .int .i64 y.x.grant, .int .i64 y.x.s, .int .i64 y.x.t, .slice y.gA y.x.gs.length y.gc] 27)
  obtain ⟨bv, hbv⟩ : ∃ bv, frN3 y.x = bv := ⟨_, rfl⟩
  rw [hbv]
  go_enter Tryd.func27, Tryd.ntmps27
  go_upto_region 1 with fail
  generalize w.alloc (.cells #[.int .i64 y.x.a, .int .i64 y.x.b, .int .i64 y.x.boot, .int .i64 y.x.first, .slice y.oA y.x.os.length y.oc, .int .i64 y.x.pos, .slice y.rA y.x.rs.length y.rc, .int .i64 y.x.start, .slice y.eA y.x.es.length y.ec, .int .i64 y.x.ack, .int .i64 y.x.grant, .int .i64 y.x.s, .int .i64 y.x.t, .slice y.gA y.x.gs.length y.gc] 27) = W at *
  obtain ⟨n1, h1⟩ : ∃ n, w.heap.size = n := ⟨_, rfl⟩
  rw [h1] at hP ⊢
  clear h1
  obtain ⟨p0, p1, p2, p3, p4, p5, p6, p7, p8, p9, p10, p11, p12, p13⟩ := frIn14 hP
  cases b1 : [y.x.a, y.x.b].all (inR 0 11) with
  | false =>
    have hv : frN3 y.x = false := by unfold frN3; rw [b1]; rfl
    obtain rfl : false = bv := hv.symm.trans hbv
    have HB1 := Lib.hid b1
    clear hv hbv b1
    go_wp2_with fail
    refine (frWithin_any 0 11 _ [y.x.a, y.x.b] _ rfl false _ (by simp) (rowInts _ [y.x.a, y.x.b] _ #[.int .i64 y.x.a, .int .i64 y.x.b] rfl) HB1.out).mono ?_
    rintro e w2 ⟨rfl, rfl⟩
    go_wp2_with fail
    go_ret
    exact ⟨rfl, below_alloc hB _⟩
  | true =>
    cases b2 : [y.x.first, y.x.start].all (inR 1 1099511627776) with
    | false =>
      have hv : frN3 y.x = false := by unfold frN3; rw [b1, b2]; rfl
      obtain rfl : false = bv := hv.symm.trans hbv
      have HB1 := Lib.hid b1
      have HB2 := Lib.hid b2
      clear hv hbv b1 b2
      go_wp2_with fail
      refine (frWithin_any 0 11 _ [y.x.a, y.x.b] _ rfl true _ (by simp) (rowInts _ [y.x.a, y.x.b] _ #[.int .i64 y.x.a, .int .i64 y.x.b] rfl) HB1.out).mono ?_
      rintro e w2 ⟨rfl, rfl⟩
      replace hP := hP.alloc (.cells #[.int .i64 y.x.a, .int .i64 y.x.b] 3)
      replace hB := below_alloc hB (.cells #[.int .i64 y.x.a, .int .i64 y.x.b] 3)
      clear p0 p1 p2 p3 p4 p5 p6 p7 p8 p9 p10 p11 p12 p13
      generalize W.alloc (.cells #[.int .i64 y.x.a, .int .i64 y.x.b] 3) = W at *
      obtain ⟨p0, p1, p2, p3, p4, p5, p6, p7, p8, p9, p10, p11, p12, p13⟩ := frIn14 hP
      go_wp2_with fail
      refine (frWithin_any 1 1099511627776 _ [y.x.first, y.x.start] _ rfl false _ (by simp) (rowInts _ [y.x.first, y.x.start] _ #[.int .i64 y.x.first, .int .i64 y.x.start] rfl) HB2.out).mono ?_
      rintro e w2 ⟨rfl, rfl⟩
      go_wp2_with fail
      go_ret
      exact ⟨rfl, below_alloc hB _⟩
    | true =>
      obtain ⟨b3, hb3⟩ : ∃ b3, [y.x.boot, y.x.pos, y.x.ack, y.x.grant, y.x.s, y.x.t].all (inR 0 1099511627776) = b3 := ⟨_, rfl⟩
      have hv : frN3 y.x = b3 := by unfold frN3; rw [b1, b2, hb3]; rfl
      obtain rfl : b3 = bv := hv.symm.trans hbv
      have HB1 := Lib.hid b1
      have HB2 := Lib.hid b2
      have HB3 := Lib.hid hb3
      clear hv hbv b1 b2 hb3
      go_wp2_with fail
      refine (frWithin_any 0 11 _ [y.x.a, y.x.b] _ rfl true _ (by simp) (rowInts _ [y.x.a, y.x.b] _ #[.int .i64 y.x.a, .int .i64 y.x.b] rfl) HB1.out).mono ?_
      rintro e w2 ⟨rfl, rfl⟩
      replace hP := hP.alloc (.cells #[.int .i64 y.x.a, .int .i64 y.x.b] 3)
      replace hB := below_alloc hB (.cells #[.int .i64 y.x.a, .int .i64 y.x.b] 3)
      clear p0 p1 p2 p3 p4 p5 p6 p7 p8 p9 p10 p11 p12 p13
      generalize W.alloc (.cells #[.int .i64 y.x.a, .int .i64 y.x.b] 3) = W at *
      obtain ⟨p0, p1, p2, p3, p4, p5, p6, p7, p8, p9, p10, p11, p12, p13⟩ := frIn14 hP
      go_wp2_with fail
      refine (frWithin_any 1 1099511627776 _ [y.x.first, y.x.start] _ rfl true _ (by simp) (rowInts _ [y.x.first, y.x.start] _ #[.int .i64 y.x.first, .int .i64 y.x.start] rfl) HB2.out).mono ?_
      rintro e w2 ⟨rfl, rfl⟩
      replace hP := hP.alloc (.cells #[.int .i64 y.x.first, .int .i64 y.x.start] 3)
      replace hB := below_alloc hB (.cells #[.int .i64 y.x.first, .int .i64 y.x.start] 3)
      clear p0 p1 p2 p3 p4 p5 p6 p7 p8 p9 p10 p11 p12 p13
      generalize W.alloc (.cells #[.int .i64 y.x.first, .int .i64 y.x.start] 3) = W at *
      obtain ⟨p0, p1, p2, p3, p4, p5, p6, p7, p8, p9, p10, p11, p12, p13⟩ := frIn14 hP
      go_wp2_with fail
      refine (frWithin_any 0 1099511627776 _ [y.x.boot, y.x.pos, y.x.ack, y.x.grant, y.x.s, y.x.t] _ rfl b3 _ (by simp) (rowInts _ [y.x.boot, y.x.pos, y.x.ack, y.x.grant, y.x.s, y.x.t] _ #[.int .i64 y.x.boot, .int .i64 y.x.pos, .int .i64 y.x.ack, .int .i64 y.x.grant, .int .i64 y.x.s, .int .i64 y.x.t] rfl) HB3.out).mono ?_
      rintro e w2 ⟨rfl, rfl⟩
      go_wp2_with fail
      go_ret
      exact ⟨rfl, below_alloc hB _⟩

theorem gfB_list (g : Gf) : gfB g = ([g.d].all (inR 0 11) && ([g.i].all (inR 1 1099511627776) && ([g.c, g.t].all (inR 0 1099511627776) && decide (g.s.size ≤ 256)))) := by
  unfold gfB inR
  simp only [List.all_cons, List.all_nil, Bool.and_true]
  rw [Bool.eq_iff_iff]
  simp only [Bool.and_eq_true, decide_eq_true_iff]
  omega
set_option maxRecDepth 100000 in
set_option maxHeartbeats 4000000 in
theorem gfRight_any (g : Gf) (w : World) (hs : g.s.size ≤ 1000000) : Calls Tryd.prog 10 #[.agg #[.int .i64 g.d, .int .i64 g.i, .int .i64 g.c, .int .i64 g.t, .string g.s]] w fun e w' => e = .returned (.bool (gfB g)) ∧ Below w.heap.size w w' := by
  have hP : gfE.In (w.alloc (.cells #[.int .i64 g.d, .int .i64 g.i, .int .i64 g.c, .int .i64 g.t, .string g.s] 32)) w.heap.size g := El.In.new (E := gfE) w g _ rfl
  have hB := below_alloc (Below.refl w.heap.size w) (.cells #[.int .i64 g.d, .int .i64 g.i, .int .i64 g.c, .int .i64 g.t, .string g.s] 32)
  obtain ⟨bv, hbv⟩ : ∃ bv, gfB g = bv := ⟨_, rfl⟩
  rw [hbv]
  rw [gfB_list] at hbv
  go_enter Tryd.func10, Tryd.ntmps10
  go_upto_region 1 with fail
  generalize w.alloc (.cells #[.int .i64 g.d, .int .i64 g.i, .int .i64 g.c, .int .i64 g.t, .string g.s] 32) = W at *
  obtain ⟨n1, h1⟩ : ∃ n, w.heap.size = n := ⟨_, rfl⟩
  rw [h1] at hP ⊢
  clear h1
  obtain ⟨p0, p1, p2, p3, p4⟩ := gfIn5 hP
  cases b1 : [g.d].all (inR 0 11) with
  | false =>
    rw [b1, Bool.false_and] at hbv
    subst hbv
    have HB1 := Lib.hid b1
    clear b1
    go_wp2_with fail
    refine (frWithin_any 0 11 _ [g.d] _ rfl false _ (by simp) (rowInts _ [g.d] _ #[.int .i64 g.d] rfl) HB1.out).mono ?_
    rintro e w2 ⟨rfl, rfl⟩
    go_wp2_with fail
    go_ret
    exact ⟨rfl, below_alloc hB _⟩
  | true =>
    rw [b1, Bool.true_and] at hbv
    cases b2 : [g.i].all (inR 1 1099511627776) with
    | false =>
      rw [b2, Bool.false_and] at hbv
      subst hbv
      have HB1 := Lib.hid b1
      have HB2 := Lib.hid b2
      clear b1 b2
      go_wp2_with fail
      refine (frWithin_any 0 11 _ [g.d] _ rfl true _ (by simp) (rowInts _ [g.d] _ #[.int .i64 g.d] rfl) HB1.out).mono ?_
      rintro e w2 ⟨rfl, rfl⟩
      replace hP := hP.alloc (.cells #[.int .i64 g.d] 3)
      replace hB := below_alloc hB (.cells #[.int .i64 g.d] 3)
      clear p0 p1 p2 p3 p4
      generalize W.alloc (.cells #[.int .i64 g.d] 3) = W at *
      obtain ⟨p0, p1, p2, p3, p4⟩ := gfIn5 hP
      go_wp2_with fail
      refine (frWithin_any 1 1099511627776 _ [g.i] _ rfl false _ (by simp) (rowInts _ [g.i] _ #[.int .i64 g.i] rfl) HB2.out).mono ?_
      rintro e w2 ⟨rfl, rfl⟩
      go_wp2_with fail
      go_ret
      exact ⟨rfl, below_alloc hB _⟩
    | true =>
      rw [b2, Bool.true_and] at hbv
      cases b3 : [g.c, g.t].all (inR 0 1099511627776) with
      | false =>
        rw [b3, Bool.false_and] at hbv
        subst hbv
        have HB1 := Lib.hid b1
        have HB2 := Lib.hid b2
        have HB3 := Lib.hid b3
        clear b1 b2 b3
        go_wp2_with fail
        refine (frWithin_any 0 11 _ [g.d] _ rfl true _ (by simp) (rowInts _ [g.d] _ #[.int .i64 g.d] rfl) HB1.out).mono ?_
        rintro e w2 ⟨rfl, rfl⟩
        replace hP := hP.alloc (.cells #[.int .i64 g.d] 3)
        replace hB := below_alloc hB (.cells #[.int .i64 g.d] 3)
        clear p0 p1 p2 p3 p4
        generalize W.alloc (.cells #[.int .i64 g.d] 3) = W at *
        obtain ⟨p0, p1, p2, p3, p4⟩ := gfIn5 hP
        go_wp2_with fail
        refine (frWithin_any 1 1099511627776 _ [g.i] _ rfl true _ (by simp) (rowInts _ [g.i] _ #[.int .i64 g.i] rfl) HB2.out).mono ?_
        rintro e w2 ⟨rfl, rfl⟩
        replace hP := hP.alloc (.cells #[.int .i64 g.i] 3)
        replace hB := below_alloc hB (.cells #[.int .i64 g.i] 3)
        clear p0 p1 p2 p3 p4
        generalize W.alloc (.cells #[.int .i64 g.i] 3) = W at *
        obtain ⟨p0, p1, p2, p3, p4⟩ := gfIn5 hP
        go_wp2_with fail
        refine (frWithin_any 0 1099511627776 _ [g.c, g.t] _ rfl false _ (by simp) (rowInts _ [g.c, g.t] _ #[.int .i64 g.c, .int .i64 g.t] rfl) HB3.out).mono ?_
        rintro e w2 ⟨rfl, rfl⟩
        go_wp2_with fail
        go_ret
        exact ⟨rfl, below_alloc hB _⟩
      | true =>
        rw [b3, Bool.true_and] at hbv
        have HB1 := Lib.hid b1
        have HB2 := Lib.hid b2
        have HB3 := Lib.hid b3
        have hbi : decide ((g.s.size : Int) ≤ 256) = bv := by rw [← hbv]; exact decide_eq_decide.2 (by omega)
        clear b1 b2 b3
        go_wp2_with fail
        refine (frWithin_any 0 11 _ [g.d] _ rfl true _ (by simp) (rowInts _ [g.d] _ #[.int .i64 g.d] rfl) HB1.out).mono ?_
        rintro e w2 ⟨rfl, rfl⟩
        replace hP := hP.alloc (.cells #[.int .i64 g.d] 3)
        replace hB := below_alloc hB (.cells #[.int .i64 g.d] 3)
        clear p0 p1 p2 p3 p4
        generalize W.alloc (.cells #[.int .i64 g.d] 3) = W at *
        obtain ⟨p0, p1, p2, p3, p4⟩ := gfIn5 hP
        go_wp2_with fail
        refine (frWithin_any 1 1099511627776 _ [g.i] _ rfl true _ (by simp) (rowInts _ [g.i] _ #[.int .i64 g.i] rfl) HB2.out).mono ?_
        rintro e w2 ⟨rfl, rfl⟩
        replace hP := hP.alloc (.cells #[.int .i64 g.i] 3)
        replace hB := below_alloc hB (.cells #[.int .i64 g.i] 3)
        clear p0 p1 p2 p3 p4
        generalize W.alloc (.cells #[.int .i64 g.i] 3) = W at *
        obtain ⟨p0, p1, p2, p3, p4⟩ := gfIn5 hP
        go_wp2_with fail
        refine (frWithin_any 0 1099511627776 _ [g.c, g.t] _ rfl true _ (by simp) (rowInts _ [g.c, g.t] _ #[.int .i64 g.c, .int .i64 g.t] rfl) HB3.out).mono ?_
        rintro e w2 ⟨rfl, rfl⟩
        replace hP := hP.alloc (.cells #[.int .i64 g.c, .int .i64 g.t] 3)
        replace hB := below_alloc hB (.cells #[.int .i64 g.c, .int .i64 g.t] 3)
        clear p0 p1 p2 p3 p4
        generalize W.alloc (.cells #[.int .i64 g.c, .int .i64 g.t] 3) = W at *
        obtain ⟨p0, p1, p2, p3, p4⟩ := gfIn5 hP
        go_wp2_with fail
        go_ret
        exact ⟨by simp [hbv, hbi], hB⟩

set_option maxRecDepth 100000 in
set_option maxHeartbeats 4000000 in
theorem gfPrint_any (g : Gf) (w : World) (hw : GfW g) : Calls Tryd.prog 12 #[.agg #[.int .i64 g.d, .int .i64 g.i, .int .i64 g.c, .int .i64 g.t, .string g.s]] w fun e w' => e = .returned (.string (gfBytes g)) ∧ Below w.heap.size w w' := by
  have hP : gfE.In (w.alloc (.cells #[.int .i64 g.d, .int .i64 g.i, .int .i64 g.c, .int .i64 g.t, .string g.s] 32)) w.heap.size g := El.In.new (E := gfE) w g _ rfl
  have hB := below_alloc (Below.refl w.heap.size w) (.cells #[.int .i64 g.d, .int .i64 g.i, .int .i64 g.c, .int .i64 g.t, .string g.s] 32)
  obtain ⟨i1, i2, i3, i4, hs⟩ := hw
  have C1 := Lib.hid (fun wx => num_any g.d wx i1.1 i1.2)
  have C2 := Lib.hid (fun wx => num_any g.i wx i2.1 i2.2)
  have C3 := Lib.hid (fun wx => num_any g.c wx i3.1 i3.2)
  have C4 := Lib.hid (fun wx => num_any g.t wx i4.1 i4.2)
  have C5 := Lib.hid (fun wx => text_any g.s wx hs)
  have z1 := bytesOf_le10 i1
  have z2 := bytesOf_le10 i2
  have z3 := bytesOf_le10 i3
  have z4 := bytesOf_le10 i4
  have z5 : (textOf g.s).size ≤ 1000010 := by
    have := bytesOf_le10 (n := (g.s.size : Int)) (by unfold i64; omega)
    unfold textOf; rw [ByteArray.size_append]; omega
  have HV := Lib.hid (show gfBytes g = bytesOf g.d ++ bytesOf g.i ++ bytesOf g.c ++ bytesOf g.t ++ textOf g.s from rfl)
  generalize bytesOf g.d = x1 at *
  generalize bytesOf g.i = x2 at *
  generalize bytesOf g.c = x3 at *
  generalize bytesOf g.t = x4 at *
  generalize textOf g.s = x5 at *
  rw [HV.out]
  have y1 : ¬ 9223372036854775807 < x1.size + x2.size := by omega
  have y2 : ¬ 9223372036854775807 < x1.size + x2.size + x3.size := by omega
  have y3 : ¬ 9223372036854775807 < x1.size + x2.size + x3.size + x4.size := by omega
  have y4 : ¬ 9223372036854775807 < x1.size + x2.size + x3.size + x4.size + x5.size := by omega
  clear i1 i2 i3 i4 hs z1 z2 z3 z4 z5
  go_enter Tryd.func12, Tryd.ntmps12
  go_wp2_with fail
  generalize w.alloc (.cells #[.int .i64 g.d, .int .i64 g.i, .int .i64 g.c, .int .i64 g.t, .string g.s] 32) = W at *
  obtain ⟨n1, hn1⟩ : ∃ n, w.heap.size = n := ⟨_, rfl⟩
  rw [hn1] at hP ⊢
  clear hn1
  replace hP : gfE.In W.drew n1 g := hP
  replace hB := hB.drew
  go_region_held3 (fun w' => w'.cell? ⟨n1, 0, none⟩ = some (.int .i64 g.d) ∧ w'.cell? ⟨n1, 1, none⟩ = some (.int .i64 g.i) ∧ w'.cell? ⟨n1, 2, none⟩ = some (.int .i64 g.c) ∧ w'.cell? ⟨n1, 3, none⟩ = some (.int .i64 g.t) ∧ w'.cell? ⟨n1, 4, none⟩ = some (.string g.s)) (with_reducible exact gfIn5 hP) (first | (go_at_call 23; (with_reducible first | refine (C1.out _).mono ?_ | refine (C2.out _).mono ?_ | refine (C3.out _).mono ?_ | refine (C4.out _).mono ?_); rintro e w3 ⟨rfl, hb3⟩; have hP := hP.below hb3; have hB := hB.trans (hb3.mono hB.size)) | (go_at_call 24; (with_reducible refine (C5.out _).mono ?_); rintro e w3 ⟨rfl, hb3⟩; have hP := hP.below hb3; have hB := hB.trans (hb3.mono hB.size)))
  all_goals
    go_wp2_with fail
    go_ret
    exact ⟨rfl, hB⟩

end Go.Proofs.YtndahomgglpdhaaDoor

/- The program's entries: Right, Print. -/
namespace Go.Proofs.YtndahomgglpdhaaDoor
open Go.RowKit Nam Cod

theorem op_mv (m : Mv) (w : World) (hs : m.s.size ≤ 9223372036854775807) :
    Calls Tryd.prog 29 #[.agg #[.int .i64 m.C, .int .i64 m.D, .int .i64 m.I, .int .i64 m.M, .int .i64 m.K, .int .i64 m.U, .string m.s]] w fun e w' => e = .returned (.bool (okB m)) ∧ Below w.heap.size w w' := opRight_any m.C m.D m.I m.M m.K m.U m.s w hs
theorem opP_mv (m : Mv) (w : World) (hw : Wide m.C m.D m.I m.M m.K m.U) (hs : m.s.size ≤ 1000000) :
    Calls Tryd.prog 40 #[.agg #[.int .i64 m.C, .int .i64 m.D, .int .i64 m.I, .int .i64 m.M, .int .i64 m.K, .int .i64 m.U, .string m.s]] w fun e w' => e = .returned (.string m.bytes) ∧ Below w.heap.size w w' := opPrint_any m.C m.D m.I m.M m.K m.U m.s w hw hs

set_option maxRecDepth 100000 in
theorem life_any (d i : Int) (w : World) : Calls Tryd.prog 75 #[.int .i64 d, .int .i64 i] w fun r w' => r = .returned (.bool (lifeB d i)) ∧ Below w.heap.size w w' := by
  by_cases h3 : 0 ≤ d ∧ d < 12 ∧ 1 ≤ i ∧ i ≤ 1099511627776
  · have hl : lifeB d i = true := decide_eq_true h3
    rw [hl]
    obtain ⟨h4, h5, h6, h7⟩ := h3
    clear hl
    go_enter Tryd.func75, Tryd.ntmps75
    go_wp2_with fail
    go_ret
    exact ⟨rfl, Below.refl _ _⟩
  · have hl : lifeB d i = false := decide_eq_false h3
    rw [hl]
    clear hl
    rcases (show d < 0 ∨ (0 ≤ d ∧ 12 ≤ d) ∨ (0 ≤ d ∧ d < 12 ∧ i < 1) ∨ (0 ≤ d ∧ d < 12 ∧ 1 ≤ i ∧ 1099511627776 < i) by omega) with h4 | ⟨h4, h5⟩ | ⟨h4, h5, h6⟩ | ⟨h4, h5, h6, h7⟩
    all_goals
      clear h3
      try have f7 : decide (i ≤ 1099511627776) = false := decide_eq_false (by omega)
      go_enter Tryd.func75, Tryd.ntmps75
      go_wp2_with fail
      go_ret
      exact ⟨rfl, Below.refl _ _⟩

set_option maxRecDepth 100000 in
set_option maxHeartbeats 2000000 in
theorem entRight_any (e : En) (w : World) (hs : e.o.s.size ≤ 9223372036854775807) : Calls Tryd.prog 31 #[.agg #[.int .i64 e.k, .int .i64 e.d, .int .i64 e.i, .int .i64 e.o.C, .int .i64 e.o.D, .int .i64 e.o.I, .int .i64 e.o.M, .int .i64 e.o.K, .int .i64 e.o.U, .string e.o.s]] w fun r w' => r = .returned (.bool (entB e)) ∧ Below w.heap.size w w' := by
  obtain ⟨k, d, i, o⟩ := e
  dsimp only at hs ⊢
  have hE : enE.In (w.alloc (.cells #[.int .i64 (⟨k, d, i, o⟩ : En).k, .int .i64 (⟨k, d, i, o⟩ : En).d, .int .i64 (⟨k, d, i, o⟩ : En).i, .int .i64 (⟨k, d, i, o⟩ : En).o.C, .int .i64 (⟨k, d, i, o⟩ : En).o.D, .int .i64 (⟨k, d, i, o⟩ : En).o.I, .int .i64 (⟨k, d, i, o⟩ : En).o.M, .int .i64 (⟨k, d, i, o⟩ : En).o.K, .int .i64 (⟨k, d, i, o⟩ : En).o.U, .string (⟨k, d, i, o⟩ : En).o.s] 52)) w.heap.size ⟨k, d, i, o⟩ := El.In.new (E := enE) w ⟨k, d, i, o⟩ _ rfl
  have hB := below_alloc (Below.refl w.heap.size w) (.cells #[.int .i64 (⟨k, d, i, o⟩ : En).k, .int .i64 (⟨k, d, i, o⟩ : En).d, .int .i64 (⟨k, d, i, o⟩ : En).i, .int .i64 (⟨k, d, i, o⟩ : En).o.C, .int .i64 (⟨k, d, i, o⟩ : En).o.D, .int .i64 (⟨k, d, i, o⟩ : En).o.I, .int .i64 (⟨k, d, i, o⟩ : En).o.M, .int .i64 (⟨k, d, i, o⟩ : En).o.K, .int .i64 (⟨k, d, i, o⟩ : En).o.U, .string (⟨k, d, i, o⟩ : En).o.s] 52)
  dsimp only at hE hB
  have C1 := (fun wx => op_mv o wx hs)
  have C2 := (fun wx => life_any d i wx)
  by_cases h1 : k = 1
  · subst h1
    have hv : entB ⟨1, d, i, o⟩ = (decide (d = 0 ∧ i = 0) && okB o) := by
      unfold entB; rw [if_pos rfl]
    rw [hv]
    clear hv C2
    generalize okB o = bo at *
    replace C1 := Lib.hid C1
    cases bo
    · rw [Bool.and_false]
      go_enter Tryd.func31, Tryd.ntmps31
      go_wp2_with fail
      refine (C1.out _).mono ?_
      rintro r w1 ⟨rfl, hb1⟩
      replace hB := hB.trans (hb1.mono hB.size)
      obtain ⟨p0, p1, p2, p3, p4, p5, p6, p7, p8, p9⟩ := enIn10 (hE.below hb1)
      dsimp only at p0 p1 p2 p3 p4 p5 p6 p7 p8 p9
      clear hb1 hE
      go_wp2_with fail
      go_ret
      exact ⟨rfl, hB⟩
    · rw [Bool.and_true]
      by_cases h3 : d = 0
      · subst h3
        by_cases h4 : i = 0
        · subst h4
          have hv : decide ((0 : Int) = 0 ∧ (0 : Int) = 0) = true := decide_eq_true ⟨rfl, rfl⟩
          rw [hv]
          clear hv
          go_enter Tryd.func31, Tryd.ntmps31
          go_wp2_with fail
          refine (C1.out _).mono ?_
          rintro r w1 ⟨rfl, hb1⟩
          replace hB := hB.trans (hb1.mono hB.size)
          obtain ⟨p0, p1, p2, p3, p4, p5, p6, p7, p8, p9⟩ := enIn10 (hE.below hb1)
          dsimp only at p0 p1 p2 p3 p4 p5 p6 p7 p8 p9
          clear hb1 hE
          go_wp2_with fail
          go_ret
          exact ⟨rfl, hB⟩
        · have hv : decide ((0 : Int) = 0 ∧ i = 0) = false := decide_eq_false (fun h => h4 h.2)
          rw [hv]
          clear hv
          have e2 : (i == 0) = false := beq_eq_false_iff_ne.2 h4
          clear h4
          go_enter Tryd.func31, Tryd.ntmps31
          go_wp2_with fail
          refine (C1.out _).mono ?_
          rintro r w1 ⟨rfl, hb1⟩
          replace hB := hB.trans (hb1.mono hB.size)
          obtain ⟨p0, p1, p2, p3, p4, p5, p6, p7, p8, p9⟩ := enIn10 (hE.below hb1)
          dsimp only at p0 p1 p2 p3 p4 p5 p6 p7 p8 p9
          clear hb1 hE
          go_wp2_with fail
          go_ret
          exact ⟨rfl, hB⟩
      · have hv : decide (d = 0 ∧ i = 0) = false := decide_eq_false (fun h => h3 h.1)
        rw [hv]
        clear hv
        have e2 : (d == 0) = false := beq_eq_false_iff_ne.2 h3
        clear h3
        go_enter Tryd.func31, Tryd.ntmps31
        go_wp2_with fail
        refine (C1.out _).mono ?_
        rintro r w1 ⟨rfl, hb1⟩
        replace hB := hB.trans (hb1.mono hB.size)
        obtain ⟨p0, p1, p2, p3, p4, p5, p6, p7, p8, p9⟩ := enIn10 (hE.below hb1)
        dsimp only at p0 p1 p2 p3 p4 p5 p6 p7 p8 p9
        clear hb1 hE
        go_wp2_with fail
        go_ret
        exact ⟨rfl, hB⟩
  · have e1 : (k == 1) = false := beq_eq_false_iff_ne.2 h1
    by_cases h2 : k = 2 ∨ k = 3
    · have hv : entB ⟨k, d, i, o⟩ = (lifeB d i && zeroB o) := by
        unfold entB
        rw [if_neg h1, if_pos h2]
      rw [hv]
      have q := run_eqMv
      have HZ := Lib.hid (show mvEq o.C o.D o.I o.M o.K o.U o.s 0 0 0 0 0 0 ⟨#[]⟩ = zeroB o from rfl)
      clear hv h1 C1
      generalize lifeB d i = lb at *
      replace C2 := Lib.hid C2
      cases lb
      · rw [Bool.false_and]
        rcases h2 with rfl | rfl
        · skip
          go_enter Tryd.func31, Tryd.ntmps31
          go_wp2_with fail
          refine (C2.out _).mono ?_
          rintro r w1 ⟨rfl, hb1⟩
          replace hB := hB.trans (hb1.mono hB.size)
          obtain ⟨p0, p1, p2, p3, p4, p5, p6, p7, p8, p9⟩ := enIn10 (hE.below hb1)
          dsimp only at p0 p1 p2 p3 p4 p5 p6 p7 p8 p9
          clear hb1 hE
          go_wp2_with fail
          go_ret
          exact ⟨rfl, hB⟩
        · skip
          go_enter Tryd.func31, Tryd.ntmps31
          go_wp2_with fail
          refine (C2.out _).mono ?_
          rintro r w1 ⟨rfl, hb1⟩
          replace hB := hB.trans (hb1.mono hB.size)
          obtain ⟨p0, p1, p2, p3, p4, p5, p6, p7, p8, p9⟩ := enIn10 (hE.below hb1)
          dsimp only at p0 p1 p2 p3 p4 p5 p6 p7 p8 p9
          clear hb1 hE
          go_wp2_with fail
          go_ret
          exact ⟨rfl, hB⟩
      · rw [Bool.true_and]
        rcases h2 with rfl | rfl
        · skip
          go_enter Tryd.func31, Tryd.ntmps31
          go_wp2_with fail
          refine (C2.out _).mono ?_
          rintro r w1 ⟨rfl, hb1⟩
          replace hB := hB.trans (hb1.mono hB.size)
          obtain ⟨p0, p1, p2, p3, p4, p5, p6, p7, p8, p9⟩ := enIn10 (hE.below hb1)
          dsimp only at p0 p1 p2 p3 p4 p5 p6 p7 p8 p9
          clear hb1 hE
          go_wp2_with fail
          go_ret
          exact ⟨by rw [HZ.out]; rfl, hB⟩
        · skip
          go_enter Tryd.func31, Tryd.ntmps31
          go_wp2_with fail
          refine (C2.out _).mono ?_
          rintro r w1 ⟨rfl, hb1⟩
          replace hB := hB.trans (hb1.mono hB.size)
          obtain ⟨p0, p1, p2, p3, p4, p5, p6, p7, p8, p9⟩ := enIn10 (hE.below hb1)
          dsimp only at p0 p1 p2 p3 p4 p5 p6 p7 p8 p9
          clear hb1 hE
          go_wp2_with fail
          go_ret
          exact ⟨by rw [HZ.out]; rfl, hB⟩
    · have hv : entB ⟨k, d, i, o⟩ = false := by
        unfold entB
        rw [if_neg h1, if_neg h2]
      rw [hv]
      have e2 : (k == 2) = false := beq_eq_false_iff_ne.2 (fun h => h2 (Or.inl h))
      have e3 : (k == 3) = false := beq_eq_false_iff_ne.2 (fun h => h2 (Or.inr h))
      clear h1 h2 hv
      go_enter Tryd.func31, Tryd.ntmps31
      go_wp2_with fail
      go_ret
      exact ⟨rfl, hB⟩

set_option maxRecDepth 100000 in
set_option maxHeartbeats 2000000 in
theorem entPrint_any (e : En) (w : World) (hw : EnW e) (hs : e.o.s.size ≤ 1000000) : Calls Tryd.prog 44 #[.agg #[.int .i64 e.k, .int .i64 e.d, .int .i64 e.i, .int .i64 e.o.C, .int .i64 e.o.D, .int .i64 e.o.I, .int .i64 e.o.M, .int .i64 e.o.K, .int .i64 e.o.U, .string e.o.s]] w fun r w' => r = .returned (.string (entBytes e)) ∧ Below w.heap.size w w' := by
  obtain ⟨k, d, i, o⟩ := e
  obtain ⟨hk, hd, hi, ho⟩ := hw
  dsimp only at hs hk hd hi ho ⊢
  have hE : enE.In (w.alloc (.cells #[.int .i64 (⟨k, d, i, o⟩ : En).k, .int .i64 (⟨k, d, i, o⟩ : En).d, .int .i64 (⟨k, d, i, o⟩ : En).i, .int .i64 (⟨k, d, i, o⟩ : En).o.C, .int .i64 (⟨k, d, i, o⟩ : En).o.D, .int .i64 (⟨k, d, i, o⟩ : En).o.I, .int .i64 (⟨k, d, i, o⟩ : En).o.M, .int .i64 (⟨k, d, i, o⟩ : En).o.K, .int .i64 (⟨k, d, i, o⟩ : En).o.U, .string (⟨k, d, i, o⟩ : En).o.s] 52)) w.heap.size ⟨k, d, i, o⟩ := El.In.new (E := enE) w ⟨k, d, i, o⟩ _ rfl
  have hB := below_alloc (Below.refl w.heap.size w) (.cells #[.int .i64 (⟨k, d, i, o⟩ : En).k, .int .i64 (⟨k, d, i, o⟩ : En).d, .int .i64 (⟨k, d, i, o⟩ : En).i, .int .i64 (⟨k, d, i, o⟩ : En).o.C, .int .i64 (⟨k, d, i, o⟩ : En).o.D, .int .i64 (⟨k, d, i, o⟩ : En).o.I, .int .i64 (⟨k, d, i, o⟩ : En).o.M, .int .i64 (⟨k, d, i, o⟩ : En).o.K, .int .i64 (⟨k, d, i, o⟩ : En).o.U, .string (⟨k, d, i, o⟩ : En).o.s] 52)
  obtain ⟨p0, p1, p2, p3, p4, p5, p6, p7, p8, p9⟩ := enIn10 hE
  dsimp only at hE hB p0 p1 p2 p3 p4 p5 p6 p7 p8 p9
  have CK := Lib.hid (fun wx => num_any k wx hk.1 hk.2)
  have zk := bytesOf_le10 hk
  by_cases h1 : k = 1
  · subst h1
    have hv : entBytes ⟨1, d, i, o⟩ = bytesOf 1 ++ o.bytes := rfl
    rw [hv]
    have CO := Lib.hid (fun wx => opP_mv o wx ho hs)
    have zo := mvBytes_le ho hs
    generalize bytesOf 1 = B1 at *
    generalize o.bytes = B2 at *
    clear hv hk hd hi ho hE
    go_enter Tryd.func44, Tryd.ntmps44
    go_wp2_with fail
    generalize w.alloc (.cells #[.int .i64 1, .int .i64 d, .int .i64 i, .int .i64 o.C, .int .i64 o.D, .int .i64 o.I, .int .i64 o.M, .int .i64 o.K, .int .i64 o.U, .string o.s] 52) = W at *
    obtain ⟨n1, hn1⟩ : ∃ n, w.heap.size = n := ⟨_, rfl⟩
    rw [hn1] at p0 p1 p2 p3 p4 p5 p6 p7 p8 p9 ⊢
    clear hn1
    have k0 := cell_regrown p0
    have k1 := cell_regrown p1
    have k2 := cell_regrown p2
    have k3 := cell_regrown p3
    have k4 := cell_regrown p4
    have k5 := cell_regrown p5
    have k6 := cell_regrown p6
    have k7 := cell_regrown p7
    have k8 := cell_regrown p8
    have k9 := cell_regrown p9
    clear p0 p1 p2 p3 p4 p5 p6 p7 p8 p9
    have d1 : ∀ d os, Calls Tryd.prog 23 #[.int .i64 1] (Sort.grow (redrawn W d) os) fun e w'' => e = .returned (.string B1) ∧ ∃ p : Regrown, w'' = Sort.grow (redrawn W p.d) p.os := fun d os => Calls.regrown_of (CK.out _)
    have d2 : ∀ d os, Calls Tryd.prog 40 #[.agg #[.int .i64 o.C, .int .i64 o.D, .int .i64 o.I, .int .i64 o.M, .int .i64 o.K, .int .i64 o.U, .string o.s]] (Sort.grow (redrawn W d) os) fun e w'' => e = .returned (.string B2) ∧ ∃ p : Regrown, w'' = Sort.grow (redrawn W p.d) p.os := fun d os => Calls.regrown_of (CO.out _)
    refine wp_region_quiet_below (by kernel_rfl) (by kernel_rfl) ?_
    repeat (go_big_quiet_step ((with_reducible (first | exact d1 _ _ | exact d2 _ _))))
    refine wpQuiet_nil ?_
    intro _ hw'
    obtain ⟨⟨dq, osq⟩, hw''⟩ := hw'
    subst hw''
    go_wp2
    go_ret
    exact ⟨rfl, below_then hB (below_regrown W dq osq)⟩
  · have hv : entBytes ⟨k, d, i, o⟩ = bytesOf k ++ bytesOf d ++ bytesOf i := by unfold entBytes; rw [if_neg h1]
    rw [hv]
    have e1 : (k == 1) = false := beq_eq_false_iff_ne.2 h1
    have CD := Lib.hid (fun wx => num_any d wx hd.1 hd.2)
    have CI := Lib.hid (fun wx => num_any i wx hi.1 hi.2)
    have zd := bytesOf_le10 hd
    have zi := bytesOf_le10 hi
    generalize bytesOf k = B1 at *
    generalize bytesOf d = B2 at *
    generalize bytesOf i = B3 at *
    clear hv hk hd hi ho hE h1
    go_enter Tryd.func44, Tryd.ntmps44
    go_wp2_with fail
    generalize w.alloc (.cells #[.int .i64 k, .int .i64 d, .int .i64 i, .int .i64 o.C, .int .i64 o.D, .int .i64 o.I, .int .i64 o.M, .int .i64 o.K, .int .i64 o.U, .string o.s] 52) = W at *
    obtain ⟨n1, hn1⟩ : ∃ n, w.heap.size = n := ⟨_, rfl⟩
    rw [hn1] at p0 p1 p2 p3 p4 p5 p6 p7 p8 p9 ⊢
    clear hn1
    have k0 := cell_regrown p0
    have k1 := cell_regrown p1
    have k2 := cell_regrown p2
    have k3 := cell_regrown p3
    have k4 := cell_regrown p4
    have k5 := cell_regrown p5
    have k6 := cell_regrown p6
    have k7 := cell_regrown p7
    have k8 := cell_regrown p8
    have k9 := cell_regrown p9
    clear p0 p1 p2 p3 p4 p5 p6 p7 p8 p9
    have d1 : ∀ c os, Calls Tryd.prog 23 #[.int .i64 k] (Sort.grow (redrawn W c) os) fun e w'' => e = .returned (.string B1) ∧ ∃ p : Regrown, w'' = Sort.grow (redrawn W p.d) p.os := fun c os => Calls.regrown_of (CK.out _)
    have d2 : ∀ c os, Calls Tryd.prog 23 #[.int .i64 d] (Sort.grow (redrawn W c) os) fun e w'' => e = .returned (.string B2) ∧ ∃ p : Regrown, w'' = Sort.grow (redrawn W p.d) p.os := fun c os => Calls.regrown_of (CD.out _)
    have d3 : ∀ c os, Calls Tryd.prog 23 #[.int .i64 i] (Sort.grow (redrawn W c) os) fun e w'' => e = .returned (.string B3) ∧ ∃ p : Regrown, w'' = Sort.grow (redrawn W p.d) p.os := fun c os => Calls.regrown_of (CI.out _)
    refine wp_region_quiet_below (by kernel_rfl) (by kernel_rfl) ?_
    repeat (go_big_quiet_step ((with_reducible (first | exact d1 _ _ | exact d2 _ _ | exact d3 _ _))))
    refine wpQuiet_nil ?_
    intro _ hw'
    obtain ⟨⟨dq, osq⟩, hw''⟩ := hw'
    subst hw''
    go_wp2
    go_ret
    exact ⟨rfl, below_then hB (below_regrown W dq osq)⟩
end Go.Proofs.YtndahomgglpdhaaDoor

/- The program's reports: an array of fields; there and back. -/
namespace Go.Proofs.YtndahomgglpdhaaDoor
open Go.RowKit Cod

def fdE : El Rp where
  e := 105
  k := 9
  c r := [.int .i64 r.d, .int .i64 r.i, .int .i64 r.b, .int .i64 r.t, .int .i64 r.m, .int .i64 r.p, .int .i64 r.c, .int .i64 r.s, .int .i64 r.k]
  len _ := rfl
  one p u h := by
    simp only [List.mem_cons, List.not_mem_nil, or_false] at h
    rcases h with rfl | rfl | rfl | rfl | rfl | rfl | rfl | rfl | rfl <;> rfl
  pos := by decide
theorem fdRow : fdE.Row Tryd.prog := ⟨by kernel_rfl, _, Tryd.underlying105, rfl⟩
theorem fdIn9 {w : World} {b : Nat} {r : Rp} (h : fdE.In w b r) : w.cell? ⟨b, 0, none⟩ = some (.int .i64 r.d) ∧ w.cell? ⟨b, 1, none⟩ = some (.int .i64 r.i) ∧ w.cell? ⟨b, 2, none⟩ = some (.int .i64 r.b) ∧ w.cell? ⟨b, 3, none⟩ = some (.int .i64 r.t) ∧ w.cell? ⟨b, 4, none⟩ = some (.int .i64 r.m) ∧ w.cell? ⟨b, 5, none⟩ = some (.int .i64 r.p) ∧ w.cell? ⟨b, 6, none⟩ = some (.int .i64 r.c) ∧ w.cell? ⟨b, 7, none⟩ = some (.int .i64 r.s) ∧ w.cell? ⟨b, 8, none⟩ = some (.int .i64 r.k) :=
  ⟨h.cell 0, h.cell 1, h.cell 2, h.cell 3, h.cell 4, h.cell 5, h.cell 6, h.cell 7, h.cell 8⟩
/-- One field another. -/
def setF (r : Rp) : Nat → Int → Rp
  | 0, n => { r with d := n }
  | 1, n => { r with i := n }
  | 2, n => { r with b := n }
  | 3, n => { r with t := n }
  | 4, n => { r with m := n }
  | 5, n => { r with p := n }
  | 6, n => { r with c := n }
  | 7, n => { r with s := n }
  | 8, n => { r with k := n }
  | _, _ => r
theorem setF_c (r : Rp) (n : Int) : ∀ k, k < 9 → fdE.c (setF r k n) = (fdE.c r).set k (.int .i64 n)
  | 0, _ => rfl
  | 1, _ => rfl
  | 2, _ => rfl
  | 3, _ => rfl
  | 4, _ => rfl
  | 5, _ => rfl
  | 6, _ => rfl
  | 7, _ => rfl
  | 8, _ => rfl
  | k + 9, h => absurd h (by omega)
theorem setF_take (r : Rp) (n : Int) : ∀ k, k < 9 → (rpL (setF r k n)).take (k + 1) = (rpL r).take k ++ [n]
  | 0, _ => rfl
  | 1, _ => rfl
  | 2, _ => rfl
  | 3, _ => rfl
  | 4, _ => rfl
  | 5, _ => rfl
  | 6, _ => rfl
  | 7, _ => rfl
  | 8, _ => rfl
  | k + 9, h => absurd h (by omega)
theorem fdCell {w : World} {b : Nat} {r : Rp} (h : fdE.In w b r) : ∀ k, k < 9 → w.cell? ⟨b, k, none⟩ = some (.int .i64 ((rpL r).getD k 0))
  | 0, _ => h.cell 0
  | 1, _ => h.cell 1
  | 2, _ => h.cell 2
  | 3, _ => h.cell 3
  | 4, _ => h.cell 4
  | 5, _ => h.cell 5
  | 6, _ => h.cell 6
  | 7, _ => h.cell 7
  | 8, _ => h.cell 8
  | k + 9, h => absurd h (by omega)
theorem idxFd (r : Rp) (w : World) : ∀ k, k < 9 → (Instr.index 105 (.agg #[.int .i64 r.d, .int .i64 r.i, .int .i64 r.b, .int .i64 r.t, .int .i64 r.m, .int .i64 r.p, .int .i64 r.c, .int .i64 r.s, .int .i64 r.k]) (.int .i64 (k : Nat))).run Tryd.prog w = .ok (.int .i64 ((rpL r).getD k 0)) w
  | 0, _ => by kernel_rfl
  | 1, _ => by kernel_rfl
  | 2, _ => by kernel_rfl
  | 3, _ => by kernel_rfl
  | 4, _ => by kernel_rfl
  | 5, _ => by kernel_rfl
  | 6, _ => by kernel_rfl
  | 7, _ => by kernel_rfl
  | 8, _ => by kernel_rfl
  | k + 9, h => absurd h (by omega)
theorem two_fd (w : World) (a : Array Value) (T : TypeId) : fdE.In ((w.alloc (.cells a T)).alloc (.cells #[.int .i64 0, .int .i64 0, .int .i64 0, .int .i64 0, .int .i64 0, .int .i64 0, .int .i64 0, .int .i64 0, .int .i64 0] 105)) (w.heap.size + 1) zeroRp := by
  have h := El.In.new (E := fdE) (w.alloc (.cells a T)) zeroRp _ rfl
  rw [alloc_size] at h; exact h
theorem two_rp (w : World) (a : Array Value) (T : TypeId) : rpE.In ((w.alloc (.cells a T)).alloc (.cells #[.int .i64 0, .int .i64 0, .int .i64 0, .int .i64 0, .int .i64 0, .int .i64 0, .int .i64 0, .int .i64 0, .int .i64 0] 54)) (w.heap.size + 1) zeroRp := by
  have h := El.In.new (E := rpE) (w.alloc (.cells a T)) zeroRp _ rfl
  rw [alloc_size] at h; exact h
set_option maxRecDepth 100000 in
set_option maxHeartbeats 2000000 in
theorem fieldsOf_any (r : Rp) (w : World) : Calls Tryd.prog 76 #[.agg #[.int .i64 r.d, .int .i64 r.i, .int .i64 r.b, .int .i64 r.t, .int .i64 r.m, .int .i64 r.p, .int .i64 r.c, .int .i64 r.s, .int .i64 r.k]] w fun e w' => e = .returned (.agg #[.int .i64 r.d, .int .i64 r.i, .int .i64 r.b, .int .i64 r.t, .int .i64 r.m, .int .i64 r.p, .int .i64 r.c, .int .i64 r.s, .int .i64 r.k]) ∧ Below w.heap.size w w' := by
  have hP : rpE.In ((w.alloc (.cells #[.int .i64 r.d, .int .i64 r.i, .int .i64 r.b, .int .i64 r.t, .int .i64 r.m, .int .i64 r.p, .int .i64 r.c, .int .i64 r.s, .int .i64 r.k] 54)).alloc (.cells #[.int .i64 0, .int .i64 0, .int .i64 0, .int .i64 0, .int .i64 0, .int .i64 0, .int .i64 0, .int .i64 0, .int .i64 0] 105)) w.heap.size r := (El.In.new (E := rpE) w r _ rfl).alloc _
  have hQ := two_fd w #[.int .i64 r.d, .int .i64 r.i, .int .i64 r.b, .int .i64 r.t, .int .i64 r.m, .int .i64 r.p, .int .i64 r.c, .int .i64 r.s, .int .i64 r.k] 54
  have hB := below_alloc (below_alloc (Below.refl w.heap.size w) (.cells #[.int .i64 r.d, .int .i64 r.i, .int .i64 r.b, .int .i64 r.t, .int .i64 r.m, .int .i64 r.p, .int .i64 r.c, .int .i64 r.s, .int .i64 r.k] 54)) (.cells #[.int .i64 0, .int .i64 0, .int .i64 0, .int .i64 0, .int .i64 0, .int .i64 0, .int .i64 0, .int .i64 0, .int .i64 0] 105)
  go_enter Tryd.func76, Tryd.ntmps76
  go_upto_region 1 with fail
  generalize (w.alloc (.cells #[.int .i64 r.d, .int .i64 r.i, .int .i64 r.b, .int .i64 r.t, .int .i64 r.m, .int .i64 r.p, .int .i64 r.c, .int .i64 r.s, .int .i64 r.k] 54)).alloc (.cells #[.int .i64 0, .int .i64 0, .int .i64 0, .int .i64 0, .int .i64 0, .int .i64 0, .int .i64 0, .int .i64 0, .int .i64 0] 105) = W at *
  obtain ⟨n3, h3⟩ : ∃ n, w.heap.size + 1 = n := ⟨_, rfl⟩
  obtain ⟨n2, h2⟩ : ∃ n, w.heap.size = n := ⟨_, rfl⟩
  rw [h3] at hQ ⊢
  rw [h2] at hP ⊢
  have hwn3 : w.heap.size ≤ n3 := by omega
  clear h2 h3
  obtain ⟨p0, p1, p2, p3, p4, p5, p6, p7, p8⟩ := rpIn9 hP
  go_wp2_with (first | (refine El.store fdRow rfl _ _ rfl n3 r #[.int .i64 r.d, .int .i64 r.i, .int .i64 r.b, .int .i64 r.t, .int .i64 r.m, .int .i64 r.p, .int .i64 r.c, .int .i64 r.s, .int .i64 r.k] rfl rfl rfl zeroRp hQ ?_) | fail)
  refine El.ret1 fdRow (hQ.set r _ rfl) rfl rfl rfl #[.int .i64 r.d, .int .i64 r.i, .int .i64 r.b, .int .i64 r.t, .int .i64 r.m, .int .i64 r.p, .int .i64 r.c, .int .i64 r.s, .int .i64 r.k] rfl ?_
  exact ⟨rfl, below_setRow hB hwn3 _⟩

set_option maxRecDepth 100000 in
set_option maxHeartbeats 2000000 in
theorem report_any (r : Rp) (w : World) : Calls Tryd.prog 100 #[.agg #[.int .i64 r.d, .int .i64 r.i, .int .i64 r.b, .int .i64 r.t, .int .i64 r.m, .int .i64 r.p, .int .i64 r.c, .int .i64 r.s, .int .i64 r.k]] w fun e w' => e = .returned (.agg #[.int .i64 r.d, .int .i64 r.i, .int .i64 r.b, .int .i64 r.t, .int .i64 r.m, .int .i64 r.p, .int .i64 r.c, .int .i64 r.s, .int .i64 r.k]) ∧ Below w.heap.size w w' := by
  have hP : fdE.In ((w.alloc (.cells #[.int .i64 r.d, .int .i64 r.i, .int .i64 r.b, .int .i64 r.t, .int .i64 r.m, .int .i64 r.p, .int .i64 r.c, .int .i64 r.s, .int .i64 r.k] 105)).alloc (.cells #[.int .i64 0, .int .i64 0, .int .i64 0, .int .i64 0, .int .i64 0, .int .i64 0, .int .i64 0, .int .i64 0, .int .i64 0] 54)) w.heap.size r := (El.In.new (E := fdE) w r _ rfl).alloc _
  have hQ := two_rp w #[.int .i64 r.d, .int .i64 r.i, .int .i64 r.b, .int .i64 r.t, .int .i64 r.m, .int .i64 r.p, .int .i64 r.c, .int .i64 r.s, .int .i64 r.k] 105
  have hB := below_alloc (below_alloc (Below.refl w.heap.size w) (.cells #[.int .i64 r.d, .int .i64 r.i, .int .i64 r.b, .int .i64 r.t, .int .i64 r.m, .int .i64 r.p, .int .i64 r.c, .int .i64 r.s, .int .i64 r.k] 105)) (.cells #[.int .i64 0, .int .i64 0, .int .i64 0, .int .i64 0, .int .i64 0, .int .i64 0, .int .i64 0, .int .i64 0, .int .i64 0] 54)
  go_enter Tryd.func100, Tryd.ntmps100
  go_upto_region 1 with fail
  generalize (w.alloc (.cells #[.int .i64 r.d, .int .i64 r.i, .int .i64 r.b, .int .i64 r.t, .int .i64 r.m, .int .i64 r.p, .int .i64 r.c, .int .i64 r.s, .int .i64 r.k] 105)).alloc (.cells #[.int .i64 0, .int .i64 0, .int .i64 0, .int .i64 0, .int .i64 0, .int .i64 0, .int .i64 0, .int .i64 0, .int .i64 0] 54) = W at *
  obtain ⟨n3, h3⟩ : ∃ n, w.heap.size + 1 = n := ⟨_, rfl⟩
  obtain ⟨n2, h2⟩ : ∃ n, w.heap.size = n := ⟨_, rfl⟩
  rw [h3] at hQ ⊢
  rw [h2] at hP ⊢
  have hwn3 : w.heap.size ≤ n3 := by omega
  clear h2 h3
  obtain ⟨p0, p1, p2, p3, p4, p5, p6, p7, p8⟩ := fdIn9 hP
  go_wp2_with (first | (refine El.store rpRow rfl _ _ rfl n3 r #[.int .i64 r.d, .int .i64 r.i, .int .i64 r.b, .int .i64 r.t, .int .i64 r.m, .int .i64 r.p, .int .i64 r.c, .int .i64 r.s, .int .i64 r.k] rfl rfl rfl zeroRp hQ ?_) | fail)
  refine El.ret1 rpRow (hQ.set r _ rfl) rfl rfl rfl #[.int .i64 r.d, .int .i64 r.i, .int .i64 r.b, .int .i64 r.t, .int .i64 r.m, .int .i64 r.p, .int .i64 r.c, .int .i64 r.s, .int .i64 r.k] rfl ?_
  exact ⟨rfl, below_setRow hB hwn3 _⟩
theorem isNums_none9 {s : ByteArray} {p k : Nat} (hk : k ≤ 9) (h : isNums s k p = none) : isNums s 9 p = none := by
  have := isNums_none s p k h (9 - k)
  rw [show k + (9 - k) = 9 by omega] at this; exact this
/-- Behind k numbers: all read, or it went wrong. -/
def fdState (s : ByteArray) (p : Nat) (bad : Bool) (k : Nat) (x : Rp) (q : Nat) (b : Bool) : Prop := (b = false ∧ bad = false ∧ isNums s k p = some ((rpL x).take k, q)) ∨ (b = true ∧ isRp s p bad = none)
theorem fdState.zero (s : ByteArray) (p : Nat) (bad : Bool) (x : Rp) : fdState s p bad 0 x p bad := by
  cases bad
  · exact Or.inl ⟨rfl, rfl, rfl⟩
  · exact Or.inr ⟨rfl, rfl⟩
theorem fdState.next {s : ByteArray} {p : Nat} {bad : Bool} {k : Nat} {x : Rp} {q : Nat} {b : Bool} {v : Int} {q' : Nat} {b' : Bool} (hk : k < 9) (h : fdState s p bad k x q b) (hs : numStep s q b v q' b') : fdState s p bad (k + 1) (setF x k v) q' b' := by
  rcases h with ⟨rfl, rfl, hn⟩ | ⟨rfl, hn⟩
  · rcases hs with ⟨h1, rfl⟩ | ⟨h1, _, rfl⟩
    · refine Or.inl ⟨rfl, rfl, ?_⟩
      rw [isNums_next, hn, Option.bind_some, h1, Option.bind_some, setF_take x v k hk]
    · refine Or.inr ⟨rfl, ?_⟩
      have h2 : isNums s (k + 1) p = none := by rw [isNums_next, hn, Option.bind_some, h1]; rfl
      unfold isRp
      rw [if_neg (by decide), isNums_none9 (by omega) h2]; rfl
  · rcases hs with ⟨h1, _⟩ | ⟨_, _, rfl⟩
    · rw [isNum_bad] at h1; cases h1
    · exact Or.inr ⟨rfl, hn⟩
theorem fdState.last {s : ByteArray} {p : Nat} {bad : Bool} {x : Rp} {q : Nat} (h : fdState s p bad 9 x q false) : isRp s p bad = if rpB x = true then some (x, q) else none := by
  rcases h with ⟨_, rfl, hn⟩ | ⟨h, _⟩
  · unfold isRp
    rw [if_neg (by decide), hn, Option.bind_some]
    rfl
  · cases h
theorem fdState.ill {s : ByteArray} {p : Nat} {bad : Bool} {x : Rp} {q : Nat} (h : fdState s p bad 9 x q true) : isRp s p bad = none := by
  rcases h with ⟨h, _⟩ | ⟨_, h⟩
  · cases h
  · exact h
end Go.Proofs.YtndahomgglpdhaaDoor

/- The program's reports: bounds, right, Right. -/
namespace Go.Proofs.YtndahomgglpdhaaDoor
open Go.RowKit Cod

theorem fd_ret2 {fn : Func} {K : Ending → World → Prop} {a : Act} {w : World} {b c : Nat} {t u : Tmp} {x y : Rp} (h : fdE.In w b x) (h2 : fdE.In w c y) (hr : fn.results = #[.cell t 105, .cell u 105]) (hp : a.tmps.getD t undef = .pointer (some ⟨b, 0, none⟩)) (hq : a.tmps.getD u undef = .pointer (some ⟨c, 0, none⟩)) (hd : a.defers = [])
    (hR : K (.returned (.tuple #[.agg #[.int .i64 x.d, .int .i64 x.i, .int .i64 x.b, .int .i64 x.t, .int .i64 x.m, .int .i64 x.p, .int .i64 x.c, .int .i64 x.s, .int .i64 x.k], .agg #[.int .i64 y.d, .int .i64 y.i, .int .i64 y.b, .int .i64 y.t, .int .i64 y.m, .int .i64 y.p, .int .i64 y.c, .int .i64 y.s, .int .i64 y.k]])) w) : bodyPost Tryd.prog fn K .ret a w := by
  refine bodyPost_ret (v := .tuple #[.agg #[.int .i64 x.d, .int .i64 x.i, .int .i64 x.b, .int .i64 x.t, .int .i64 x.m, .int .i64 x.p, .int .i64 x.c, .int .i64 x.s, .int .i64 x.k], .agg #[.int .i64 y.d, .int .i64 y.i, .int .i64 y.b, .int .i64 y.t, .int .i64 y.m, .int .i64 y.p, .int .i64 y.c, .int .i64 y.s, .int .i64 y.k]]) ?_ hd hR
  have hp' : a.tmps[t]?.getD undef = .pointer (some ⟨b, 0, none⟩) := by simpa using hp
  have hq' : a.tmps[u]?.getD undef = .pointer (some ⟨c, 0, none⟩) := by simpa using hq
  have l1 : (loadVar 105 ⟨b, 0, none⟩).run Tryd.prog w = .ok (.agg #[.int .i64 x.d, .int .i64 x.i, .int .i64 x.b, .int .i64 x.t, .int .i64 x.m, .int .i64 x.p, .int .i64 x.c, .int .i64 x.s, .int .i64 x.k]) w := El.run_load fdRow h.at
  have l2 : (loadVar 105 ⟨c, 0, none⟩).run Tryd.prog w = .ok (.agg #[.int .i64 y.d, .int .i64 y.i, .int .i64 y.b, .int .i64 y.t, .int .i64 y.m, .int .i64 y.p, .int .i64 y.c, .int .i64 y.s, .int .i64 y.k]) w := El.run_load fdRow h2.at
  simp [results, hr, hp', hq', asAddr, l1, l2]
theorem below_setC {W w : World} (h : Below W.heap.size W w) (n i : Nat) (v : Value) (hn : W.heap.size ≤ n) : Below W.heap.size W (w.setCell ⟨n, i, none⟩ v) := Below.setCell h (show W.heap.size ≤ (⟨n, i, none⟩ : Addr).block from hn) v
/-- Bounds with the first k laid. -/
def mostK : Nat → Rp
  | 0 => zeroRp
  | k + 1 => setF (mostK k) k 1099511627776
def loB : Rp := ⟨0, 1, 0, 0, 1, 0, 0, 0, 0⟩
def hiB : Rp := ⟨11, 1099511627776, 1099511627776, 1099511627776, 2, 1099511627776, 1099511627776, 1099511627776, 1099511627776⟩
def FdS (n : Nat) (r : Rp) (w : World) : Prop := w.cell? ⟨n, 0, none⟩ = some (.int .i64 r.d) ∧ w.cell? ⟨n, 1, none⟩ = some (.int .i64 r.i) ∧ w.cell? ⟨n, 2, none⟩ = some (.int .i64 r.b) ∧ w.cell? ⟨n, 3, none⟩ = some (.int .i64 r.t) ∧ w.cell? ⟨n, 4, none⟩ = some (.int .i64 r.m) ∧ w.cell? ⟨n, 5, none⟩ = some (.int .i64 r.p) ∧ w.cell? ⟨n, 6, none⟩ = some (.int .i64 r.c) ∧ w.cell? ⟨n, 7, none⟩ = some (.int .i64 r.s) ∧ w.cell? ⟨n, 8, none⟩ = some (.int .i64 r.k)
set_option maxRecDepth 100000 in
set_option maxHeartbeats 2000000 in
theorem bounds_any (w : World) : Calls Tryd.prog 98 #[] w fun e w' => e = .returned (.tuple #[.agg #[.int .i64 loB.d, .int .i64 loB.i, .int .i64 loB.b, .int .i64 loB.t, .int .i64 loB.m, .int .i64 loB.p, .int .i64 loB.c, .int .i64 loB.s, .int .i64 loB.k], .agg #[.int .i64 hiB.d, .int .i64 hiB.i, .int .i64 hiB.b, .int .i64 hiB.t, .int .i64 hiB.m, .int .i64 hiB.p, .int .i64 hiB.c, .int .i64 hiB.s, .int .i64 hiB.k]]) ∧ Below w.heap.size w w' := by
  have hP : fdE.In ((w.alloc (.cells #[.int .i64 0, .int .i64 0, .int .i64 0, .int .i64 0, .int .i64 0, .int .i64 0, .int .i64 0, .int .i64 0, .int .i64 0] 105)).alloc (.cells #[.int .i64 0, .int .i64 0, .int .i64 0, .int .i64 0, .int .i64 0, .int .i64 0, .int .i64 0, .int .i64 0, .int .i64 0] 105)) w.heap.size zeroRp := (El.In.new (E := fdE) w zeroRp _ rfl).alloc _
  have hQ := two_fd w #[.int .i64 0, .int .i64 0, .int .i64 0, .int .i64 0, .int .i64 0, .int .i64 0, .int .i64 0, .int .i64 0, .int .i64 0] 105
  have hB := below_alloc (below_alloc (Below.refl w.heap.size w) (.cells #[.int .i64 0, .int .i64 0, .int .i64 0, .int .i64 0, .int .i64 0, .int .i64 0, .int .i64 0, .int .i64 0, .int .i64 0] 105)) (.cells #[.int .i64 0, .int .i64 0, .int .i64 0, .int .i64 0, .int .i64 0, .int .i64 0, .int .i64 0, .int .i64 0, .int .i64 0] 105)
  go_enter Tryd.func98, Tryd.ntmps98
  go_upto_region 1 with fail
  generalize (w.alloc (.cells #[.int .i64 0, .int .i64 0, .int .i64 0, .int .i64 0, .int .i64 0, .int .i64 0, .int .i64 0, .int .i64 0, .int .i64 0] 105)).alloc (.cells #[.int .i64 0, .int .i64 0, .int .i64 0, .int .i64 0, .int .i64 0, .int .i64 0, .int .i64 0, .int .i64 0, .int .i64 0] 105) = W at *
  obtain ⟨n3, h3⟩ : ∃ n, w.heap.size + 1 = n := ⟨_, rfl⟩
  obtain ⟨n2, h2⟩ : ∃ n, w.heap.size = n := ⟨_, rfl⟩
  rw [h3] at hQ ⊢
  rw [h2] at hP ⊢
  have hwn3 : w.heap.size ≤ n3 := by omega
  have hwn2 : w.heap.size ≤ n2 := by omega
  have hne : n2 ≠ n3 := by omega
  have hne' : n3 ≠ n2 := by omega
  clear h2 h3
  go_wp2_with fail
  go_loopw [3] (fun i wr => ∃ k : Nat, k ≤ 9 ∧ i = .int .i64 k ∧ fdE.In wr n2 zeroRp ∧ fdE.In wr n3 (mostK k) ∧ Below w.heap.size w wr) (fun i _ => 9 - (intOf i).toNat)
  case atStart => exact ⟨0, Nat.zero_le _, rfl, hP, hQ, hB⟩
  case round =>
    clear hP hQ hB
    obtain ⟨k, hk, rfl, hP, hQ, hB⟩ := hrel
    by_cases hkl : k < 9
    · have c0 := fdCell hQ k hkl
      have cf := hQ.frozen k
      have hQ2 : fdE.In (wr.setCell ⟨n3, k, none⟩ (.int .i64 1099511627776)) n3 (mostK (k + 1)) := hQ.put _ k _ (setF_c (mostK k) 1099511627776 k hkl)
      have hP2 := hP.other n3 k (.int .i64 1099511627776) hne
      have hB2 := below_setC hB n3 k (.int .i64 1099511627776) hwn3
      generalize (rpL (mostK k)).getD k 0 = x at *
      clear hP hQ
      go_wp2_with fail
      exact ⟨⟨k + 1, by omega, by go_num, hP2, hQ2, hB2⟩, by simp [intOf]; omega⟩
    · obtain rfl : k = 9 := by omega
      clear hkl
      have c0 : wr.cell? ⟨n3, 0, none⟩ = _ := fdCell hQ 0 (by decide)
      have c1 : wr.cell? ⟨n2, 1, none⟩ = _ := fdCell hP 1 (by decide)
      have c2 : wr.cell? ⟨n2, 4, none⟩ = _ := fdCell hP 4 (by decide)
      have c3 : wr.cell? ⟨n3, 4, none⟩ = _ := fdCell hQ 4 (by decide)
      have f1 := hP.frozen
      have f2 := hQ.frozen
      have hP1 := hP.other n3 0 (.int .i64 11) hne
      have hQ1 : fdE.In (wr.setCell ⟨n3, 0, none⟩ (.int .i64 11)) n3 (setF (mostK 9) 0 11) := hQ.put _ 0 _ rfl
      replace hB := below_setC hB n3 0 (.int .i64 11) hwn3
      clear hP hQ
      have hQ2 := hQ1.other n2 1 (.int .i64 1) hne'
      have hP2 := hP1.put (setF zeroRp 1 1) 1 (.int .i64 1) rfl
      replace hB := below_setC hB n2 1 (.int .i64 1) hwn2
      clear hP1 hQ1
      have hQ1 := hQ2.other n2 4 (.int .i64 1) hne'
      have hP1 := hP2.put (setF (setF zeroRp 1 1) 4 1) 4 (.int .i64 1) rfl
      replace hB := below_setC hB n2 4 (.int .i64 1) hwn2
      clear hP2 hQ2
      have hP2 := hP1.other n3 4 (.int .i64 2) hne
      have hQ2 := hQ1.put hiB 4 (.int .i64 2) rfl
      replace hB := below_setC hB n3 4 (.int .i64 2) hwn3
      clear hP1 hQ1
      replace hP2 : fdE.In _ n2 loB := hP2
      go_upto_region 9 with fail
      clear c0 c1 c2 c3 f1 f2
      generalize (((wr.setCell ⟨n3, 0, none⟩ (.int .i64 11)).setCell ⟨n2, 1, none⟩ (.int .i64 1)).setCell ⟨n2, 4, none⟩ (.int .i64 1)).setCell ⟨n3, 4, none⟩ (.int .i64 2) = V at *
      refine region_anyG (S := fun w' => FdS n2 loB w' ∧ FdS n3 hiB w') 3 (by kernel_rfl) ?_
      replace hP2 : fdE.In V.drew n2 loB := hP2
      replace hQ2 : fdE.In V.drew n3 hiB := hQ2
      replace hB := hB.drew
      generalize V.drew = U at *
      have hS : FdS n2 loB U ∧ FdS n3 hiB U := ⟨fdIn9 hP2, fdIn9 hQ2⟩
      refine anyG_take (i := 0) (v := .agg #[.int .i64 loB.d, .int .i64 loB.i, .int .i64 loB.b, .int .i64 loB.t, .int .i64 loB.m, .int .i64 loB.p, .int .i64 loB.c, .int .i64 loB.s, .int .i64 loB.k]) rfl (by kernel_rfl) (by kernel_rfl) (by kernel_rfl) (by kernel_rfl) (by kernel_rfl) (fun _ _ _ h => h) (Or.inl ⟨by rfl, fun w' hSw => by (obtain ⟨⟨s0, s1, s2, s3, s4, s5, s6, s7, s8⟩, t0, t1, t2, t3, t4, t5, t6, t7, t8⟩ := hSw; go_simp)⟩) hS ?_
      try simp only [Act.put, List.setIfInBounds_toArray, List.set_cons_zero, List.set_cons_succ]
      refine anyG_take (i := 1) (v := .agg #[.int .i64 hiB.d, .int .i64 hiB.i, .int .i64 hiB.b, .int .i64 hiB.t, .int .i64 hiB.m, .int .i64 hiB.p, .int .i64 hiB.c, .int .i64 hiB.s, .int .i64 hiB.k]) rfl (by kernel_rfl) (by kernel_rfl) (by kernel_rfl) (by kernel_rfl) (by kernel_rfl) (fun _ _ _ h => h) (Or.inl ⟨by rfl, fun w' hSw => by (obtain ⟨⟨s0, s1, s2, s3, s4, s5, s6, s7, s8⟩, t0, t1, t2, t3, t4, t5, t6, t7, t8⟩ := hSw; go_simp)⟩) hS ?_
      try simp only [Act.put, List.setIfInBounds_toArray, List.set_cons_zero, List.set_cons_succ]
      refine anyG_step (rs := [2]) (by kernel_rfl) (by simp) ?_
      refine AllG.cons rfl (fun K hK => ?_) AllG.nil
      refine El.step_store fdRow rfl _ _ rfl n2 loB #[.int .i64 loB.d, .int .i64 loB.i, .int .i64 loB.b, .int .i64 loB.t, .int .i64 loB.m, .int .i64 loB.p, .int .i64 loB.c, .int .i64 loB.s, .int .i64 loB.k] rfl rfl rfl loB hP2 ?_
      replace hB := below_setRow hB hwn2 (fdE.c loB).toArray
      replace hQ2 := hQ2.rowN n2 (fdE.c loB).toArray hne'
      replace hP2 := hP2.set loB _ rfl
      refine hK.out _ _ ⟨fdIn9 hP2, fdIn9 hQ2⟩ ?_
      simp only [Act.put]
      clear hK hS
      refine anyG_step (rs := [3]) (by kernel_rfl) (by simp) ?_
      refine AllG.last (n := 3) rfl (fun K hK => ?_)
      refine El.step_store fdRow rfl _ _ rfl n3 hiB #[.int .i64 hiB.d, .int .i64 hiB.i, .int .i64 hiB.b, .int .i64 hiB.t, .int .i64 hiB.m, .int .i64 hiB.p, .int .i64 hiB.c, .int .i64 hiB.s, .int .i64 hiB.k] rfl rfl rfl hiB hQ2 ?_
      replace hB := below_setRow hB hwn3 (fdE.c hiB).toArray
      replace hP2 := hP2.rowN n3 (fdE.c hiB).toArray hne
      replace hQ2 := hQ2.set hiB _ rfl
      refine hK.out _ _ ?_
      clear hK
      refine anyG_done (by kernel_rfl) ?_ _
      go_wp2_with fail
      refine fd_ret2 hP2 hQ2 rfl rfl rfl rfl ?_
      exact ⟨rfl, hB⟩
end Go.Proofs.YtndahomgglpdhaaDoor
