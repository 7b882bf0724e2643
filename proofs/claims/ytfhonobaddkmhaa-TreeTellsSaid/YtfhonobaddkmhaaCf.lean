/- Num of both Readers, in two words: what comes, or that nothing comes. -/
import Derived.Test.YtfhonobaddkmhaaCe
namespace Go.Proofs.Ytfhonobaddkmhaa
open Go.RowKit Cod

def BadJ (b : Nat) (w : World) (l : Nat) (a : Act) (w' : World) : Prop := w = w' ∧ l = 0 ∧ AtWrong b a

/-- It went wrong already, or nothing comes: the zero value. -/
def No (T : TypeId) (b : Nat) (s : ByteArray) (w : World) (z : Value) (e : Ending) (w' : World) : Prop :=
  e = .returned z ∧ (∃ q, q ≤ s.size ∧ Rd T w' b s q true) ∧ w.grownBy w' (some b)
/-- What comes, and from where on to read. -/
def Yes (T : TypeId) (b : Nat) (s : ByteArray) (w : World) (v : Value) (q : Nat) (e : Ending) (w' : World) : Prop :=
  e = .returned v ∧ Rd T w' b s q false ∧ w.grownBy w' (some b)

set_option maxRecDepth 100000 in
set_option maxHeartbeats 4000000 in
theorem rnum_bad (b : Nat) (s : ByteArray) (p : Nat) (w : World) (hp : p ≤ s.size) (hr : Rd 39 w b s p true) :
    Calls Try.prog 49 #[.pointer (some ⟨b, 0, none⟩)] w (No 39 b s w (.int .i64 0)) := by
  obtain ⟨hc0, hc1, hc2⟩ := hr.cells
  have hf2 := hr.frozen 2
  have HR := Lib.hid hr
  clear hr
  go_enter Try.func49, Try.ntmps49
  go_wp2
  refine wp_scope_labels (BadJ b w) (fun _ _ _ => 0) ?_ ?_
  · go_wp2
    go_step3
    show BadJ b w 0 _ _
    exact ⟨rfl, rfl, ⟨_, _, _, ⟨_, _, _, _, _, _, _, _, _, _, _, _, _, _, _, _, _, _, _, _, _, _, _, _, _, _, _, _, _, _, _, _, _, _, _, _, _, _, _, _, _, _, _, _, _, _, _, _, _, _, _, _, _, _, _, _, _, _, _, _, rfl⟩⟩⟩
  · rintro l a w' ⟨rfl, rfl, hA⟩
    refine ⟨_, rfl, ?_⟩
    obtain ⟨u, mv, q, x5, x7, x8, x9, x10, x11, x12, x13, x14, x15, x16, x17, x18, x19, x20, x21, x22, x23, x24, x25, x26, x27, x28, x29, x30, x31, x32, x33, x34, x35, x36, x37, x38, x39, x40, x41, x42, x43, x44, x45, x46, x47, x48, x49, x50, x51, x52, x53, x54, x55, x56, x57, x58, x59, x60, x61, x62, x63, x64, x65, rfl⟩ := hA
    go_wp2
    rw [jumps_ret]
    go_ret
    exact ⟨rfl, ⟨p, hp, HR.out.setBad⟩, by_set (by_refl _ _) _ _⟩

set_option maxRecDepth 100000 in
set_option maxHeartbeats 4000000 in
theorem refRnum_bad (b : Nat) (s : ByteArray) (p : Nat) (w : World) (hp : p ≤ s.size) (hr : Rd 66 w b s p true) :
    Calls Try.prog 52 #[.pointer (some ⟨b, 0, none⟩)] w (No 66 b s w (.int .i64 0)) := by
  obtain ⟨hc0, hc1, hc2⟩ := hr.cells
  have hf2 := hr.frozen 2
  have HR := Lib.hid hr
  clear hr
  go_enter Try.func52, Try.ntmps52
  go_wp2
  go_loopw [3, 4] (fun u i wr => u = .int .u64 0 ∧ i = .int .i64 0 ∧ w = wr) (fun _ _ _ => 0)
  case atStart => exact ⟨rfl, rfl, rfl⟩
  case round =>
    obtain ⟨rfl, rfl, rfl⟩ := hrel
    go_wp2
    go_ret
    exact ⟨rfl, ⟨p, hp, HR.out.setBad⟩, by_set (by_refl _ _) _ _⟩

theorem list_len (s : ByteArray) (p : Nat) : (s.data.toList.drop p).length = s.size - p := by simp

section
variable {T : TypeId} {b : Nat} {s : ByteArray} {p : Nat} {w : World} {bad : Bool}
theorem post_yes {e : Ending} {w' : World} {n : Int} {m : Nat} (h : rd (s.data.toList.drop p) = some (n, m)) (k : NumPost T b s p w e w') : Yes T b s w (.int .i64 n) (p + m) e w' := by
  rcases k with ⟨n', m', h1, he, hr, hb⟩ | ⟨h1, _⟩
  · rw [h] at h1
    obtain ⟨rfl, rfl⟩ := Prod.mk.inj (Option.some.inj h1)
    exact ⟨he, hr, hb⟩
  · rw [h] at h1; cases h1
theorem post_no {e : Ending} {w' : World} (h : rd (s.data.toList.drop p) = none) (k : NumPost T b s p w e w') : No T b s w (.int .i64 0) e w' := by
  rcases k with ⟨n', m', h1, _⟩ | ⟨_, he, hr, hb⟩
  · rw [h] at h1; cases h1
  · exact ⟨he, hr, hb⟩

/-- The number that stands at p, and what stands behind it. -/
def isNum (s : ByteArray) (p : Nat) (bad : Bool) : Option (Int × Nat) := if bad then none else (rd (s.data.toList.drop p)).map fun x => (x.1, p + x.2)
theorem isNum_some {n : Int} {q : Nat} (h : isNum s p bad = some (n, q)) : bad = false ∧ (∃ m, rd (s.data.toList.drop p) = some (n, m) ∧ q = p + m) ∧ q ≤ s.size ∧ p < q ∧ -9223372036854775808 ≤ n ∧ n ≤ 9223372036854775807 := by
  unfold isNum at h
  cases bad
  · obtain ⟨⟨n', m⟩, h1, h2⟩ := Option.map_eq_some_iff.1 h
    obtain ⟨rfl, rfl⟩ := Prod.mk.inj h2
    obtain ⟨_, _, k1, _, k2, k3, k4⟩ := rd_some h1
    rw [list_len] at k2
    exact ⟨rfl, ⟨m, h1, rfl⟩, by show p + m ≤ _; omega, by show p < p + m; omega, k3, k4⟩
  · cases h
theorem isNum_none (h : isNum s p bad = none) : bad = true ∨ bad = false ∧ rd (s.data.toList.drop p) = none := by
  unfold isNum at h
  cases bad
  · exact Or.inr ⟨rfl, by simpa using h⟩
  · exact Or.inl rfl

theorem rnum_yes {n : Int} {q : Nat} (hs : s.size ≤ 1000000) (hp : p ≤ s.size) (hr : Rd 39 w b s p bad) (h : isNum s p bad = some (n, q)) :
    Calls Try.prog 49 #[.pointer (some ⟨b, 0, none⟩)] w (Yes 39 b s w (.int .i64 n) q) := by
  obtain ⟨rfl, ⟨m, h1, rfl⟩, _⟩ := isNum_some h
  exact (rnum_any b s p w hs hp hr).mono fun _ _ k => post_yes h1 k
theorem rnum_no (hs : s.size ≤ 1000000) (hp : p ≤ s.size) (hr : Rd 39 w b s p bad) (h : isNum s p bad = none) :
    Calls Try.prog 49 #[.pointer (some ⟨b, 0, none⟩)] w (No 39 b s w (.int .i64 0)) := by
  rcases isNum_none h with rfl | ⟨rfl, h1⟩
  · exact rnum_bad b s p w hp hr
  · exact (rnum_any b s p w hs hp hr).mono fun _ _ k => post_no h1 k
theorem refRnum_yes {n : Int} {q : Nat} (hs : s.size ≤ 1000000) (hp : p ≤ s.size) (hr : Rd 66 w b s p bad) (h : isNum s p bad = some (n, q)) :
    Calls Try.prog 52 #[.pointer (some ⟨b, 0, none⟩)] w (Yes 66 b s w (.int .i64 n) q) := by
  obtain ⟨rfl, ⟨m, h1, rfl⟩, _⟩ := isNum_some h
  exact (refRnum_any b s p w hs hp hr).mono fun _ _ k => post_yes h1 k
theorem refRnum_no (hs : s.size ≤ 1000000) (hp : p ≤ s.size) (hr : Rd 66 w b s p bad) (h : isNum s p bad = none) :
    Calls Try.prog 52 #[.pointer (some ⟨b, 0, none⟩)] w (No 66 b s w (.int .i64 0)) := by
  rcases isNum_none h with rfl | ⟨rfl, h1⟩
  · exact refRnum_bad b s p w hp hr
  · exact (refRnum_any b s p w hs hp hr).mono fun _ _ k => post_no h1 k
end

end Go.Proofs.Ytfhonobaddkmhaa
