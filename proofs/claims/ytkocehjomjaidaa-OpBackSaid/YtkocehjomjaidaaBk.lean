/- Operations, one behind the other: what stands where. -/
import Derived.Test.YtkocehjomjaidaaOpn
namespace Go.Proofs.Ytkocehjomjaidaa
open Go.RowKit Nam Cod

instance : Inhabited Mv := ⟨zeroMv⟩
def Mv.ok (m : Mv) : Prop := opB m.C m.D m.I m.M m.K m.U m.s = true
def Mv.bytes (m : Mv) : ByteArray := printOf m.C m.D m.I m.M m.K m.U m.s
def catO (f : Nat → Mv) : Nat → ByteArray
  | 0 => ⟨#[]⟩
  | k + 1 => catO f k ++ (f k).bytes
def posO (f : Nat → Mv) (k : Nat) : Nat := (catO f k).size
def okO (f : Nat → Mv) (n : Nat) : Prop := ∀ j, j < n → (f j).ok
theorem okO_next {f : Nat → Mv} {k : Nat} (h : okO f k) (hk : (f k).ok) : okO f (k + 1) := by
  intro j hj
  by_cases e : j = k
  · subst e; exact hk
  · exact h j (by omega)
theorem bytes_le {m : Mv} (h : m.ok) : m.bytes.size ≤ 86 := by
  obtain ⟨⟨c, d, i, n, k, u⟩, _, hs, _⟩ := opB_wide h
  unfold Mv.bytes printOf textOf
  simp only [ByteArray.size_append]
  have z1 := bytesOf_le m.C c.1 c.2
  have z2 := bytesOf_le m.D d.1 d.2
  have z3 := bytesOf_le m.I i.1 i.2
  have z4 := bytesOf_le m.M n.1 n.2
  have z5 := bytesOf_le m.K k.1 k.2
  have z6 := bytesOf_le m.U u.1 u.2
  have z7 := bytesOf_le m.s.size (by omega) (by omega)
  omega
theorem catO_le (f : Nat → Mv) : ∀ k, okO f k → (catO f k).size ≤ 86 * k
  | 0, _ => by show (ByteArray.mk #[]).size ≤ _; exact Nat.zero_le _
  | k + 1, h => by
    have h1 := catO_le f k (fun j hj => h j (by omega))
    have h2 := bytes_le (h k (by omega))
    unfold catO; rw [ByteArray.size_append]; omega
theorem catO_rest (f : Nat → Mv) (k : Nat) : ∀ n, k ≤ n → ∃ R, catO f n = catO f k ++ R
  | 0, h => ⟨⟨#[]⟩, by obtain rfl : k = 0 := by omega
                       apply L_inj; rw [L_app]; simp [L, catO]⟩
  | n + 1, h => by
    by_cases e : k = n + 1
    · subst e; exact ⟨⟨#[]⟩, by apply L_inj; rw [L_app]; simp [L]⟩
    · obtain ⟨R, hR⟩ := catO_rest f k n (by omega)
      exact ⟨R ++ (f n).bytes, by rw [catO, hR, ByteArray.append_assoc]⟩
theorem catO_op (f : Nat → Mv) (k n : Nat) (h : k < n) (hf : okO f n) (Z : ByteArray) : isOp (catO f n ++ Z) (posO f k) false = some (f k, posO f (k + 1)) := by
  obtain ⟨R, hR⟩ := catO_rest f (k + 1) n h
  have hk := hf k h
  have t := op_there (catO f k) (R ++ Z) (f k).C (f k).D (f k).I (f k).M (f k).K (f k).U (f k).s hk
  have e : catO f n ++ Z = catO f k ++ (printOf (f k).C (f k).D (f k).I (f k).M (f k).K (f k).U (f k).s ++ (R ++ Z)) := by
    rw [hR, catO, ByteArray.append_assoc, ByteArray.append_assoc]; rfl
  rw [e]
  unfold posO
  rw [t]
  show _ = some (f k, (catO f k ++ (f k).bytes).size)
  rw [ByteArray.size_append]; rfl

/-- From the cell o of block b on an operation lies. -/
def AtOp (w : World) (b o : Nat) (m : Mv) : Prop :=
  w.cell? ⟨b, o, none⟩ = some (.int .i64 m.C) ∧ w.cell? ⟨b, o + 1, none⟩ = some (.int .i64 m.D) ∧ w.cell? ⟨b, o + 2, none⟩ = some (.int .i64 m.I) ∧ w.cell? ⟨b, o + 3, none⟩ = some (.int .i64 m.M) ∧ w.cell? ⟨b, o + 4, none⟩ = some (.int .i64 m.K) ∧ w.cell? ⟨b, o + 5, none⟩ = some (.int .i64 m.U) ∧ w.cell? ⟨b, o + 6, none⟩ = some (.string m.s)
theorem AtOp.below {W w : World} {b o : Nat} {m : Mv} (h : AtOp W b o m) (hb : Below W.heap.size W w) (hl : b < W.heap.size) : AtOp w b o m := by
  unfold AtOp at h ⊢
  rw [(bcell hb).1 _ _ hl, (bcell hb).1 _ _ hl, (bcell hb).1 _ _ hl, (bcell hb).1 _ _ hl, (bcell hb).1 _ _ hl, (bcell hb).1 _ _ hl, (bcell hb).1 _ _ hl]; exact h
/-- The slice A holds the operations f 0, f 1 .. -/
def Ops (w : World) (A : Option Addr) (len : Nat) (f : Nat → Mv) : Prop :=
  0 < len → ∃ b off, A = some ⟨b, off, none⟩ ∧ b < w.heap.size ∧ ∀ i, i < len → AtOp w b (off + i * 7) (f i)

theorem opRead_yes {w : World} {b p : Nat} {s : ByteArray} {bad : Bool} {o : Mv} {q : Nat} (hs : s.size ≤ 1000000) (hp : p ≤ s.size) (hr : Rd 39 w b s p bad) (h : isOp s p bad = some (o, q)) :
    Calls Try.prog 17 #[.pointer (some ⟨b, 0, none⟩)] w fun e w' => e = .returned (.agg #[.int .i64 o.C, .int .i64 o.D, .int .i64 o.I, .int .i64 o.M, .int .i64 o.K, .int .i64 o.U, .string o.s]) ∧ Rd 39 w' b s q false ∧ w.grownBy w' (some b) := by
  refine (opRead_uni hs hp hr).mono ?_
  rintro e w' ⟨o', q', bad', rfl, hr', hq, hg, st⟩
  rcases st with ⟨h', rfl⟩ | ⟨h', _⟩
  · rw [h] at h'; cases h'
    exact ⟨rfl, hr', hg⟩
  · rw [h] at h'; cases h'
end Go.Proofs.Ytkocehjomjaidaa
