/- Numbers as bytes: what is written is read, and what is read was written so. -/
namespace Go.Proofs.Ytfhonobaddkmhaa.Cod

/-- The bytes of u: seven bits each, the lowest first. -/
def enc (u : Nat) : List UInt8 := if u < 128 then [UInt8.ofNat u] else UInt8.ofNat (u % 128 + 128) :: enc (u / 128)
termination_by u
decreasing_by omega

theorem enc_small {u : Nat} (h : u < 128) : enc u = [UInt8.ofNat u] := by rw [enc, if_pos h]
theorem enc_big {u : Nat} (h : 128 ≤ u) : enc u = UInt8.ofNat (u % 128 + 128) :: enc (u / 128) := by rw [enc, if_neg (by omega)]

theorem enc_pos (u : Nat) : 1 ≤ (enc u).length := by
  by_cases h : u < 128
  · rw [enc_small h]; simp
  · rw [enc_big (by omega)]; simp

theorem enc_len (m : Nat) : ∀ u, u < 128 ^ (m + 1) → (enc u).length ≤ m + 1 := by
  induction m with
  | zero => intro u h; rw [enc_small (by simpa using h)]; simp
  | succ m ih =>
    intro u h
    by_cases hu : u < 128
    · rw [enc_small hu]; simp
    · rw [enc_big (by omega), List.length_cons]
      have := ih (u / 128) (by rw [Nat.pow_succ] at h; omega)
      omega

theorem enc_ten (u : Nat) (h : u < 18446744073709551616) : (enc u).length ≤ 10 := enc_len 9 u (by omega)

theorem enc_mono (a : Nat) : ∀ b, a ≤ b → (enc a).length ≤ (enc b).length := by
  induction a using Nat.strongRecOn with
  | _ a ih =>
    intro b h
    by_cases ha : a < 128
    · rw [enc_small ha]; exact enc_pos b
    · rw [enc_big (by omega), enc_big (u := b) (by omega), List.length_cons, List.length_cons]
      have := ih (a / 128) (by omega) (b / 128) (by omega)
      omega

/-- The number that a list begins with: k bytes of it came already, and are u. -/
def num : List UInt8 → Nat → Nat → Option (Nat × Nat)
  | [], _, _ => none
  | b :: t, k, u =>
    if k = 9 ∧ 1 < b.toNat then none
    else if 128 ≤ b.toNat then num t (k + 1) (u + 2 ^ (7 * k) * (b.toNat % 128))
    else if b.toNat = 0 ∧ 0 < k then none
    else some (u + 2 ^ (7 * k) * b.toNat, k + 1)

theorem two_split (k : Nat) (h : k ≤ 8) : 2 ^ (64 - 7 * k) = 128 * 2 ^ (64 - 7 * (k + 1)) := by
  rw [show 64 - 7 * k = (64 - 7 * (k + 1)) + 7 by omega, Nat.pow_add]
  omega

/-- What is read was written so. -/
theorem num_some : ∀ (l : List UInt8) (k u U K : Nat), k ≤ 9 → num l k u = some (U, K) →
    ∃ V m, U = u + 2 ^ (7 * k) * V ∧ K = k + m ∧ l.take m = enc V ∧ m = (enc V).length ∧ m ≤ l.length ∧ (0 < k → 0 < V) ∧ V < 2 ^ (64 - 7 * k)
  | [], k, u, U, K, _, h => by simp [num] at h
  | b :: t, k, u, U, K, hk, h => by
    have hb := b.toNat_lt
    rw [num] at h
    by_cases h9 : k = 9 ∧ 1 < b.toNat
    · rw [if_pos h9] at h; cases h
    · rw [if_neg h9] at h
      by_cases hm : 128 ≤ b.toNat
      · rw [if_pos hm] at h
        have hk8 : k ≤ 8 := by omega
        obtain ⟨V, m, e1, e2, e3, e4, e5, e6, e7⟩ := num_some t (k + 1) _ U K (by omega) h
        have hV := e6 (by omega)
        have hE : enc (b.toNat % 128 + 128 * V) = b :: enc V := by
          rw [enc_big (by omega), show (b.toNat % 128 + 128 * V) / 128 = V by omega, show (b.toNat % 128 + 128 * V) % 128 + 128 = b.toNat by omega, UInt8.ofNat_toNat]
        refine ⟨b.toNat % 128 + 128 * V, m + 1, ?_, by omega, ?_, ?_, ?_, fun _ => by omega, ?_⟩
        · rw [e1, show 7 * (k + 1) = 7 * k + 7 by omega, Nat.pow_add, Nat.mul_add, Nat.add_assoc, Nat.mul_assoc]
        · rw [List.take_succ_cons, e3, hE]
        · rw [hE, List.length_cons, ← e4]
        · rw [List.length_cons]; omega
        · have h2 := two_split k hk8
          omega
      · rw [if_neg hm] at h
        by_cases h0 : b.toNat = 0 ∧ 0 < k
        · rw [if_pos h0] at h; cases h
        · rw [if_neg h0] at h
          obtain ⟨rfl, rfl⟩ := Prod.mk.inj (Option.some.inj h)
          have hE : enc b.toNat = [b] := by rw [enc_small (by omega), UInt8.ofNat_toNat]
          refine ⟨b.toNat, 1, rfl, rfl, ?_, ?_, by simp, fun hk0 => by omega, ?_⟩
          · rw [hE]; rfl
          · rw [hE]; rfl
          · by_cases e9 : k = 9
            · subst e9; show b.toNat < 2 ^ 1; omega
            · have h2 := two_split k (by omega)
              have : 0 < 2 ^ (64 - 7 * (k + 1)) := Nat.two_pow_pos _
              omega

/-- What is written is read. -/
theorem num_enc (V : Nat) : ∀ (t : List UInt8) (k u : Nat), k ≤ 9 → (0 < k → 0 < V) → V < 2 ^ (64 - 7 * k) → num (enc V ++ t) k u = some (u + 2 ^ (7 * k) * V, k + (enc V).length) := by
  induction V using Nat.strongRecOn with
  | _ V ih =>
    intro t k u hk h0 hV
    by_cases h : V < 128
    · have hv : (UInt8.ofNat V).toNat = V := by rw [UInt8.toNat_ofNat']; omega
      rw [enc_small h, List.singleton_append, num, hv]
      rw [if_neg (by rintro ⟨rfl, h1⟩; have : V < 2 ^ 1 := hV; omega), if_neg (by omega), if_neg (by omega)]
      rfl
    · have hk8 : k ≤ 8 := by
        by_cases e : k = 9
        · subst e; have : V < 2 ^ 1 := hV; omega
        · omega
      have h2 := two_split k hk8
      have hv : (UInt8.ofNat (V % 128 + 128)).toNat = V % 128 + 128 := by rw [UInt8.toNat_ofNat']; omega
      rw [enc_big (by omega), List.cons_append, num, hv]
      rw [if_neg (by omega), if_pos (by omega), ih (V / 128) (by omega) t (k + 1) _ (by omega) (by omega) (by omega)]
      rw [show 7 * (k + 1) = 7 * k + 7 by omega, Nat.pow_add, Nat.mul_assoc, Nat.add_assoc, ← Nat.mul_add, List.length_cons]
      congr 2
      · rw [show (V % 128 + 128) % 128 + 2 ^ 7 * (V / 128) = V by omega]
      · omega

/-- A number's number, and back. -/
def fold (n : Int) : Nat := if n < 0 then (2 * (-1 - n) + 1).toNat else (2 * n).toNat
def unfold (u : Nat) : Int := if u % 2 = 1 then -1 - (u / 2 : Nat) else (u / 2 : Nat)
theorem unfold_fold (n : Int) : unfold (fold n) = n := by
  unfold fold unfold
  by_cases h : n < 0
  · rw [if_pos h, if_pos (by omega)]; omega
  · rw [if_neg h, if_neg (by omega)]; omega
theorem fold_unfold (u : Nat) : fold (unfold u) = u := by
  unfold fold unfold
  by_cases h : u % 2 = 1
  · rw [if_pos h, if_pos (by omega)]; omega
  · rw [if_neg h, if_neg (by omega)]; omega
theorem fold_lt (n : Int) (h1 : -9223372036854775808 ≤ n) (h2 : n ≤ 9223372036854775807) : fold n < 18446744073709551616 := by
  unfold fold; split <;> omega
theorem unfold_bd (u : Nat) (h : u < 18446744073709551616) : -9223372036854775808 ≤ unfold u ∧ unfold u ≤ 9223372036854775807 := by
  unfold unfold; split <;> omega
theorem fold_mono (a b : Int) (h : 0 ≤ a ∧ a ≤ b ∨ a < 0 ∧ b ≤ a) : fold a ≤ fold b := by
  unfold fold; split <;> split <;> omega

/-- The bytes of a number. -/
def bytesOf (n : Int) : ByteArray := ⟨(enc (fold n)).toArray⟩
theorem bytesOf_list (n : Int) : (bytesOf n).data.toList = enc (fold n) := rfl
theorem bytesOf_size (n : Int) : (bytesOf n).size = (enc (fold n)).length := rfl

/-- What is read of a list: the number, and how many bytes it has. -/
def rd (l : List UInt8) : Option (Int × Nat) := (num l 0 0).map fun p => (unfold p.1, p.2)
theorem rd_enc (n : Int) (h1 : -9223372036854775808 ≤ n) (h2 : n ≤ 9223372036854775807) (t : List UInt8) : rd (enc (fold n) ++ t) = some (n, (enc (fold n)).length) := by
  have hf := fold_lt n h1 h2
  unfold rd
  rw [num_enc (fold n) t 0 0 (by omega) (fun h => absurd h (by omega)) (by omega)]
  simp [unfold_fold]
theorem rd_some {l : List UInt8} {n : Int} {m : Nat} (h : rd l = some (n, m)) : l.take m = enc (fold n) ∧ m = (enc (fold n)).length ∧ 1 ≤ m ∧ m ≤ 10 ∧ m ≤ l.length ∧ -9223372036854775808 ≤ n ∧ n ≤ 9223372036854775807 := by
  unfold rd at h
  obtain ⟨⟨U, K⟩, h1, h2⟩ := Option.map_eq_some_iff.1 h
  obtain ⟨rfl, rfl⟩ := Prod.mk.inj h2
  obtain ⟨V, m, e1, e2, e3, e4, e5, _, e7⟩ := num_some l 0 0 U K (by omega) h1
  have hU : U = V := by omega
  have hK : K = m := by omega
  subst hU hK
  have hlt : U < 18446744073709551616 := by omega
  have := enc_ten U hlt
  have := enc_pos U
  have := unfold_bd U hlt
  rw [fold_unfold]
  exact ⟨e3, e4, by omega, by omega, e5, this⟩

end Go.Proofs.Ytfhonobaddkmhaa.Cod
