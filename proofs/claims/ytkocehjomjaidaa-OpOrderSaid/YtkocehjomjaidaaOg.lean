/- An operation's bytes are read as it was; what is read has just these bytes; the document's examples hold. -/
import Derived.Test.YtkocehjomjaidaaOc
import Derived.Test.YtkocehjomjaidaaOf
import Derived.Test.YtkocehjomjaidaaCk
namespace Go.Proofs.Ytkocehjomjaidaa
open Go.RowKit Nam Cod

theorem opB_wide {C D I M K U : Int} {s : ByteArray} (h : opB C D I M K U s = true) : Wide C D I M K U ∧ 1 ≤ C ∧ s.size ≤ 16 ∧ 1 ≤ s.size := by
  unfold opB atB cntB mvB at h
  simp only [Bool.and_eq_true, decide_eq_true_iff] at h
  have hl := isName_len h.2.2.2.2
  rw [L_len] at hl
  exact ⟨⟨⟨by omega, by omega⟩, ⟨by omega, by omega⟩, ⟨by omega, by omega⟩, ⟨by omega, by omega⟩, ⟨by omega, by omega⟩, ⟨by omega, by omega⟩⟩, by omega, by omega, by omega⟩

theorem num_at (X A Z : ByteArray) (n : Int) (p : Nat) (hX : X = A ++ (bytesOf n ++ Z)) (hp : p = A.size) (h : i64 n) : isNum X p false = some (n, p + (bytesOf n).size) := by
  subst hX hp; exact num_there A Z n h.1 h.2

theorem op_there (A Z : ByteArray) (C D I M K U : Int) (s : ByteArray) (h : opB C D I M K U s = true) :
    isOp (A ++ (printOf C D I M K U s ++ Z)) A.size false = some (⟨C, D, I, M, K, U, s⟩, A.size + (printOf C D I M K U s).size) := by
  obtain ⟨⟨c, d, i, m, k, u⟩, _, hs, _⟩ := opB_wide h
  unfold printOf
  have assoc : ∀ x y z : ByteArray, x ++ y ++ z = x ++ (y ++ z) := fun x y z => ByteArray.append_assoc
  have h1 := num_at (A ++ (bytesOf C ++ bytesOf D ++ bytesOf I ++ bytesOf M ++ bytesOf K ++ bytesOf U ++ textOf s ++ Z)) A (bytesOf D ++ bytesOf I ++ bytesOf M ++ bytesOf K ++ bytesOf U ++ textOf s ++ Z) C A.size (by simp only [assoc]) rfl c
  have h2 := num_at (A ++ (bytesOf C ++ bytesOf D ++ bytesOf I ++ bytesOf M ++ bytesOf K ++ bytesOf U ++ textOf s ++ Z)) (A ++ bytesOf C) (bytesOf I ++ bytesOf M ++ bytesOf K ++ bytesOf U ++ textOf s ++ Z) D (A.size + (bytesOf C).size) (by simp only [assoc]) (by rw [ByteArray.size_append]) d
  have h3 := num_at (A ++ (bytesOf C ++ bytesOf D ++ bytesOf I ++ bytesOf M ++ bytesOf K ++ bytesOf U ++ textOf s ++ Z)) (A ++ bytesOf C ++ bytesOf D) (bytesOf M ++ bytesOf K ++ bytesOf U ++ textOf s ++ Z) I (A.size + (bytesOf C).size + (bytesOf D).size) (by simp only [assoc]) (by simp only [ByteArray.size_append]) i
  have h4 := num_at (A ++ (bytesOf C ++ bytesOf D ++ bytesOf I ++ bytesOf M ++ bytesOf K ++ bytesOf U ++ textOf s ++ Z)) (A ++ bytesOf C ++ bytesOf D ++ bytesOf I) (bytesOf K ++ bytesOf U ++ textOf s ++ Z) M (A.size + (bytesOf C).size + (bytesOf D).size + (bytesOf I).size) (by simp only [assoc]) (by simp only [ByteArray.size_append]) m
  have h5 := num_at (A ++ (bytesOf C ++ bytesOf D ++ bytesOf I ++ bytesOf M ++ bytesOf K ++ bytesOf U ++ textOf s ++ Z)) (A ++ bytesOf C ++ bytesOf D ++ bytesOf I ++ bytesOf M) (bytesOf U ++ textOf s ++ Z) K (A.size + (bytesOf C).size + (bytesOf D).size + (bytesOf I).size + (bytesOf M).size) (by simp only [assoc]) (by simp only [ByteArray.size_append]) k
  have h6 := num_at (A ++ (bytesOf C ++ bytesOf D ++ bytesOf I ++ bytesOf M ++ bytesOf K ++ bytesOf U ++ textOf s ++ Z)) (A ++ bytesOf C ++ bytesOf D ++ bytesOf I ++ bytesOf M ++ bytesOf K) (textOf s ++ Z) U (A.size + (bytesOf C).size + (bytesOf D).size + (bytesOf I).size + (bytesOf M).size + (bytesOf K).size) (by simp only [assoc]) (by simp only [ByteArray.size_append]) u
  have h7 := text_there (A ++ bytesOf C ++ bytesOf D ++ bytesOf I ++ bytesOf M ++ bytesOf K ++ bytesOf U) s Z 16 (by omega) (by omega)
  rw [show A ++ bytesOf C ++ bytesOf D ++ bytesOf I ++ bytesOf M ++ bytesOf K ++ bytesOf U ++ (textOf s ++ Z) = A ++ (bytesOf C ++ bytesOf D ++ bytesOf I ++ bytesOf M ++ bytesOf K ++ bytesOf U ++ textOf s ++ Z) by simp only [assoc],
    show (A ++ bytesOf C ++ bytesOf D ++ bytesOf I ++ bytesOf M ++ bytesOf K ++ bytesOf U).size = A.size + (bytesOf C).size + (bytesOf D).size + (bytesOf I).size + (bytesOf M).size + (bytesOf K).size + (bytesOf U).size by simp only [ByteArray.size_append]] at h7
  unfold isOp
  simp only [h1, h2, h3, h4, h5, h6, h7, Option.bind_some, h, if_true]
  simp only [ByteArray.size_append, Nat.add_assoc]

theorem num_bytes {s : ByteArray} {p : Nat} {bad : Bool} {n : Int} {q : Nat} (h : isNum s p bad = some (n, q)) : (L s).drop p = L (bytesOf n) ++ (L s).drop q := by
  obtain ⟨_, ⟨m, hr, rfl⟩, _⟩ := isNum_some h
  have h1 := (rd_some hr).1
  show s.data.toList.drop p = enc (fold n) ++ s.data.toList.drop (p + m)
  rw [← h1, ← List.drop_drop, List.take_append_drop]
theorem text_bytes {s : ByteArray} {p : Nat} {bad : Bool} {m : Int} {t : ByteArray} {q : Nat} (h : isText s p bad m = some (t, q)) : (L s).drop p = L (textOf t) ++ (L s).drop q := by
  obtain ⟨n, q0, h1, h2, rfl, rfl⟩ := isText_some h
  have hz : (s.extract q0 (q0 + n)).size = n := by rw [ByteArray.size_extract]; omega
  unfold textOf
  rw [num_bytes (isCount_some h1).1, L_app, hz, List.append_assoc]
  congr 1
  have e : L (s.extract q0 (q0 + n)) = ((L s).drop q0).take n := by
    unfold L
    simp [ByteArray.data_extract, List.extract_eq_take_drop]
  rw [e, ← List.drop_drop, List.take_append_drop]
theorem op_bytes {s : ByteArray} {p : Nat} {bad : Bool} {o : Mv} {q : Nat} (h : isOp s p bad = some (o, q)) : opB o.C o.D o.I o.M o.K o.U o.s = true ∧ (L s).drop p = L (printOf o.C o.D o.I o.M o.K o.U o.s) ++ (L s).drop q := by
  unfold isOp at h
  simp only [Option.bind_eq_some_iff] at h
  obtain ⟨⟨a1, p1⟩, h1, ⟨a2, p2⟩, h2, ⟨a3, p3⟩, h3, ⟨a4, p4⟩, h4, ⟨a5, p5⟩, h5, ⟨a6, p6⟩, h6, ⟨a7, p7⟩, h7, h8⟩ := h
  simp only at h1 h2 h3 h4 h5 h6 h7 h8
  by_cases hb : opB a1 a2 a3 a4 a5 a6 a7 = true
  · rw [if_pos hb] at h8
    cases h8
    refine ⟨hb, ?_⟩
    unfold printOf
    simp only [L_app, List.append_assoc]
    rw [num_bytes h1, num_bytes h2, num_bytes h3, num_bytes h4, num_bytes h5, num_bytes h6, text_bytes h7]
  · rw [if_neg hb] at h8; cases h8
theorem parse_bytes {s : ByteArray} {o : Mv} (h : parseOf s = some o) : opB o.C o.D o.I o.M o.K o.U o.s = true ∧ printOf o.C o.D o.I o.M o.K o.U o.s = s := by
  unfold parseOf at h
  simp only [Option.bind_eq_some_iff] at h
  obtain ⟨⟨o', q⟩, h1, h2⟩ := h
  simp only at h2
  by_cases hq : q = s.size
  · rw [if_pos hq] at h2
    cases h2
    obtain ⟨hb, hl⟩ := op_bytes h1
    refine ⟨hb, L_inj ?_⟩
    rw [hq, List.drop_zero, List.drop_eq_nil_of_le (by rw [L_len]; exact Nat.le_refl _), List.append_nil] at hl
    exact hl.symm
  · rw [if_neg hq] at h2; cases h2
theorem op_self {C D I M K U : Int} {s : ByteArray} (h : opB C D I M K U s = true) : isOp (printOf C D I M K U s) 0 false = some (⟨C, D, I, M, K, U, s⟩, (printOf C D I M K U s).size) := by
  have := op_there ⟨#[]⟩ ⟨#[]⟩ C D I M K U s h
  have e : (⟨#[]⟩ : ByteArray) ++ (printOf C D I M K U s ++ ⟨#[]⟩) = printOf C D I M K U s := by apply L_inj; rw [L_app, L_app]; simp [L]
  rw [e, show (ByteArray.mk #[]).size = 0 from rfl, Nat.zero_add] at this
  exact this
theorem parse_self {C D I M K U : Int} {s : ByteArray} (h : opB C D I M K U s = true) : parseOf (printOf C D I M K U s) = some ⟨C, D, I, M, K, U, s⟩ := by
  unfold parseOf; rw [op_self h]; simp
theorem print_inj {C D I M K U C' D' I' M' K' U' : Int} {s s' : ByteArray} (h : opB C D I M K U s = true) (h' : opB C' D' I' M' K' U' s' = true) (e : printOf C D I M K U s = printOf C' D' I' M' K' U' s') :
    C = C' ∧ D = D' ∧ I = I' ∧ M = M' ∧ K = K' ∧ U = U' ∧ s = s' := by
  have a := parse_self h
  rw [e, parse_self h'] at a
  cases a
  exact ⟨rfl, rfl, rfl, rfl, rfl, rfl, rfl⟩

theorem right_ex : opB 3 1 1 2 5 0 ⟨#[97]⟩ = true := by decide +kernel
theorem enc_6 : enc 6 = [6] := by rw [enc_small (by decide)]; rfl
theorem enc_2 : enc 2 = [2] := by rw [enc_small (by decide)]; rfl
theorem enc_4 : enc 4 = [4] := by rw [enc_small (by decide)]; rfl
theorem enc_10 : enc 10 = [10] := by rw [enc_small (by decide)]; rfl
theorem enc_0 : enc 0 = [0] := by rw [enc_small (by decide)]; rfl
theorem print_ex : printOf 3 1 1 2 5 0 ⟨#[97]⟩ = ⟨#[6, 2, 2, 4, 10, 0, 2, 97]⟩ := by
  apply L_inj
  unfold printOf textOf
  simp only [L_app]
  have l3 : L (bytesOf 3) = [6] := enc_6
  have l1 : L (bytesOf 1) = [2] := enc_2
  have l2 : L (bytesOf 2) = [4] := enc_4
  have l5 : L (bytesOf 5) = [10] := enc_10
  have l0 : L (bytesOf 0) = [0] := enc_0
  have lz : L (bytesOf ((ByteArray.mk #[97]).size : Int)) = [2] := enc_2
  rw [l3, l1, l2, l5, l0, lz]; rfl
theorem parse_ex : parseOf ⟨#[6, 2, 2, 4, 10, 0, 2, 97]⟩ = some ⟨3, 1, 1, 2, 5, 0, ⟨#[97]⟩⟩ := by rw [← print_ex]; exact parse_self right_ex
end Go.Proofs.Ytkocehjomjaidaa
