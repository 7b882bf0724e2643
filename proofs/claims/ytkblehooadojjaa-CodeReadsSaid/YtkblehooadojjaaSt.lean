/- Where a reader stands, of no account once it went wrong; what each call does to that, for both Readers alike. -/
import Derived.Test.YtkblehooadojjaaOpn
namespace Go.Proofs.Ytkblehooadojjaa
open Go.RowKit Cod

def St (T : TypeId) (w : World) (b : Nat) (s : ByteArray) (p : Nat) (bad : Bool) : Prop := ∃ q, q ≤ s.size ∧ Rd T w b s q bad ∧ (bad = false → q = p)
def Res (T : TypeId) (b : Nat) (s : ByteArray) (p : Nat) (bad : Bool) (v : Value) (w : World) (e : Ending) (w' : World) : Prop :=
  e = .returned v ∧ St T w' b s p bad ∧ w.grownBy w' (some b)

section
variable {T : TypeId} {w w' : World} {b : Nat} {s : ByteArray} {p : Nat} {bad : Bool} {v : Value}
theorem St.keep {row : Option Nat} (h : St T w b s p bad) (hg : w.grownBy w' row) (hne : some b ≠ row) : St T w' b s p bad := by
  obtain ⟨q, h1, h2, h3⟩ := h
  exact ⟨q, h1, h2.keep hg hne, h3⟩
theorem St.drewN (h : St T w b s p bad) (n : Nat) : St T (w.drewN n) b s p bad := h
theorem St.drew (h : St T w b s p bad) : St T w.drew b s p bad := h
theorem St.good (h : St T w b s p false) : Rd T w b s p false := by
  obtain ⟨q, _, h2, h3⟩ := h
  rw [h3 rfl] at h2; exact h2
theorem St.ill (h : St T w b s p true) : ∃ q, Rd T w b s q true := by
  obtain ⟨q, _, h2, _⟩ := h
  exact ⟨q, h2⟩
theorem St.of (h : Rd T w b s p bad) (hp : p ≤ s.size) : St T w b s p bad := ⟨p, hp, h, fun _ => rfl⟩

theorem res_yes {e : Ending} {q : Nat} (hq : q ≤ s.size) (h : Yes T b s w v q e w') : Res T b s q false v w e w' := ⟨h.1, St.of h.2.1 hq, h.2.2⟩
theorem res_no {e : Ending} {r : Nat} (h : No T b s w v e w') : Res T b s r true v w e w' := by
  obtain ⟨h1, ⟨q, hq, h2⟩, h3⟩ := h
  exact ⟨h1, ⟨q, hq, h2, fun h => by cases h⟩, h3⟩

theorem isNum_any (h : bad = false → p = p) (q : Nat) (hq : bad = false → q = p) : isNum s q bad = isNum s p bad := by
  cases bad
  · rw [hq rfl]
  · rfl
theorem isCount_any (m : Int) (q : Nat) (hq : bad = false → q = p) : isCount s q bad m = isCount s p bad m := by
  cases bad
  · rw [hq rfl]
  · rfl
theorem isText_any (m : Int) (q : Nat) (hq : bad = false → q = p) : isText s q bad m = isText s p bad m := by
  cases bad
  · rw [hq rfl]
  · rfl
theorem isBool_any (q : Nat) (hq : bad = false → q = p) : isBool s q bad = isBool s p bad := by
  cases bad
  · rw [hq rfl]
  · rfl
theorem isDone_any (q : Nat) (hq : bad = false → q = p) : isDone s q bad = isDone s p bad := by
  cases bad
  · rw [hq rfl]
  · rfl
end

/-- What a call gives of both. -/
def Alike (f g : FuncId) (args : Value → Array Value) (s : ByteArray) (p : Nat) (bad : Bool) (v : Value) (p' : Nat) (bad' : Bool) : Prop :=
  (∀ (w : World) (b : Nat), St 31 w b s p bad → Calls Try.prog f (args (.pointer (some ⟨b, 0, none⟩))) w (Res 31 b s p' bad' v w)) ∧
  (∀ (w : World) (b : Nat), St 33 w b s p bad → Calls Try.prog g (args (.pointer (some ⟨b, 0, none⟩))) w (Res 33 b s p' bad' v w))

section
variable {s : ByteArray} {p : Nat} {bad : Bool}
theorem num_alike (hs : s.size ≤ 1000000) (p : Nat) (bad : Bool) : ∃ (v : Int) (p' : Nat) (bad' : Bool), Alike 17 18 (fun r => #[r]) s p bad (.int .i64 v) p' bad' := by
  rcases h : isNum s p bad with _ | ⟨n, q⟩
  · exact ⟨0, 0, true, fun w b ⟨q, hq, hr, he⟩ => (rnum_no hs hq hr (by rw [isNum_any (fun h => rfl) q he]; exact h)).mono fun _ _ k => res_no k,
      fun w b ⟨q, hq, hr, he⟩ => (refRnum_no hs hq hr (by rw [isNum_any (fun h => rfl) q he]; exact h)).mono fun _ _ k => res_no k⟩
  · have hqs := (isNum_some h).2.2.1
    exact ⟨n, q, false, fun w b ⟨r, hq, hr, he⟩ => (rnum_yes hs hq hr (by rw [isNum_any (fun h => rfl) r he]; exact h)).mono fun _ _ k => res_yes hqs k,
      fun w b ⟨r, hq, hr, he⟩ => (refRnum_yes hs hq hr (by rw [isNum_any (fun h => rfl) r he]; exact h)).mono fun _ _ k => res_yes hqs k⟩
theorem count_alike (hs : s.size ≤ 1000000) (p : Nat) (bad : Bool) (m : Int) : ∃ (v : Int) (p' : Nat) (bad' : Bool), Alike 23 24 (fun r => #[r, .int .i64 m]) s p bad (.int .i64 v) p' bad' := by
  rcases h : isCount s p bad m with _ | ⟨n, q⟩
  · exact ⟨0, 0, true, fun w b ⟨q, hq, hr, he⟩ => (count_no hs hq hr (by rw [isCount_any m q he]; exact h)).mono fun _ _ k => res_no k,
      fun w b ⟨q, hq, hr, he⟩ => (refCount_no hs hq hr (by rw [isCount_any m q he]; exact h)).mono fun _ _ k => res_no k⟩
  · have hqs := (isNum_some (isCount_some h).1).2.2.1
    exact ⟨n, q, false, fun w b ⟨r, hq, hr, he⟩ => (count_yes hs hq hr (by rw [isCount_any m r he]; exact h)).mono fun _ _ k => res_yes hqs k,
      fun w b ⟨r, hq, hr, he⟩ => (refCount_yes hs hq hr (by rw [isCount_any m r he]; exact h)).mono fun _ _ k => res_yes hqs k⟩
theorem text_alike (hs : s.size ≤ 1000000) (p : Nat) (bad : Bool) (m : Int) : ∃ (v : ByteArray) (p' : Nat) (bad' : Bool), Alike 19 20 (fun r => #[r, .int .i64 m]) s p bad (.string v) p' bad' := by
  rcases h : isText s p bad m with _ | ⟨n, q⟩
  · exact ⟨⟨#[]⟩, 0, true, fun w b ⟨q, hq, hr, he⟩ => (rtext_no hs hq hr (by rw [isText_any m q he]; exact h)).mono fun _ _ k => res_no k,
      fun w b ⟨q, hq, hr, he⟩ => (refRtext_no hs hq hr (by rw [isText_any m q he]; exact h)).mono fun _ _ k => res_no k⟩
  · have hqs : q ≤ s.size := by
      obtain ⟨n', q', _, h2, _, rfl⟩ := isText_some h
      omega
    exact ⟨n, q, false, fun w b ⟨r, hq, hr, he⟩ => (rtext_yes hs hq hr (by rw [isText_any m r he]; exact h)).mono fun _ _ k => res_yes hqs k,
      fun w b ⟨r, hq, hr, he⟩ => (refRtext_yes hs hq hr (by rw [isText_any m r he]; exact h)).mono fun _ _ k => res_yes hqs k⟩
theorem bool_alike (hs : s.size ≤ 1000000) (p : Nat) (bad : Bool) : ∃ (v : Bool) (p' : Nat) (bad' : Bool), Alike 21 22 (fun r => #[r]) s p bad (.bool v) p' bad' := by
  rcases h : isBool s p bad with _ | ⟨n, q⟩
  · exact ⟨false, 0, true, fun w b ⟨q, hq, hr, he⟩ => (bool_no hs hq hr (by rw [isBool_any q he]; exact h)).mono fun _ _ k => res_no k,
      fun w b ⟨q, hq, hr, he⟩ => (refBool_no hs hq hr (by rw [isBool_any q he]; exact h)).mono fun _ _ k => res_no k⟩
  · have hqs : q ≤ s.size := by
      obtain ⟨n', h1, _⟩ := isBool_some h
      exact (isNum_some (isCount_some h1).1).2.2.1
    exact ⟨n, q, false, fun w b ⟨r, hq, hr, he⟩ => (bool_yes hs hq hr (by rw [isBool_any r he]; exact h)).mono fun _ _ k => res_yes hqs k,
      fun w b ⟨r, hq, hr, he⟩ => (refBool_yes hs hq hr (by rw [isBool_any r he]; exact h)).mono fun _ _ k => res_yes hqs k⟩

theorem done_st {w : World} {b : Nat} (h : St 31 w b s p bad) : Calls Try.prog 25 #[.pointer (some ⟨b, 0, none⟩)] w fun e w' => e = .returned (.bool (isDone s p bad)) ∧ ∃ n, w' = w.drewN n := by
  obtain ⟨q, hq, hr, he⟩ := h
  rw [← isDone_any q he]; exact done_any hq hr
theorem refDone_st {w : World} {b : Nat} (h : St 33 w b s p bad) : Calls Try.prog 26 #[.pointer (some ⟨b, 0, none⟩)] w fun e w' => e = .returned (.bool (isDone s p bad)) ∧ ∃ n, w' = w.drewN n := by
  obtain ⟨q, hq, hr, he⟩ := h
  rw [← isDone_any q he]; exact refDone_any hr
end

end Go.Proofs.Ytkblehooadojjaa
