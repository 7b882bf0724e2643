/- CodeReads is proved: whatever is read of any bytes (2,000 at most), one by one (200 at most), is the document's, and whether it goes wrong, and whether all is read. Conditions: none. -/
import Derived.Test.YtkblehooadojjaaReads
namespace Go.Proofs.Ytkblehooadojjaa
open Go.ChangeShapes Go.WideShapes Go.ChangeAt Go.RowKit Go.Deep

theorem cells35 : Try.prog.cellsOf 35 = 2 := by kernel_rfl
theorem cells3' : Try.prog.cellsOf 3 = 1 := by kernel_rfl

set_option maxRecDepth 100000 in
theorem reads_lifted (os : Os) (started : os.Started) (H : Type) (enc : TypeId × Value → H) :
    ReturnsInHanded {} Try.checked os 4 .any (Rows.codeReadsSpec.pre6 enc Try.prog Try.f4 Rows.codeReadsRow.domain false) (Rows.codeReadsSpec.post enc Try.prog Try.f4 false true false false) := by
  refine returnsInHanded_of_change (C := Try.checked) own started (by kernel_rfl) Try.func4
    (ChangeSpec.witness6 (enc := enc) (C := Try.checked) false ⟨#[], #[.string ⟨#[]⟩, .slice none 0 0], []⟩ 8 (by kernel_rfl) (by kernel_rfl) (by kernel_rfl) (by kernel_rfl)) ?_
  intro W base args ds gs before hval0 hW _ _
  have hval : ∀ (j : Nat) t v, Try.f4.params[j]? = some t → args[j]? = some v → Value.okWide Try.prog W .any base t v := hval0
  have hW' := hW
  obtain ⟨p, q, hA0, hV, rfl, _, _⟩ := hW
  have hA : DataW.TrodAll enc Try.prog W 0 (fun _ => true) true Try.f4.params.toList args.toList ds p := hA0
  rw [Try.params4] at hA hval
  obtain ⟨v0, v1, d0, d1, p0, p1, rfl, rfl, rfl, h0, h1⟩ := trodAll_two hA
  obtain ⟨s, rfl, hs⟩ := open_str (hval 0 9 v0 rfl rfl) h0
  obtain ⟨a0, len, cap, rfl, _⟩ := okWide_slice Try.underlying28 (hval 1 28 v1 rfl rfl)
  have hc : Calls Try.prog 4 #[.string s, .slice a0 len cap] W fun e w' => e = .returned (.bool true) ∧ Below W.heap.size W w' := by
    by_cases hbig : 2000 < s.size
    · exact reads_long s a0 len cap W hbig
    · obtain ⟨fuel, hf⟩ := h1
      rcases open_slice_pairs Try.underlying28 Try.underlying35 cells35 rfl rfl cells3' cells3' hf with ⟨hcs, hx⟩ | ⟨a, len', cap', m, n, V0, V1, D0, D1, P0, P1, hcs, _, hle, hm, hmm, hx, hi⟩
      · simp [Value.cells] at hcs
        obtain ⟨rfl, rfl, rfl⟩ := hcs
        exact reads_walk s none 0 0 (fun _ => 0) (fun _ => 0) W (by omega) (Nat.zero_le _) (fun h => by omega)
      · simp [Value.cells] at hcs
        obtain ⟨rfl, rfl, rfl⟩ := hcs
        simp only [if_true] at hmm
        have hv : ∀ i, i < m → ∃ K M : Int, V0 i = .int .i64 K ∧ V1 i = .int .i64 M := by
          intro i him
          obtain ⟨_, _, t0, t1⟩ := hi i him
          obtain ⟨K, e0, _, _⟩ := DataW.trod_int Try.underlying3 t0
          obtain ⟨M, e1, _, _⟩ := DataW.trod_int Try.underlying3 t1
          simp at e0 e1
          exact ⟨K, M, e0, e1⟩
        obtain ⟨f, hf2⟩ := choose_lt (p := fun i (x : Int × Int) => V0 i = .int .i64 x.1 ∧ V1 i = .int .i64 x.2) (fun i him => by
          obtain ⟨K, M, e0, e1⟩ := hv i him
          exact ⟨(K, M), e0, e1⟩)
        refine reads_walk s (some a) len cap (fun i => (f i).1) (fun i => (f i).2) W (by omega) (by omega) (fun h => ?_)
        obtain ⟨bb, off, spot⟩ := a
        have hspot : spot = none := by simpa [Addr.add] using World.cell?_spot (hi 0 (by omega)).1
        subst hspot
        refine ⟨bb, off, rfl, block_lt_of_cell (hi 0 (by omega)).1, fun i hil => ?_⟩
        obtain ⟨c0, c1, _, _⟩ := hi i (by omega)
        obtain ⟨e0, e1⟩ := hf2 i (by omega)
        rw [add_plain, e0] at c0
        rw [add_plain, e1] at c1
        exact ⟨c0, by rw [Nat.add_assoc]; exact c1⟩
  refine hc.mono fun e W' ⟨he, hb⟩ => ?_
  subst he
  exact ⟨_, rfl, Frm.law_post (by kernel_rfl) (by kernel_rfl) (by kernel_rfl) Try.underlying4 rfl rfl hW' hb⟩

theorem reads_holds : Rows.CodeReadsSaid :=
  OpenClaim.holds_of_wide 4 Try.f4 rfl rfl rfl rfl rfl rfl rfl ⟨rfl, rfl, rfl, rfl, rfl⟩ rfl rfl rfl rfl rfl (by kernel_rfl) Try.func4 (by kernel_rfl)
    (of_decide_eq_true (by kernel_rfl)) (by unfold Func.isWrapper; first | (rw [if_pos (by decide +kernel)]; kernel_rfl) | (rw [if_neg (by decide +kernel)]; exact ⟨rfl, rfl⟩))
    (fun os started H enc _ => reads_lifted os started H enc)

end Go.Proofs.Ytkblehooadojjaa
