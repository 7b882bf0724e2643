/- What the listed table gives, and the start that meets the condition. -/
import Derived.Test.YtajiekodfdbkkaaDoorTie
import Derived.Test.YtajiekodfdbkkaaDoorCards
import Derived.Test.YtajiekodfdbkkaaDoorAw
import Derived.Test.YtajiekodfdbkkaaDoorFrm
import Derived.Lib.QuietBelow
import Derived.BigQuiet
import Derived.LaidMore
import Derived.Stop.Joined
import Derived.SevenTiedAt
namespace Go.Proofs.YtajiekodfdbkkaaDoor
open Go.ChangeShapes Go.WideShapes Go.ChangeAt Go.RowKit Crc

theorem own : ownKnob Tryd.prog.godebug = none := by kernel_rfl
theorem gMix : Tryd.prog.globalNamed "bargeman/crc.mixes" = some 0 := by kernel_rfl
theorem tMix : (Tryd.prog.globals[0]?).map (·.type) = some 37 := by kernel_rfl
theorem c22 : Tryd.prog.cellsOf 22 = 1 := by kernel_rfl

abbrev laid1 {H : Type} : List (String × DataW H) := [("bargeman/crc.mixes", Rows.laid_bargeman_crc_mixes)]

/-- The datum's parts, one by one. -/
def partsN : List Nat := [0, 498536548, 997073096, 651767980, 1994146192, 1802195444, 1303535960, 1342533948, 3988292384, 4027552580, 3604390888, 3412177804, 2607071920, 2262029012, 2685067896, 3183342108]
theorem datum_parts {H : Type} : (Rows.laid_bargeman_crc_mixes : DataW H) = .agg (partsN.map fun n : Nat => .lit (.int .u32 (n : Int))) := rfl
theorem parts_tab : ∀ k : Nat, k < 16 → partsN[k]? = some (tab k).toNat := by decide +kernel

theorem door_met (os : Os) (args : Array Value) : laidMetH Tryd.prog laid1 ((World.doorLaid Tryd.prog 14 os).forCall (fun _ _ => 0) ⟨#[], args, []⟩).memory :=
  laidMetH_of_parts3 (fuel := 8) (laidMet_of_run' 8 (by kernel_rfl) (by kernel_rfl)) (by kernel_rfl) (by kernel_rfl)

theorem of_laid {W : World} (h : laidMetH Tryd.prog laid1 W) : Laid W := by
  rw [MakeChecks.laidMetH_plain _ _ _ (by kernel_rfl)] at h
  obtain ⟨ps, ⟨g, t, cs, f, p, q, hg, ht, hv, hd, _, _⟩, _, _⟩ := h
  obtain rfl := Option.some.inj (gMix.symm.trans hg)
  obtain rfl := Option.some.inj (tMix.symm.trans ht)
  obtain ⟨xs, m, rfl, ex, hlen, hn, hel⟩ := DataW.trod_array Tryd.underlying37 hd
  rw [datum_parts] at ex
  have hx : partsN.map (fun n : Nat => (DataW.lit (.int .u32 (n : Int)) : DataW Unit)) = xs.map (·.1) := by
    have := congrArg Prod.fst ex
    simpa using this
  have hcell : ∀ k : Nat, k < 16 → W.cell? ⟨0, k, none⟩ = some (.int .u32 (tab k).toNat) := by
    intro k hk
    have h1 := hel k hk
    rw [c22, Nat.mul_one] at h1
    obtain ⟨x, hxk⟩ : ∃ x, xs[k]? = some x := ⟨_, List.getElem?_eq_getElem (by omega)⟩
    rw [hxk] at h1
    obtain ⟨n, e1, e2, _⟩ := DataW.trod_int Tryd.underlying22 h1
    have h2 := congrArg (·[k]?) hx
    simp only [List.getElem?_map, hxk, parts_tab k hk, Option.map_some] at h2
    rw [e2] at h2
    have h3 : ((tab k).toNat : Int) = n := by simpa using h2
    have h4 : cs[k]? = some (.int .u32 n) := by
      have h5 := congrArg (·[0]?) e1
      rw [← Array.getElem?_toList]
      simpa using h5
    have h6 := World.var?_cell hg hv k
    rw [h6, h4, h3]
  exact ⟨block_lt_of_cell (hcell 0 (by decide)), hcell⟩

/-- A string among the arguments. -/
theorem open_str {H : Type} {enc : TypeId × Value → H} {W : World} {base : Nat} {sp : Nat → Bool} {v : Value} {d : DataW H} {ps : List MemPlace}
    (hv : Value.okWide Tryd.prog W .any base 9 v) (h : DataW.Trod enc Tryd.prog W 0 sp true 9 v d ps) : ∃ s : ByteArray, v = .string s ∧ s.size ≤ maxLen := by
  obtain ⟨s, rfl, _, _, hs⟩ := ChangeMaps.open_string Tryd.underlying9 hv h
  exact ⟨s, rfl, hs⟩

/-- A number among the arguments. -/
theorem open_u32 {H : Type} {enc : TypeId × Value → H} {W : World} {base : Nat} {sp : Nat → Bool} {v : Value} {d : DataW H} {ps : List MemPlace}
    (hv : Value.okWide Tryd.prog W .any base 22 v) (h : DataW.Trod enc Tryd.prog W 0 sp true 22 v d ps) : ∃ n : Nat, v = .int .u32 n ∧ n < 4294967296 := by
  obtain ⟨a, rfl, _, _, wf⟩ := open_int Tryd.underlying22 hv h
  have hb := bounds_u32 wf
  exact ⟨a.toNat, by rw [Int.toNat_of_nonneg hb.1], by omega⟩

end Go.Proofs.YtajiekodfdbkkaaDoor
