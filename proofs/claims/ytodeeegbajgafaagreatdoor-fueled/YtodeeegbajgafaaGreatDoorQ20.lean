/- The rule of set!. -/
import Derived.Test.YtodeeegbajgafaaGreatDoorQ15
import Derived.Deep.RegionHeld3
namespace Go.Proofs.YtodeeegbajgafaaGreatDoor
open Go.RowKit
theorem Kept.cell {M : Nat → Prop} {w w' : World} (h : Kept M w w') {k o : Nat} {v : Value} (hm : ¬ M k) (hc : w.cell? ⟨k, o, none⟩ = some v) : w'.cell? ⟨k, o, none⟩ = some v := by
  have hlt : k < w.heap.size := by
    by_cases hlt : k < w.heap.size
    · exact hlt
    · simp [World.cell?, Array.getElem?_eq_none (show w.heap.size ≤ k by omega)] at hc
  rw [World.cell?_of_block (w := w) (a := ⟨k, o, none⟩) (h.block k hlt hm)]
  exact hc
end Go.Proofs.YtodeeegbajgafaaGreatDoor
