/- Printing any source. -/
import Derived.Test.YtodeeegbajgafaaGreatDoorQ26
import Derived.Test.YtodeeegbajgafaaGreatDoorQ38
import Derived.Test.YtodeeegbajgafaaGreatDoorQ39
namespace Go.Proofs.YtodeeegbajgafaaGreatDoor
open Go.RowKit
open Mc
theorem own_stringZ {w : World} {B : Nat} {v : Value} {txt : List UInt8} (h : w.ownsRow B 5 1 v txt.length (Lib.byteCells txt)) : (convert 58 9 v).run Tryz.prog w = .ok (.string ⟨txt.toArray⟩) w := by
  by_cases ht : txt = []
  · subst ht
    obtain ⟨_, ⟨rfl, _⟩ | ⟨g, cap, cur, rfl, _⟩⟩ := h
    · kernel_rfl
    · kernel_rfl
  · exact own_string h ht
end Go.Proofs.YtodeeegbajgafaaGreatDoor
