/- A body is begun. -/
import Derived.Test.YtodeeegbajgafaaGreatDoorQ19
import Derived.Test.YtodeeegbajgafaaGreatDoorQ20
import Derived.Deep.RegionHeld3
namespace Go.Proofs.YtodeeegbajgafaaGreatDoor
open Go.RowKit
open Mc
theorem Kept.undrew {M : Nat → Prop} {w w' : World} (h : Kept M w.drew w') : Kept M w w' := ⟨h.os, h.tape, h.output, h.size, h.block⟩
theorem RepFs.first {ok : Nat → Prop} {w : World} {sl : Value} {f : Rd.F} {fs : List Rd.F} (h : RepFs ok w sl (f :: fs)) :
    ∃ g o cap v, sl = .slice (some ⟨g, o, none⟩) (fs.length + 1) cap ∧ fs.length + 1 ≤ cap ∧ cap ≤ 100000 ∧ ok g ∧ w.cell? ⟨g, o, none⟩ = some v ∧ RepF ok w v f := by
  cases h with
  | list g o cap c T _ vf hg hh hn hcap hc hs =>
    refine ⟨g, o, cap, vf 0, rfl, hn, hcap, hg, ?_, hs 0 (by simp)⟩
    rw [cell_of_at hh]
    exact hc 0 (by simp)
end Go.Proofs.YtodeeegbajgafaaGreatDoor
