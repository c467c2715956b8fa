/- From the rows' lists to the table; a world that meets them. -/
import Derived.Test.YtodeeegbajgafaaGreatDoorCards
import Derived.Test.YtodeeegbajgafaaGreatDoorTie
import Derived.Test.YtodeeegbajgafaaGreatDoorQ26
import Derived.WalkKit
import Derived.ProofKit
import Derived.OpenShut
import Derived.ShutString
import Derived.ChangeOld
import Derived.LaidMore
import Derived.Deep.DeepHandedRow
import Derived.Deep.DeepWitnessRowRef
import Derived.Lib.LaidTab
namespace Go.Proofs.YtodeeegbajgafaaGreatDoor
open Go.ChangeShapes Go.WideShapes Go.ChangeAt Go.RowKit
theorem own : ownKnob Tryz.prog.godebug = none := by kernel_rfl
theorem laidOut : laidOutB Tryz.prog = true := by kernel_rfl
theorem gPow : Tryz.prog.globalNamed "internal/strconv.uint64pow10" = some 0 := by kernel_rfl
theorem gPowType : (Tryz.prog.globals[0]?).map (·.type) = some 156 := by kernel_rfl
theorem cells156 : Tryz.prog.cellsOf 156 = 20 := by kernel_rfl
theorem cells128 : Tryz.prog.cellsOf 128 = 1 := by kernel_rfl
def rowLaid : List (String × DataW Unit) := Rows.listedRow.laid
theorem pow_data : (Rows.laid_internal_strconv_uint64pow10 : DataW Unit) = Lib.tabData .u64 Lib.pow10Tab := by kernel_rfl
set_option maxRecDepth 100000 in
/-- What the rows' list gives: the table. -/
theorem table {W : World} (h : laidMetH Tryz.prog rowLaid W) : TabOk W := by
  rw [MakeChecks.laidMetH_plain _ _ _ (by kernel_rfl)] at h
  obtain ⟨ps, ⟨g0, t0, cs0, f0, p0, q0, hg0, ht0, hv0, hd0, ⟨g1, t1, cs1, f1, p1, q1, hg1, ht1, hv1, hd1, ⟨g2, t2, cs2, f2, p2, q2, hg2, ht2, hv2, hd2, _, _⟩, _⟩, _⟩, _, _⟩ := h
  obtain rfl := Option.some.inj (gPow.symm.trans hg2)
  obtain rfl := Option.some.inj (gPowType.symm.trans ht2)
  rw [pow_data] at hd2
  have e := Lib.cells_of_tab (zs := Lib.pow10Tab) (k := .u64) Tryz.underlying156 Tryz.underlying128 cells128 cells156 hd2
  clear hd2 hd0 hd1
  unfold TabOk Lib.TabIs
  generalize Lib.pow10Tab = T at *
  rw [hv2, ← e]
/-- The door's own heap meets the lists. -/
theorem laid_met (os : Os) (args : Array Value) : laidMet Tryz.prog rowLaid ((World.doorLaid Tryz.prog 400 os).forCall (fun _ _ => 0) ⟨#[], args, []⟩).memory :=
  laidMet_of_run' 8 (by kernel_rfl) (by kernel_rfl)
end Go.Proofs.YtodeeegbajgafaaGreatDoor
