/- From the rows' lists to strconv's two errors. -/
import Derived.Test.YtodeeegbajgafaaGreatDoorQ27
import Derived.Test.YtodeeegbajgafaaGreatDoorQ06
import Derived.LaidLaws
namespace Go.Proofs.YtodeeegbajgafaaGreatDoor
open Go.ChangeShapes Go.WideShapes Go.ChangeAt Go.RowKit
theorem gRange : Tryz.prog.globalNamed "strconv.ErrRange" = some 5 := by kernel_rfl
theorem gSyntax : Tryz.prog.globalNamed "strconv.ErrSyntax" = some 4 := by kernel_rfl
theorem gRangeType : (Tryz.prog.globals[5]?).map (·.type) = some 243 := by kernel_rfl
theorem gSyntaxType : (Tryz.prog.globals[4]?).map (·.type) = some 243 := by kernel_rfl
def isIface : Option TypeDesc → Bool
  | some (.interface _) => true
  | _ => false
theorem iface243 : isIface (Tryz.prog.underlying 243) = true := by kernel_rfl
theorem under243 : ∃ ms, Tryz.prog.underlying 243 = some (.interface ms) := by
  have h := iface243
  generalize Tryz.prog.underlying 243 = x at *
  unfold isIface at h
  split at h
  · exact ⟨_, rfl⟩
  · cases h
theorem err_cell {W : World} {n : String} {g f : Nat} {cs : Array Value} {nm : String} {d : DataW Unit} {p : List MemPlace} (hg : Tryz.prog.globalNamed n = some g) (hv : World.var? Tryz.prog W n = some cs) (hd : DataW.trod (fun _ => ()) Tryz.prog W 0 (fun _ => true) false f 243 cs.toList = some (.iface nm d, p)) :
    ∃ t q, W.cell? ⟨g, 0, none⟩ = some (.iface t q) := by
  obtain ⟨ms, hi⟩ := under243
  obtain ⟨_, u, v, hcs, _⟩ := iface_of_trod hi hd
  unfold World.var? at hv
  rw [hg] at hv
  simp only [Option.bind_some] at hv
  split at hv
  · rename_i c T fz hh
    cases hv
    refine ⟨u, v, ?_⟩
    rw [cell_of_at hh 0]
    have : cs = #[.iface u v] := by cases cs; simp_all
    rw [this]
    rfl
  · cases hv
set_option maxRecDepth 100000 in
theorem errs {W : World} (h : laidMetH Tryz.prog rowLaid W) : ErrsAt W := by
  rw [MakeChecks.laidMetH_plain _ _ _ (by kernel_rfl)] at h
  obtain ⟨ps, ⟨g0, t0, cs0, f0, p0, q0, hg0, ht0, hv0, hd0, ⟨g1, t1, cs1, f1, p1, q1, hg1, ht1, hv1, hd1, ⟨g2, t2, cs2, f2, p2, q2, hg2, ht2, hv2, hd2, ⟨g3, t3, cs3, f3, p3, q3, hg3, ht3, hv3, hd3, ⟨g4, t4, cs4, f4, p4, q4, hg4, ht4, hv4, hd4, _, _⟩, _⟩, _⟩, _⟩, _⟩, _, _⟩ := h
  clear hd0 hd1 hd2 hv0 hv1 hv2 hg0 hg1 hg2 ht0 ht1 ht2
  obtain rfl := Option.some.inj (gRange.symm.trans hg3)
  obtain rfl := Option.some.inj (gSyntax.symm.trans hg4)
  obtain rfl := Option.some.inj (gRangeType.symm.trans ht3)
  obtain rfl := Option.some.inj (gSyntaxType.symm.trans ht4)
  exact ⟨err_cell gSyntax hv4 hd4, err_cell gRange hv3 hd3⟩
end Go.Proofs.YtodeeegbajgafaaGreatDoor
