/- The table of powers of ten lies where it lies. -/
import Derived.Test.YtodeeegbajgafaaGreatDoorProg
import Derived.Test.YtodeeegbajgafaaGreatDoorQ05
import Derived.Lib.LaidTab
import Derived.Lib.ItoaNum
namespace Go.Proofs.YtodeeegbajgafaaGreatDoor
open Go.RowKit
def TabOk (w : World) : Prop := Lib.TabIs Tryz.prog w "internal/strconv.uint64pow10" .u64 Lib.pow10Tab
noncomputable def tabBlock : Nat := (Tryz.prog.globalNamed "internal/strconv.uint64pow10").getD 0
theorem TabOk.lt {w : World} (h : TabOk w) : tabBlock < w.heap.size := by
  unfold TabOk Lib.TabIs World.var? at h
  unfold tabBlock
  cases hg : Tryz.prog.globalNamed "internal/strconv.uint64pow10" with
  | none => simp [hg] at h
  | some g =>
    simp only [hg, Option.bind_some, Option.getD_some] at h ⊢
    rcases Nat.lt_or_ge g w.heap.size with h' | h'
    · exact h'
    · rw [Array.getElem?_eq_none h'] at h; simp at h
theorem TabOk.on {w w' : World} (h : TabOk w) (e : w'.heap[tabBlock]? = w.heap[tabBlock]?) : TabOk w' := by
  unfold TabOk Lib.TabIs World.var? at *
  unfold tabBlock at e
  cases hg : Tryz.prog.globalNamed "internal/strconv.uint64pow10" with
  | none => simp [hg] at h
  | some g =>
    simp only [hg, Option.bind_some, Option.getD_some] at h e ⊢
    rw [e]
    exact h
theorem TabOk.kept {M : Nat → Prop} {w w' : World} (h : TabOk w) (hk : Kept M w w') (hm : ¬ M tabBlock) : TabOk w' := h.on (hk.block _ h.lt hm)
end Go.Proofs.YtodeeegbajgafaaGreatDoor
