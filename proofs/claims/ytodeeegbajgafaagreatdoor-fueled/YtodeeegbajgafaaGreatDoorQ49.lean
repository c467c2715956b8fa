/- What Listed calls: pick, Itoa; texts laid together. -/
import Derived.Test.YtodeeegbajgafaaGreatDoorQ47
import Derived.Test.YtodeeegbajgafaaGreatDoorQ24
import Derived.Test.YtodeeegbajgafaaGreatDoorQ29
import Derived.Deep.Cut
import Derived.Deep.RegionHeld3
namespace Go.Proofs.YtodeeegbajgafaaGreatDoor
open Go.RowKit
open Mc
set_option maxHeartbeats 1000000 in
theorem pick14 (c : Int) (n : Nat) (h0 : -9223372036854775808 ≤ c) (h1 : c ≤ 9223372036854775807) (hn : 0 < n) (hn1 : n ≤ 100000) (w : World) : Calls Tryz.prog 14 #[.int .i64 c, .int .i64 n] w fun e w' => e = .returned (.int .i64 (Rd.pickN c n : Nat)) ∧ w' = w := by
  have hlt := Rd.pickN_lt c n hn
  have hn0 : ¬ (n : Int) = 0 := by omega
  by_cases hc : c < 0
  · have hq : (-(c + 1)).tmod (n : Int) = (Rd.pickN c n : Nat) := by
      unfold Rd.pickN
      rw [if_pos hc, Int.tmod_eq_emod_of_nonneg (by omega)]
      have := Int.emod_nonneg (-(c + 1)) (b := (n : Int)) (by omega)
      omega
    have i1 : -9223372036854775808 ≤ c + 1 := by omega
    have i2 : c + 1 ≤ 9223372036854775807 := by omega
    have i3 : -9223372036854775808 ≤ -(c + 1) := by omega
    have i4 : -(c + 1) ≤ 9223372036854775807 := by omega
    have i5 : wrap64 ((Rd.pickN c n : Nat) : Int) = (Rd.pickN c n : Nat) := by unfold wrap64; omega
    generalize Rd.pickN c n = r at *
    go_enter Tryz.func14, Tryz.ntmps14
    go_wp2
    go_ret
    exact ⟨rfl, rfl⟩
  · have hq : c.tmod (n : Int) = (Rd.pickN c n : Nat) := by
      unfold Rd.pickN
      rw [if_neg hc, Int.tmod_eq_emod_of_nonneg (by omega)]
      have := Int.emod_nonneg c (b := (n : Int)) (by omega)
      omega
    have i5 : wrap64 ((Rd.pickN c n : Nat) : Int) = (Rd.pickN c n : Nat) := by unfold wrap64; omega
    generalize Rd.pickN c n = r at *
    go_enter Tryz.func14, Tryz.ntmps14
    go_wp2
    go_ret
    exact ⟨rfl, rfl⟩
end Go.Proofs.YtodeeegbajgafaaGreatDoor
