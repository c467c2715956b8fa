/- A datum asked: is it a list, is it a symbol, what is its value where it has no parts. -/
import Derived.Test.YtodeeegbajgafaaGreatDoorQ06
import Derived.Test.YtodeeegbajgafaaGreatDoorQ05
import Derived.Test.YtodeeegbajgafaaGreatDoorQ08
namespace Go.Proofs.YtodeeegbajgafaaGreatDoor
open Go.RowKit
def Rd.A.isEmpty : Rd.A → Bool
  | .empty => true
  | _ => false
def Rd.A.symbol : Rd.A → Option (List UInt8)
  | .sym l => some l
  | _ => none
set_option maxHeartbeats 400000 in
set_option maxRecDepth 100000 in
theorem isList_any (p : Int) (sb : Option Addr) (n c : Nat) (en : Rd.A) (w : World) :
    Calls Tryz.prog 60 #[.agg #[.int .i64 p, .slice sb n c, aV en]] w fun e w' => e = .returned (.bool en.isEmpty) ∧ Below w.heap.size w w' := by
  have ta1 := ta_hit146
  have ta2 := fun v w => ta_miss146 147 v w (by decide)
  have ta3 := fun v w => ta_miss146 150 v w (by decide)
  have ta4 := fun v w => ta_miss146 115 v w (by decide)
  cases en <;> simp only [aV, Rd.A.isEmpty] <;>
  (go_enter Tryz.func60, Tryz.ntmps60
   go_wp2
   go_ret
   exact ⟨rfl, ((Below.refl _ _).alloc (Nat.le_refl _) _).alloc (by simp) _⟩)
set_option maxHeartbeats 400000 in
set_option maxRecDepth 100000 in
theorem symbol_leaf (p : Int) (sb : Option Addr) (c : Nat) (en : Rd.A) (w : World) :
    Calls Tryz.prog 61 #[.agg #[.int .i64 p, .slice sb 0 c, aV en]] w fun e w' => e = .returned (.tuple #[.string ⟨(en.symbol.getD []).toArray⟩, .bool en.symbol.isSome]) ∧ Below w.heap.size w w' := by
  have ta1 := ta_hit115
  have ta2 := fun v w => ta_miss115 147 v w (by decide)
  have ta3 := fun v w => ta_miss115 150 v w (by decide)
  have ta4 := fun v w => ta_miss115 146 v w (by decide)
  cases en <;> simp only [aV, Rd.A.symbol] <;>
  (go_enter Tryz.func61, Tryz.ntmps61
   go_wp2
   go_ret2
   exact ⟨rfl, (Below.refl _ _).alloc (Nat.le_refl _) _⟩)
set_option maxHeartbeats 400000 in
set_option maxRecDepth 100000 in
theorem symbol_list (p : Int) (sb : Option Addr) (n c : Nat) (en : Rd.A) (w : World) (hn : 0 < n) :
    Calls Tryz.prog 61 #[.agg #[.int .i64 p, .slice sb n c, aV en]] w fun e w' => e = .returned (.tuple #[.string ⟨#[]⟩, .bool false]) ∧ Below w.heap.size w w' := by
  have h : (0 : Int) < (n : Int) := by omega
  obtain ⟨ti, xv, hav⟩ := (by cases en <;> exact ⟨_, _, rfl⟩ : ∃ t x, aV en = .iface t x)
  rw [hav]
  clear hav
  go_enter Tryz.func61, Tryz.ntmps61
  go_wp2
  go_ret2
  exact ⟨rfl, (Below.refl _ _).alloc (Nat.le_refl _) _⟩
end Go.Proofs.YtodeeegbajgafaaGreatDoor
