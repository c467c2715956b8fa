/- Numbers held against one another; procedures of two numbers. -/
import Derived.Test.YtodeeegbajgafaaGreatDoorQ24
import Derived.Test.YtodeeegbajgafaaGreatDoorQ08
namespace Go.Proofs.YtodeeegbajgafaaGreatDoor
open Go.RowKit

/-- A function of numbers that comes to a value, and makes nothing but new memory. -/
def NumB (k : Nat) (w : World) (x v : Value) : Prop := Calls Tryz.prog k #[x] w fun e w' => e = .returned (.tuple #[v, .int .i64 0]) ∧ Below w.heap.size w w'
theorem NumFn.b {k : Nat} {w : World} {x v : Value} (h : NumFn k w x v) : NumB k w x v := h.mono fun _ _ ⟨h1, h2⟩ => ⟨h1, h2 ▸ Below.refl _ _⟩
theorem difference_b (a b r : Int) (x : Value) (w : World) (hx : NumsAt w x [a, b]) (hr : Mc.fold (fun a b => a - b) a [b] = some r) : NumB 70 w x (.iface 147 (.int .i64 r)) := (difference_any a b r x w hx hr w rfl).mono fun _ _ ⟨h1, h2⟩ => ⟨h1, h2 ▸ (Below.refl _ _).drew⟩

set_option maxHeartbeats 4000000 in
theorem neighbours_any (a b : Int) (x : Value) (w : World) (hx : NumsAt w x [a, b]) :
    Calls Tryz.prog 123 #[.func (.func 124) #[] #[], x] w fun e w' => e = .returned (.tuple #[.iface 150 (.bool (decide (a < b))), .int .i64 0]) ∧ Below w.heap.size w w' := by
  obtain ⟨g, o, cap, rfl, hn, hcap, hc⟩ := hx
  simp only [List.length_cons, List.length_nil] at *
  have c0 := hc 0 (by omega)
  have c1 := hc 1 (by omega)
  simp only [Nat.add_zero, List.getElem_cons_zero, List.getElem_cons_succ] at c0 c1
  have HL := less1_any a b w.drew
  clear hc
  have hB : Below w.heap.size w w.drew := (Below.refl _ w).drew
  have j1 : ¬ cap = 0 := by omega
  have j2 : ¬ cap = 1 := by omega
  have j3 : IntKind.i64.wrap 0 = 0 := rfl
  go_enter Tryz.func123, Tryz.ntmps123
  go_wp2
  go_loopg [6] 1 (fun k q wr => (k = 1 ∧ q = .int .i64 1 ∧ wr = w) ∨ (k = 0 ∧ q = .int .i64 2 ∧ wr = w.drew ∧ a < b))
  case atStart => exact Or.inl ⟨rfl, rfl, rfl⟩
  case round =>
    rcases hrel with ⟨rfl, rfl, rfl⟩ | ⟨rfl, rfl, rfl, hab⟩
    · by_cases hab : a < b
      · have hd : decide (a < b) = true := decide_eq_true hab
        go_wp2
        go_region_held3 (fun X => X.cell? ⟨g, o, none⟩ = some (.int .i64 a) ∧ X.cell? ⟨g, o + 1, none⟩ = some (.int .i64 b)) (go_keep) (first | (go_at_call 124; refine HL.mono ?_; rintro e2 w2 ⟨rfl, rfl⟩))
        all_goals
          go_wp2
          go_roundg 0
          case measure => omega
          case rel => exact Or.inr ⟨rfl, rfl, rfl, hab⟩
      · have hd : decide (a < b) = false := decide_eq_false hab
        go_wp2
        go_region_held3 (fun X => X.cell? ⟨g, o, none⟩ = some (.int .i64 a) ∧ X.cell? ⟨g, o + 1, none⟩ = some (.int .i64 b)) (go_keep) (first | (go_at_call 124; refine HL.mono ?_; rintro e2 w2 ⟨rfl, rfl⟩))
        all_goals
          go_wp2
          go_ret2
          exact ⟨(by rw [hd]; rfl), hB⟩
    · have hd : decide (a < b) = true := decide_eq_true hab
      go_wp2
      go_ret2
      exact ⟨(by rw [hd]; rfl), hB⟩
set_option maxHeartbeats 1000000 in
theorem less_any (a b : Int) (x : Value) (w : World) (hx : NumsAt w x [a, b]) : NumB 74 w x (.iface 150 (.bool (decide (a < b)))) := by
  have HF := neighbours_any a b x w hx
  obtain ⟨g, o, cap, rfl, hn, hcap, hc⟩ := hx
  clear hc
  unfold NumB
  generalize decide (a < b) = d at *
  go_enter Tryz.func74, Tryz.ntmps74
  go_wp2_with (first | (go_at_call 123; refine HF.mono ?_; rintro e2 w2 ⟨rfl, hb2⟩))
  go_ret2
  exact ⟨rfl, hb2⟩
end Go.Proofs.YtodeeegbajgafaaGreatDoor
