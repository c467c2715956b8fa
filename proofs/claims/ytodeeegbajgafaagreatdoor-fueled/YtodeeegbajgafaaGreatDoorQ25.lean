/- How values are shown: those without parts. -/
import Derived.Test.YtodeeegbajgafaaGreatDoorQ24
import Derived.Test.YtodeeegbajgafaaGreatDoorQ03
import Derived.Lib.AppendStr
import Derived.Lib.UnsafeStr
import Derived.Maps.AppendAt
namespace Go.Proofs.YtodeeegbajgafaaGreatDoor
open Go.RowKit
open Mc
/-- A text's bytes go on so. -/
def AppR (B n : Nat) (xs : List Value) (txt : List UInt8) (w : World) : Ending → World → Prop := fun e w' => ∃ v', e = .returned v' ∧ w'.ownsRow B 5 1 v' (n + txt.length) (xs ++ Lib.byteCells txt) ∧ Below B w w'
theorem Tryz.info5 : (Tryz.prog.info? 5).map (fun i => (i.zero, i.size, i.bytes)) = some (some (.int .u8 0), 1, 1) := by kernel_rfl
theorem owns_slice {w : World} {B e z n : Nat} {v : Value} {xs : List Value} (h : w.ownsRow B e z v n xs) : ∃ a k c, v = .slice a k c := by
  obtain ⟨_, ⟨rfl, _⟩ | ⟨g, cap, cur, rfl, _⟩⟩ := h
  · exact ⟨_, _, _, rfl⟩
  · exact ⟨_, _, _, rfl⟩
theorem own_grown {w w' : World} {B e z n : Nat} {v : Value} {xs : List Value} (h : w.ownsRow B e z v n xs) (hB : B ≤ w.heap.size) (hg : w.grownBy w' v.ownBlock) : Below B w w' := (Below.refl B w).grown hg hB (fun k e => (ownBlock_of h k e).1)
set_option maxHeartbeats 2000000 in
theorem app_sym (B n : Nat) (s : List UInt8) (sv : Value) (xs : List Value) (w : World) (ho : w.ownsRow B 5 1 sv n xs) (hB : B ≤ w.heap.size) (hl : n + s.length ≤ 1000000) :
    Calls Tryz.prog 206 #[.string ⟨s.toArray⟩, sv] w (AppR B n xs s w) := by
  obtain ⟨i0, hi, hz0, hz1, hz2⟩ := info_parts Tryz.info5
  have HO := (show Hid _ from ho)
  obtain ⟨a, k, c, rfl⟩ := owns_slice ho
  have hsz : (⟨s.toArray⟩ : ByteArray).size = s.length := by show s.toArray.size = _; simp
  have HG := (show Hid _ from fun w' hg => own_grown (w' := w') ho hB hg)
  clear ho
  go_enter Tryz.func206, Tryz.ntmps206
  go_wp2_with (at_builtin; refine Lib.wpList_append_own_string _ rfl _ _ 58 115 rfl B 5 i0 Tryz.underlying58 Tryz.underlying115 hi hz0 hz1 hz2 _ _ _ rfl HO.out ⟨s.toArray⟩ rfl ?c3 ?c4 ?c5 ?_)
  case c3 => rw [hsz]; unfold maxLen; omega
  case c4 => rw [hsz]; omega
  case c5 => exact hB
  intro v' w2 hown' hgrow _
  have HO2 := (show Hid _ from hown')
  obtain ⟨a', k', c', rfl⟩ := owns_slice hown'
  have HB := (show Hid _ from HG.out _ hgrow)
  clear hown' hgrow
  go_wp2
  go_ret
  exact ⟨_, rfl, HO2.out, HB.out⟩
set_option maxHeartbeats 2000000 in
theorem app_empty (B n : Nat) (sv : Value) (xs : List Value) (w : World) (ho : w.ownsRow B 5 1 sv n xs) (hB : B ≤ w.heap.size) (hl : n + 2 ≤ 1000000) :
    Calls Tryz.prog 208 #[.agg #[], sv] w (AppR B n xs [40, 41] w) := by
  obtain ⟨i0, hi, hz0, hz1, hz2⟩ := info_parts Tryz.info5
  have hA : Below B w (w.alloc (.cells #[] 146)) := (Below.refl B w).alloc hB _
  have hO : (w.alloc (.cells #[] 146)).ownsRow B 5 1 sv n xs := ho.alloc _
  have HO := (show Hid _ from hO)
  obtain ⟨a, k, c, rfl⟩ := owns_slice ho
  have HG := (show Hid _ from fun w' hg => hA.trans (own_grown (w' := w') hO (by simp; omega) hg))
  clear ho hO
  go_enter Tryz.func208, Tryz.ntmps208
  go_wp2_with (at_builtin; refine Lib.wpList_append_own_string _ rfl _ _ 58 9 rfl B 5 i0 Tryz.underlying58 Tryz.underlying9 hi hz0 hz1 hz2 _ _ _ rfl HO.out ⟨#[40, 41]⟩ rfl ?c3 ?c4 ?c5 ?_)
  case c3 => unfold maxLen; show n + 2 ≤ _; omega
  case c4 => show n + 2 ≤ _; omega
  case c5 => simp; omega
  intro v' w2 hown' hgrow _
  have HO2 : Hid (w2.ownsRow B 5 1 v' (n + 2) (xs ++ Lib.byteCells [40, 41])) := hown'
  obtain ⟨a', k', c', rfl⟩ := owns_slice hown'
  have HB := (show Hid _ from HG.out _ hgrow)
  clear hown' hgrow
  go_wp2
  go_ret
  exact ⟨_, rfl, HO2.out, HB.out⟩
set_option maxHeartbeats 2000000 in
theorem app_num (B n : Nat) (i : Int) (h0 : -9223372036854775808 ≤ i) (h1 : i ≤ 9223372036854775807) (sv : Value) (xs : List Value) (w : World) (ho : w.ownsRow B 5 1 sv n xs) (hB : B ≤ w.heap.size) (hl : n + 21 ≤ 1000000) (htab : Lib.TabBelow Tryz.prog B w "internal/strconv.uint64pow10" .u64 Lib.pow10Tab) :
    Calls Tryz.prog 209 #[.int .i64 i, sv] w (AppR B n xs (Lib.itoa i) w) := by
  have HC := Tryz.strconv_AppendInt_10 B n i h0 h1 sv xs w ho hB (by omega) htab
  obtain ⟨a, k, c, rfl⟩ := owns_slice ho
  clear ho htab
  go_enter Tryz.func209, Tryz.ntmps209
  go_wp2_with (first | (go_at_call 210; refine HC.mono ?_; rintro e2 w2 ⟨v', rfl, ho2, hb2, _⟩; have HO2 := (show Hid _ from ho2); obtain ⟨a', k', c', rfl⟩ := owns_slice ho2; clear ho2))
  go_ret
  exact ⟨_, rfl, HO2.out, hb2⟩
end Go.Proofs.YtodeeegbajgafaaGreatDoor
