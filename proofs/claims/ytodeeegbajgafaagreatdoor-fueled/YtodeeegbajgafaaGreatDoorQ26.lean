/- How lists of numbers are shown. The table, where it lies below. How any datum is shown: the text, and atoms. -/
import Derived.Test.YtodeeegbajgafaaGreatDoorQ25
import Derived.Test.YtodeeegbajgafaaGreatDoorQ01
import Derived.Test.YtodeeegbajgafaaGreatDoorQ24
import Derived.Test.YtodeeegbajgafaaGreatDoorQ11
import Derived.Lib.ItoaMem
namespace Go.Proofs.YtodeeegbajgafaaGreatDoor
open Go.RowKit
open Mc
theorem shown147 (n : Int) (w : World) : Sem.run Tryz.prog (method 400 147 (.int .i64 n) "AppendShown") w = .ok (209, .int .i64 n) w := by kernel_rfl
theorem shown115 (s : ByteArray) (w : World) : Sem.run Tryz.prog (method 400 115 (.string s) "AppendShown") w = .ok (206, .string s) w := by kernel_rfl
theorem shown146 (w : World) : Sem.run Tryz.prog (method 400 146 (.agg #[]) "AppendShown") w = .ok (208, .agg #[]) w := by kernel_rfl
theorem shown124 (b : Nat) (w : World) : Sem.run Tryz.prog (method 400 124 (.pointer (some ⟨b, 0, none⟩)) "AppendShown") w = .ok (207, .pointer (some ⟨b, 0, none⟩)) w := by kernel_rfl
abbrev Tab (B : Nat) (w : World) : Prop := Lib.TabBelow Tryz.prog B w "internal/strconv.uint64pow10" .u64 Lib.pow10Tab
theorem Tab.on {B : Nat} {w w' : World} (h : Tab B w) (hb : Below B w w') : Tab B w' := fun _ h' => h _ (hb.trans h')
theorem below_keeps {B : Nat} {w w' : World} (h : Below B w w') : ∀ k, k < w.heap.size → k < B → k < B ∧ w'.heap[k]? = w.heap[k]? := fun k _ hk => ⟨hk, h.block k hk⟩
/-- A byte is appended. -/
theorem own_byte (B n : Nat) (sv : Value) (xs : List Value) (w : World) (c : UInt8) (ho : w.ownsRow B 5 1 sv n xs) (hB : B ≤ w.heap.size) : (w.alloc (.cells #[.int .u8 c.toNat] 5)).ownsRow B 5 1 sv n xs ∧ B ≤ (w.alloc (.cells #[.int .u8 c.toNat] 5)).heap.size ∧ Below B w (w.alloc (.cells #[.int .u8 c.toNat] 5)) := ⟨ho.alloc _, by simp; omega, (Below.refl B w).alloc hB _⟩
end Go.Proofs.YtodeeegbajgafaaGreatDoor

namespace Go.Proofs.YtodeeegbajgafaaGreatDoor
open Go.RowKit
theorem TabOk.tab {w : World} (h : TabOk w) {B : Nat} (hB : tabBlock < B) : Tab B w := fun _ hb => h.on (hb.block _ hB)
end Go.Proofs.YtodeeegbajgafaaGreatDoor

namespace Go.Proofs.YtodeeegbajgafaaGreatDoor
open Go.RowKit
open Mc
def shA : Rd.A → List UInt8
  | .num n => Lib.itoa n
  | .truth true => [35, 116]
  | .truth false => [35, 102]
  | .sym l => l
  | .empty => [40, 41]
/-- What stands behind the last part. -/
def shE : Rd.A → List UInt8
  | .empty => [41]
  | a => [32, 46, 32] ++ (shA a ++ [41])
mutual
def shD : Rd.D → List UInt8
  | .mk _ ds en => shP ds en
def shP : List Rd.D → Rd.A → List UInt8
  | [], en => shA en
  | d :: ds, en => 40 :: (shD d ++ (shL ds ++ shE en))
def shL : List Rd.D → List UInt8
  | [] => []
  | d :: ds => 32 :: (shD d ++ shL ds)
end
def okA : Rd.A → Prop
  | .num n => -9223372036854775808 ≤ n ∧ n ≤ 9223372036854775807
  | _ => True
mutual
def okD : Rd.D → Prop
  | .mk _ ds en => okA en ∧ okL ds
def okL : List Rd.D → Prop
  | [] => True
  | d :: ds => okD d ∧ okL ds
end
theorem shown150 (b : Bool) (w : World) : Sem.run Tryz.prog (method 400 150 (.bool b) "AppendShown") w = .ok (213, .bool b) w := by kernel_rfl
set_option maxHeartbeats 2000000 in
theorem app_truth (B n : Nat) (b : Bool) (sv : Value) (xs : List Value) (w : World) (ho : w.ownsRow B 5 1 sv n xs) (hB : B ≤ w.heap.size) (hl : n + 2 ≤ 1000000) :
    Calls Tryz.prog 213 #[.bool b, sv] w (AppR B n xs (shA (.truth b)) w) := by
  obtain ⟨i0, hi, hz0, hz1, hz2⟩ := info_parts Tryz.info5
  have HO := (show Hid _ from ho)
  obtain ⟨a, k, c, rfl⟩ := owns_slice ho
  have HG := (show Hid _ from fun w' hg => own_grown (w' := w') ho hB hg)
  clear ho
  cases b
  · go_enter Tryz.func213, Tryz.ntmps213
    go_wp2_with (at_builtin; refine Lib.wpList_append_own_string _ rfl _ _ 58 9 rfl B 5 i0 Tryz.underlying58 Tryz.underlying9 hi hz0 hz1 hz2 _ _ _ rfl HO.out ⟨#[35, 102]⟩ rfl ?c3 ?c4 ?c5 ?_)
    case c3 => unfold maxLen; show n + 2 ≤ _; omega
    case c4 => show n + 2 ≤ _; omega
    case c5 => exact hB
    intro v' w2 hown' hgrow _
    have HO2 : Hid (w2.ownsRow B 5 1 v' (n + 2) (xs ++ Lib.byteCells [35, 102])) := hown'
    obtain ⟨a', k', c', rfl⟩ := owns_slice hown'
    have HB := (show Hid _ from HG.out _ hgrow)
    clear hown' hgrow
    go_wp2
    go_ret
    exact ⟨_, rfl, HO2.out, HB.out⟩
  · go_enter Tryz.func213, Tryz.ntmps213
    go_wp2_with (at_builtin; refine Lib.wpList_append_own_string _ rfl _ _ 58 9 rfl B 5 i0 Tryz.underlying58 Tryz.underlying9 hi hz0 hz1 hz2 _ _ _ rfl HO.out ⟨#[35, 116]⟩ rfl ?c3 ?c4 ?c5 ?_)
    case c3 => unfold maxLen; show n + 2 ≤ _; omega
    case c4 => show n + 2 ≤ _; omega
    case c5 => exact hB
    intro v' w2 hown' hgrow _
    have HO2 : Hid (w2.ownsRow B 5 1 v' (n + 2) (xs ++ Lib.byteCells [35, 116])) := hown'
    obtain ⟨a', k', c', rfl⟩ := owns_slice hown'
    have HB := (show Hid _ from HG.out _ hgrow)
    clear hown' hgrow
    go_wp2
    go_ret
    exact ⟨_, rfl, HO2.out, HB.out⟩
theorem enter206 (args : Array Value) (w : World) : Sem.run Tryz.prog (callFunc 206 args) w = .ok (.enter 206 args) w := by kernel_rfl
theorem enter207 (args : Array Value) (w : World) : Sem.run Tryz.prog (callFunc 207 args) w = .ok (.enter 207 args) w := by kernel_rfl
theorem enter208 (args : Array Value) (w : World) : Sem.run Tryz.prog (callFunc 208 args) w = .ok (.enter 208 args) w := by kernel_rfl
theorem enter209 (args : Array Value) (w : World) : Sem.run Tryz.prog (callFunc 209 args) w = .ok (.enter 209 args) w := by kernel_rfl
theorem enter213 (args : Array Value) (w : World) : Sem.run Tryz.prog (callFunc 213 args) w = .ok (.enter 213 args) w := by kernel_rfl
/-- A value that shows itself as this text, from the world w on. -/
def ShowsZ (B : Nat) (w : World) (t : TypeId) (x : Value) (txt : List UInt8) : Prop := ∃ (fn : Nat) (r : Value), (∀ w, Sem.run Tryz.prog (method 400 t x "AppendShown") w = .ok (fn, r) w) ∧ (∀ args w, Sem.run Tryz.prog (callFunc fn args) w = .ok (.enter fn args) w) ∧
  ∀ (W : World) (n : Nat) (sv : Value) (xs : List Value), Below B w W → W.ownsRow B 5 1 sv n xs → B ≤ W.heap.size → Tab B W → n + txt.length + 21 ≤ 1000000 → Calls Tryz.prog fn #[r, sv] W (AppR B n xs txt W)
theorem shows_atom (B : Nat) (w : World) (a : Rd.A) (ha : okA a) (t : TypeId) (x : Value) (h : aV a = .iface t x) : ShowsZ B w t x (shA a) := by
  cases a with
  | num i =>
    cases h
    exact ⟨209, _, fun w => shown147 i w, enter209, fun W n sv xs _ ho hB ht hl => app_num B n i ha.1 ha.2 sv xs W ho hB (by omega) ht⟩
  | truth b =>
    cases h
    refine ⟨213, _, fun w => shown150 b w, enter213, fun W n sv xs _ ho hB ht hl => app_truth B n b sv xs W ho hB (by omega)⟩
  | sym l =>
    cases h
    exact ⟨206, _, fun w => shown115 _ w, enter206, fun W n sv xs _ ho hB ht hl => app_sym B n l sv xs W ho hB (by simp only [shA] at hl; omega)⟩
  | empty =>
    cases h
    exact ⟨208, _, fun w => shown146 w, enter208, fun W n sv xs _ ho hB ht hl => app_empty B n sv xs W ho hB (by omega)⟩
end Go.Proofs.YtodeeegbajgafaaGreatDoor
