/- data.Show. Forms are evaluated in turn. A machine runs forms. The procedures that are there are made. A new machine. -/
import Derived.Test.YtodeeegbajgafaaGreatDoorQ26
import Derived.Test.YtodeeegbajgafaaGreatDoorQ24
import Derived.Test.YtodeeegbajgafaaGreatDoorQ08
import Derived.Test.YtodeeegbajgafaaGreatDoorQ01
import Derived.Laws.IdiomStrings
import Derived.Deep.RegionHeld3
import Derived.Deep.LoopGhost
namespace Go.Proofs.YtodeeegbajgafaaGreatDoor
open Go.RowKit
open Mc
theorem own_string {w : World} {B : Nat} {v : Value} {txt : List UInt8} (h : w.ownsRow B 5 1 v txt.length (Lib.byteCells txt)) (ht : txt ≠ []) : (convert 58 9 v).run Tryz.prog w = .ok (.string ⟨txt.toArray⟩) w := by
  have hc := h
  obtain ⟨_, ⟨rfl, h0⟩ | ⟨g, cap, cur, rfl, _⟩⟩ := h
  · exact absurd (List.length_eq_zero_iff.1 h0) ht
  · refine run_convert_bytes_back w 58 9 5 ⟨g, 0, none⟩ cap txt Tryz.underlying58 Tryz.underlying5 Tryz.underlying9 fun j hj => ?_
    refine hc.cells (g := g) rfl j _ ?_
    simp [Lib.byteCells, hj]
/-- A value is shown so. -/
def ShowR (txt : List UInt8) (w : World) : Ending → World → Prop := fun e w' => e = .returned (.tuple #[.string ⟨txt.toArray⟩, .bool true]) ∧ Below w.heap.size w w'
theorem own_none (B : Nat) (w : World) : w.ownsRow B 5 1 (.slice none 0 0) 0 [] := ⟨rfl, Or.inl ⟨rfl, rfl⟩⟩
end Go.Proofs.YtodeeegbajgafaaGreatDoor

namespace Go.Proofs.YtodeeegbajgafaaGreatDoor
open Go.RowKit
open Mc
theorem RepFs.at {ok : Nat → Prop} {w : World} {sl : Value} {fs : List Rd.F} (h : RepFs ok w sl fs) :
    ∃ g o cap, sl = .slice (some ⟨g, o, none⟩) fs.length cap ∧ fs.length ≤ cap ∧ cap ≤ 100000 ∧ ok g ∧ ∀ i (hi : i < fs.length), ∃ v, w.cell? ⟨g, o + i, none⟩ = some v ∧ RepF ok w v fs[i] := by
  cases h with
  | list g o cap c T _ vf hg hh hn hcap hc hs =>
    exact ⟨g, o, cap, rfl, hn, hcap, hg, fun i hi => ⟨vf i, by rw [cell_of_at hh]; exact hc i hi, hs i hi⟩⟩
def set5 (w : World) (k : Nat) (a b c d e : Value) : World := ((((w.setCell ⟨k, 0, none⟩ a).setCell ⟨k, 1, none⟩ b).setCell ⟨k, 2, none⟩ c).setCell ⟨k, 3, none⟩ d).setCell ⟨k, 4, none⟩ e
theorem set5_at {w : World} {k : Nat} {a b c d e : Value} {T : TypeId} (h : w.heap[k]? = some (.cells #[a, b, c, d, e] T (0, 0))) (a' b' c' d' e' : Value) : (set5 w k a' b' c' d' e').heap[k]? = some (.cells #[a', b', c', d', e'] T (0, 0)) := by
  unfold set5
  rw [at_setCell (at_setCell (at_setCell (at_setCell (at_setCell h 0 _) 1 _) 2 _) 3 _) 4 _]
  simp
theorem set5_ne (w : World) (k j : Nat) (a b c d e : Value) (h : j ≠ k) : (set5 w k a b c d e).heap[j]? = w.heap[j]? := by
  unfold set5
  rw [Below.heap_setCell _ _ _ _ h, Below.heap_setCell _ _ _ _ h, Below.heap_setCell _ _ _ _ h, Below.heap_setCell _ _ _ _ h, Below.heap_setCell _ _ _ _ h]
theorem set5_size (w : World) (k : Nat) (a b c d e : Value) : (set5 w k a b c d e).heap.size = w.heap.size := by simp [set5]
theorem set5_kept {M : Nat → Prop} {w w' : World} (h : Kept M w w') {k : Nat} (hm : k < w.heap.size → M k) (a b c d e : Value) : Kept M w (set5 w' k a b c d e) :=
  ((((h.setCell (p := ⟨k, 0, none⟩) hm a).setCell (p := ⟨k, 1, none⟩) hm b).setCell (p := ⟨k, 2, none⟩) hm c).setCell (p := ⟨k, 3, none⟩) hm d).setCell (p := ⟨k, 4, none⟩) hm e
end Go.Proofs.YtodeeegbajgafaaGreatDoor

namespace Go.Proofs.YtodeeegbajgafaaGreatDoor
open Go.RowKit
open Mc
def zeroOut : Obj := .cells #[.int .i64 0, .string ⟨#[]⟩, .int .i64 0, .int .i64 0, .slice none 0 0] 34
def newRun (mb F : Nat) : Obj := .cells #[ptrV mb, .int .i64 F, .int .i64 0, .nilIface, .pointer none, .nilIface, .pointer none, .pointer none, .int .i64 0, .int .i64 0] 103
theorem six_of {w2 : World} {k : Nat} (hat : w2.heap[k]? = some zeroOut) : w2.frozen? ⟨k, 0, none⟩ = false ∧ w2.frozen? ⟨k, 1, none⟩ = false ∧ w2.frozen? ⟨k, 2, none⟩ = false ∧ w2.frozen? ⟨k, 3, none⟩ = false ∧ w2.frozen? ⟨k, 4, none⟩ = false ∧ w2.cell? ⟨k, 0, none⟩ = some (.int .i64 0) ∧ w2.cell? ⟨k, 1, none⟩ = some (.string ⟨#[]⟩) ∧ w2.cell? ⟨k, 2, none⟩ = some (.int .i64 0) ∧ w2.cell? ⟨k, 3, none⟩ = some (.int .i64 0) ∧ w2.cell? ⟨k, 4, none⟩ = some (.slice none 0 0) :=
  ⟨free_of_at hat 0, free_of_at hat 1, free_of_at hat 2, free_of_at hat 3, free_of_at hat 4, cell_of_at hat 0, cell_of_at hat 1, cell_of_at hat 2, cell_of_at hat 3, cell_of_at hat 4⟩
def runEnd (w2 : World) (mb b6 : Nat) (a b c d e : Value) : World := (set5 (w2.setCell ⟨mb, 1, none⟩ (.slice none 0 0)) b6 a b c d e).alloc (.cells #[a, b, c, d, e] 34)
end Go.Proofs.YtodeeegbajgafaaGreatDoor

namespace Go.Proofs.YtodeeegbajgafaaGreatDoor
open Go.RowKit
open Mc
set_option maxHeartbeats 1000000 in
theorem atLeast_any (l : Int) (w : World) : Calls Tryz.prog 66 #[.int .i64 l] w fun e w' => e = .returned (.agg #[.int .i64 l, .int .i64 9223372036854775807]) ∧ w' = w.alloc (.cells #[.int .i64 l, .int .i64 9223372036854775807] 114) := by
  go_enter Tryz.func66, Tryz.ntmps66
  go_wp2
  refine bodyPost_ret (v := .agg #[.int .i64 l, .int .i64 9223372036854775807]) ?_ rfl ⟨rfl, rfl⟩
  simp [results, Tryz.results66, go_sem]
set_option maxHeartbeats 1000000 in
theorem exactly_any (l : Int) (w : World) : Calls Tryz.prog 71 #[.int .i64 l] w fun e w' => e = .returned (.agg #[.int .i64 l, .int .i64 l]) ∧ w' = w.alloc (.cells #[.int .i64 l, .int .i64 l] 114) := by
  go_enter Tryz.func71, Tryz.ntmps71
  go_wp2
  refine bodyPost_ret (v := .agg #[.int .i64 l, .int .i64 l]) ?_ rfl ⟨rfl, rfl⟩
  simp [results, Tryz.results71, go_sem]
set_option maxHeartbeats 1000000 in
theorem ofNumbers67 (f : Fn) (w : World) : Calls Tryz.prog 67 #[.func f #[] #[]] w fun e w' => e = .returned (.func (.func 115) #[] #[.pointer (some ⟨w.heap.size, 0, none⟩)]) ∧ w' = w.alloc (.cells #[.func f #[] #[]] 142) := by
  have hmf : ∀ fn first cap w, (Instr.makeFunc fn first cap).run Tryz.prog w = .ok (.func fn first cap) w := fun _ _ _ _ => rfl
  go_enter Tryz.func67, Tryz.ntmps67
  go_wp2
  go_ret
  exact ⟨rfl, rfl⟩
set_option maxHeartbeats 1000000 in
theorem ofPair78 (f : Fn) (w : World) : Calls Tryz.prog 78 #[.func f #[] #[]] w fun e w' => e = .returned (.func (.func 127) #[] #[.pointer (some ⟨w.heap.size, 0, none⟩)]) ∧ w' = w.alloc (.cells #[.func f #[] #[]] 144) := by
  have hmf : ∀ fn first cap w, (Instr.makeFunc fn first cap).run Tryz.prog w = .ok (.func fn first cap) w := fun _ _ _ _ => rfl
  go_enter Tryz.func78, Tryz.ntmps78
  go_wp2
  go_ret
  exact ⟨rfl, rfl⟩
set_option maxHeartbeats 1000000 in
theorem display90 (f : Fn) (xs : Array Value) (w : World) : Calls Tryz.prog 90 #[.func f xs #[]] w fun e w' => e = .returned (.func (.func 129) #[] #[.pointer (some ⟨w.heap.size, 0, none⟩)]) ∧ w' = w.alloc (.cells #[.func f xs #[]] 110) := by
  have hmf : ∀ fn first cap w, (Instr.makeFunc fn first cap).run Tryz.prog w = .ok (.func fn first cap) w := fun _ _ _ _ => rfl
  go_enter Tryz.func90, Tryz.ntmps90
  go_wp2
  go_ret
  exact ⟨rfl, rfl⟩
/-- Many blocks are laid. -/
def allocs (w : World) : List Obj → World
  | [] => w
  | o :: os => allocs (w.alloc o) os
theorem allocs_below : ∀ (os : List Obj) (w : World) (B : Nat), B ≤ w.heap.size → Below B w (allocs w os)
  | [], w, B, _ => Below.refl _ _
  | o :: os, w, B, h => ((Below.refl B w).alloc h o).trans (allocs_below os (w.alloc o) B (by simp; omega))
theorem allocs_at : ∀ (os : List Obj) (w : World) (i : Nat) (o : Obj), os[i]? = some o → (allocs w os).heap[w.heap.size + i]? = some o
  | [], _, _, _, h => by simp at h
  | o :: os, w, 0, o', h => by
    simp only [List.getElem?_cons_zero, Option.some.injEq] at h
    subst h
    exact (allocs_below os (w.alloc o) (w.heap.size + 1) (by simp)).block _ (by omega) |>.trans (at_new w o)
  | o :: os, w, i + 1, o', h => by
    have := allocs_at os (w.alloc o) i o' (by simpa using h)
    have hs : (w.alloc o).heap.size = w.heap.size + 1 := by simp
    rw [hs] at this
    rw [show w.heap.size + (i + 1) = w.heap.size + 1 + i from by omega]
    exact this
/-- What All lays. -/
def allObjs (mb n : Nat) : List Obj := [
  .cells #[.int .i64 0, .int .i64 9223372036854775807] 114,
  .cells #[fnV 68] 142,
  .cells #[.int .i64 0, .int .i64 9223372036854775807, .string ⟨#[43]⟩, capFn 115 [n + 1]] 119,
  .cells #[.int .i64 0, .int .i64 9223372036854775807] 114,
  .cells #[fnV 69] 142,
  .cells #[.int .i64 0, .int .i64 9223372036854775807, .string ⟨#[42]⟩, capFn 115 [n + 4]] 119,
  .cells #[.int .i64 1, .int .i64 9223372036854775807] 114,
  .cells #[fnV 70] 142,
  .cells #[.int .i64 1, .int .i64 9223372036854775807, .string ⟨#[45]⟩, capFn 115 [n + 7]] 119,
  .cells #[.int .i64 2, .int .i64 2] 114,
  .cells #[fnV 72] 142,
  .cells #[.int .i64 2, .int .i64 2, .string ⟨#[113, 117, 111, 116, 105, 101, 110, 116]⟩, capFn 115 [n + 10]] 119,
  .cells #[.int .i64 2, .int .i64 2] 114,
  .cells #[fnV 73] 142,
  .cells #[.int .i64 2, .int .i64 2, .string ⟨#[114, 101, 109, 97, 105, 110, 100, 101, 114]⟩, capFn 115 [n + 13]] 119,
  .cells #[.int .i64 1, .int .i64 9223372036854775807] 114,
  .cells #[fnV 74] 142,
  .cells #[.int .i64 1, .int .i64 9223372036854775807, .string ⟨#[60]⟩, capFn 115 [n + 16]] 119,
  .cells #[.int .i64 1, .int .i64 9223372036854775807] 114,
  .cells #[fnV 75] 142,
  .cells #[.int .i64 1, .int .i64 9223372036854775807, .string ⟨#[62]⟩, capFn 115 [n + 19]] 119,
  .cells #[.int .i64 1, .int .i64 9223372036854775807] 114,
  .cells #[fnV 76] 142,
  .cells #[.int .i64 1, .int .i64 9223372036854775807, .string ⟨#[61]⟩, capFn 115 [n + 22]] 119,
  .cells #[.int .i64 2, .int .i64 2] 114,
  .cells #[.int .i64 2, .int .i64 2, .string ⟨#[99, 111, 110, 115]⟩, fnV 77] 119,
  .cells #[.int .i64 1, .int .i64 1] 114,
  .cells #[fnV 79] 144,
  .cells #[.int .i64 1, .int .i64 1, .string ⟨#[99, 97, 114]⟩, capFn 127 [n + 27]] 119,
  .cells #[.int .i64 1, .int .i64 1] 114,
  .cells #[fnV 80] 144,
  .cells #[.int .i64 1, .int .i64 1, .string ⟨#[99, 100, 114]⟩, capFn 127 [n + 30]] 119,
  .cells #[.int .i64 0, .int .i64 9223372036854775807] 114,
  .cells #[.int .i64 0, .int .i64 9223372036854775807, .string ⟨#[108, 105, 115, 116]⟩, fnV 81] 119,
  .cells #[.int .i64 1, .int .i64 1] 114,
  .cells #[.int .i64 1, .int .i64 1, .string ⟨#[112, 97, 105, 114, 63]⟩, fnV 82] 119,
  .cells #[.int .i64 1, .int .i64 1] 114,
  .cells #[.int .i64 1, .int .i64 1, .string ⟨#[110, 117, 108, 108, 63]⟩, fnV 83] 119,
  .cells #[.int .i64 1, .int .i64 1] 114,
  .cells #[.int .i64 1, .int .i64 1, .string ⟨#[110, 117, 109, 98, 101, 114, 63]⟩, fnV 84] 119,
  .cells #[.int .i64 1, .int .i64 1] 114,
  .cells #[.int .i64 1, .int .i64 1, .string ⟨#[115, 121, 109, 98, 111, 108, 63]⟩, fnV 85] 119,
  .cells #[.int .i64 1, .int .i64 1] 114,
  .cells #[.int .i64 1, .int .i64 1, .string ⟨#[112, 114, 111, 99, 101, 100, 117, 114, 101, 63]⟩, fnV 86] 119,
  .cells #[.int .i64 1, .int .i64 1] 114,
  .cells #[.int .i64 1, .int .i64 1, .string ⟨#[98, 111, 111, 108, 101, 97, 110, 63]⟩, fnV 87] 119,
  .cells #[.int .i64 2, .int .i64 2] 114,
  .cells #[.int .i64 2, .int .i64 2, .string ⟨#[101, 113, 63]⟩, fnV 88] 119,
  .cells #[.int .i64 1, .int .i64 1] 114,
  .cells #[.int .i64 1, .int .i64 1, .string ⟨#[110, 111, 116]⟩, fnV 89] 119,
  .cells #[.int .i64 1, .int .i64 1] 114,
  .cells #[.func (.func 39) #[ptrV mb] #[]] 110,
  .cells #[.int .i64 1, .int .i64 1, .string ⟨#[100, 105, 115, 112, 108, 97, 121]⟩, capFn 129 [n + 51]] 119,
  .cells #[ptrV (n + 2), ptrV (n + 5), ptrV (n + 8), ptrV (n + 11), ptrV (n + 14), ptrV (n + 17), ptrV (n + 20), ptrV (n + 23), ptrV (n + 25), ptrV (n + 28), ptrV (n + 31), ptrV (n + 33), ptrV (n + 35), ptrV (n + 37), ptrV (n + 39), ptrV (n + 41), ptrV (n + 43), ptrV (n + 45), ptrV (n + 47), ptrV (n + 49), ptrV (n + 52)] 111]
def basicAt : Nat → Nat
  | 0 => 2
  | 1 => 5
  | 2 => 8
  | 3 => 11
  | 4 => 14
  | 5 => 17
  | 6 => 20
  | 7 => 23
  | 8 => 25
  | 9 => 28
  | 10 => 31
  | 11 => 33
  | 12 => 35
  | 13 => 37
  | 14 => 39
  | 15 => 41
  | 16 => 43
  | 17 => 45
  | 18 => 47
  | 19 => 49
  | _ => 52
set_option maxHeartbeats 16000000 in
set_option maxRecDepth 40000 in
theorem all38 (mb : Nat) (w : World) : Calls Tryz.prog 38 #[.func (.func 39) #[.pointer (some ⟨mb, 0, none⟩)] #[]] w fun e w' => e = .returned (.slice (some ⟨w.heap.size + 53, 0, none⟩) 21 21) ∧ w' = allocs w (allObjs mb w.heap.size) := by
  have h66 := atLeast_any
  have h71 := exactly_any
  have h67 := ofNumbers67
  have h78 := ofPair78
  have h90 := display90
  have H66 := (show Hid _ from h66)
  have H71 := (show Hid _ from h71)
  have H67 := (show Hid _ from h67)
  have H78 := (show Hid _ from h78)
  have H90 := (show Hid _ from h90)
  clear h66 h71 h67 h78 h90
  go_enter Tryz.func38, Tryz.ntmps38
  go_wp2_with (first | (go_at_call 66; refine (H66.out _ _).mono ?_; rintro e2 w2 ⟨rfl, rfl⟩) | (go_at_call 71; refine (H71.out _ _).mono ?_; rintro e2 w2 ⟨rfl, rfl⟩) | (go_at_call 67; refine (H67.out _ _).mono ?_; rintro e2 w2 ⟨rfl, rfl⟩) | (go_at_call 78; refine (H78.out _ _).mono ?_; rintro e2 w2 ⟨rfl, rfl⟩) | (go_at_call 90; refine (H90.out _ _ _).mono ?_; rintro e2 w2 ⟨rfl, rfl⟩))
  go_ret
  exact ⟨rfl, rfl⟩
end Go.Proofs.YtodeeegbajgafaaGreatDoor

namespace Go.Proofs.YtodeeegbajgafaaGreatDoor
open Go.RowKit
open Mc
theorem basicAt_lt : ∀ i, basicAt i < 53 := by
  intro i
  unfold basicAt
  split <;> omega
/-- A procedure of All's. -/
structure BasAt (mb m i : Nat) (W : World) : Prop where
  cell : W.cell? ⟨m + 53, i, none⟩ = some (.pointer (some ⟨m + basicAt i, 0, none⟩))
  blk : ∃ l k fv, W.heap[m + basicAt i]? = some (.cells #[l, k, .string ⟨(nameAt i).toArray⟩, fv] 119 (0, 0))
  rep : RepM mb (fun k => (m ≤ k ∧ k < m + 54) ∨ k = tabBlock) W (.iface 111 (.pointer (some ⟨m + basicAt i, 0, none⟩))) (.val (.basic i))
set_option maxRecDepth 20000 in
theorem bas_at (mb : Nat) (w : World) (htab : TabOk w) : ∀ i, i < 21 → BasAt mb w.heap.size i (allocs w (allObjs mb w.heap.size)) := by
  have hsl := allocs_at (allObjs mb w.heap.size) w 53 _ rfl
  have ht' : TabOk (allocs w (allObjs mb w.heap.size)) := htab.on ((allocs_below _ _ _ (Nat.le_refl _)).block _ htab.lt)
  intro i hi
  match i, hi with
  | 0, _ => exact ⟨cell_of_at hsl 0, ⟨_, _, _, allocs_at (allObjs mb w.heap.size) w 2 _ rfl⟩, by have := basicAt_lt 0; unfold basicAt at this ⊢; exact .basic1 0 _ (w.heap.size + 1) _ _ _ _ (Or.inl ⟨by omega, by omega⟩) (Or.inl ⟨by omega, by omega⟩) rfl (allocs_at (allObjs mb w.heap.size) w 2 _ rfl) (allocs_at (allObjs mb w.heap.size) w 1 _ rfl) (fun e => absurd e (by decide))⟩
  | 1, _ => exact ⟨cell_of_at hsl 1, ⟨_, _, _, allocs_at (allObjs mb w.heap.size) w 5 _ rfl⟩, by have := basicAt_lt 1; unfold basicAt at this ⊢; exact .basic1 1 _ (w.heap.size + 4) _ _ _ _ (Or.inl ⟨by omega, by omega⟩) (Or.inl ⟨by omega, by omega⟩) rfl (allocs_at (allObjs mb w.heap.size) w 5 _ rfl) (allocs_at (allObjs mb w.heap.size) w 4 _ rfl) (fun e => absurd e (by decide))⟩
  | 2, _ => exact ⟨cell_of_at hsl 2, ⟨_, _, _, allocs_at (allObjs mb w.heap.size) w 8 _ rfl⟩, by have := basicAt_lt 2; unfold basicAt at this ⊢; exact .basic1 2 _ (w.heap.size + 7) _ _ _ _ (Or.inl ⟨by omega, by omega⟩) (Or.inl ⟨by omega, by omega⟩) rfl (allocs_at (allObjs mb w.heap.size) w 8 _ rfl) (allocs_at (allObjs mb w.heap.size) w 7 _ rfl) (fun e => absurd e (by decide))⟩
  | 3, _ => exact ⟨cell_of_at hsl 3, ⟨_, _, _, allocs_at (allObjs mb w.heap.size) w 11 _ rfl⟩, by have := basicAt_lt 3; unfold basicAt at this ⊢; exact .basic1 3 _ (w.heap.size + 10) _ _ _ _ (Or.inl ⟨by omega, by omega⟩) (Or.inl ⟨by omega, by omega⟩) rfl (allocs_at (allObjs mb w.heap.size) w 11 _ rfl) (allocs_at (allObjs mb w.heap.size) w 10 _ rfl) (fun e => absurd e (by decide))⟩
  | 4, _ => exact ⟨cell_of_at hsl 4, ⟨_, _, _, allocs_at (allObjs mb w.heap.size) w 14 _ rfl⟩, by have := basicAt_lt 4; unfold basicAt at this ⊢; exact .basic1 4 _ (w.heap.size + 13) _ _ _ _ (Or.inl ⟨by omega, by omega⟩) (Or.inl ⟨by omega, by omega⟩) rfl (allocs_at (allObjs mb w.heap.size) w 14 _ rfl) (allocs_at (allObjs mb w.heap.size) w 13 _ rfl) (fun e => absurd e (by decide))⟩
  | 5, _ => exact ⟨cell_of_at hsl 5, ⟨_, _, _, allocs_at (allObjs mb w.heap.size) w 17 _ rfl⟩, by have := basicAt_lt 5; unfold basicAt at this ⊢; exact .basic1 5 _ (w.heap.size + 16) _ _ _ _ (Or.inl ⟨by omega, by omega⟩) (Or.inl ⟨by omega, by omega⟩) rfl (allocs_at (allObjs mb w.heap.size) w 17 _ rfl) (allocs_at (allObjs mb w.heap.size) w 16 _ rfl) (fun e => absurd e (by decide))⟩
  | 6, _ => exact ⟨cell_of_at hsl 6, ⟨_, _, _, allocs_at (allObjs mb w.heap.size) w 20 _ rfl⟩, by have := basicAt_lt 6; unfold basicAt at this ⊢; exact .basic1 6 _ (w.heap.size + 19) _ _ _ _ (Or.inl ⟨by omega, by omega⟩) (Or.inl ⟨by omega, by omega⟩) rfl (allocs_at (allObjs mb w.heap.size) w 20 _ rfl) (allocs_at (allObjs mb w.heap.size) w 19 _ rfl) (fun e => absurd e (by decide))⟩
  | 7, _ => exact ⟨cell_of_at hsl 7, ⟨_, _, _, allocs_at (allObjs mb w.heap.size) w 23 _ rfl⟩, by have := basicAt_lt 7; unfold basicAt at this ⊢; exact .basic1 7 _ (w.heap.size + 22) _ _ _ _ (Or.inl ⟨by omega, by omega⟩) (Or.inl ⟨by omega, by omega⟩) rfl (allocs_at (allObjs mb w.heap.size) w 23 _ rfl) (allocs_at (allObjs mb w.heap.size) w 22 _ rfl) (fun e => absurd e (by decide))⟩
  | 8, _ => exact ⟨cell_of_at hsl 8, ⟨_, _, _, allocs_at (allObjs mb w.heap.size) w 25 _ rfl⟩, by have := basicAt_lt 8; unfold basicAt at this ⊢; exact .basic0 8 _ _ _ (Or.inl ⟨by omega, by omega⟩) rfl (allocs_at (allObjs mb w.heap.size) w 25 _ rfl)⟩
  | 9, _ => exact ⟨cell_of_at hsl 9, ⟨_, _, _, allocs_at (allObjs mb w.heap.size) w 28 _ rfl⟩, by have := basicAt_lt 9; unfold basicAt at this ⊢; exact .basic1 9 _ (w.heap.size + 27) _ _ _ _ (Or.inl ⟨by omega, by omega⟩) (Or.inl ⟨by omega, by omega⟩) rfl (allocs_at (allObjs mb w.heap.size) w 28 _ rfl) (allocs_at (allObjs mb w.heap.size) w 27 _ rfl) (fun e => absurd e (by decide))⟩
  | 10, _ => exact ⟨cell_of_at hsl 10, ⟨_, _, _, allocs_at (allObjs mb w.heap.size) w 31 _ rfl⟩, by have := basicAt_lt 10; unfold basicAt at this ⊢; exact .basic1 10 _ (w.heap.size + 30) _ _ _ _ (Or.inl ⟨by omega, by omega⟩) (Or.inl ⟨by omega, by omega⟩) rfl (allocs_at (allObjs mb w.heap.size) w 31 _ rfl) (allocs_at (allObjs mb w.heap.size) w 30 _ rfl) (fun e => absurd e (by decide))⟩
  | 11, _ => exact ⟨cell_of_at hsl 11, ⟨_, _, _, allocs_at (allObjs mb w.heap.size) w 33 _ rfl⟩, by have := basicAt_lt 11; unfold basicAt at this ⊢; exact .basic0 11 _ _ _ (Or.inl ⟨by omega, by omega⟩) rfl (allocs_at (allObjs mb w.heap.size) w 33 _ rfl)⟩
  | 12, _ => exact ⟨cell_of_at hsl 12, ⟨_, _, _, allocs_at (allObjs mb w.heap.size) w 35 _ rfl⟩, by have := basicAt_lt 12; unfold basicAt at this ⊢; exact .basic0 12 _ _ _ (Or.inl ⟨by omega, by omega⟩) rfl (allocs_at (allObjs mb w.heap.size) w 35 _ rfl)⟩
  | 13, _ => exact ⟨cell_of_at hsl 13, ⟨_, _, _, allocs_at (allObjs mb w.heap.size) w 37 _ rfl⟩, by have := basicAt_lt 13; unfold basicAt at this ⊢; exact .basic0 13 _ _ _ (Or.inl ⟨by omega, by omega⟩) rfl (allocs_at (allObjs mb w.heap.size) w 37 _ rfl)⟩
  | 14, _ => exact ⟨cell_of_at hsl 14, ⟨_, _, _, allocs_at (allObjs mb w.heap.size) w 39 _ rfl⟩, by have := basicAt_lt 14; unfold basicAt at this ⊢; exact .basic0 14 _ _ _ (Or.inl ⟨by omega, by omega⟩) rfl (allocs_at (allObjs mb w.heap.size) w 39 _ rfl)⟩
  | 15, _ => exact ⟨cell_of_at hsl 15, ⟨_, _, _, allocs_at (allObjs mb w.heap.size) w 41 _ rfl⟩, by have := basicAt_lt 15; unfold basicAt at this ⊢; exact .basic0 15 _ _ _ (Or.inl ⟨by omega, by omega⟩) rfl (allocs_at (allObjs mb w.heap.size) w 41 _ rfl)⟩
  | 16, _ => exact ⟨cell_of_at hsl 16, ⟨_, _, _, allocs_at (allObjs mb w.heap.size) w 43 _ rfl⟩, by have := basicAt_lt 16; unfold basicAt at this ⊢; exact .basic0 16 _ _ _ (Or.inl ⟨by omega, by omega⟩) rfl (allocs_at (allObjs mb w.heap.size) w 43 _ rfl)⟩
  | 17, _ => exact ⟨cell_of_at hsl 17, ⟨_, _, _, allocs_at (allObjs mb w.heap.size) w 45 _ rfl⟩, by have := basicAt_lt 17; unfold basicAt at this ⊢; exact .basic0 17 _ _ _ (Or.inl ⟨by omega, by omega⟩) rfl (allocs_at (allObjs mb w.heap.size) w 45 _ rfl)⟩
  | 18, _ => exact ⟨cell_of_at hsl 18, ⟨_, _, _, allocs_at (allObjs mb w.heap.size) w 47 _ rfl⟩, by have := basicAt_lt 18; unfold basicAt at this ⊢; exact .basic0 18 _ _ _ (Or.inl ⟨by omega, by omega⟩) rfl (allocs_at (allObjs mb w.heap.size) w 47 _ rfl)⟩
  | 19, _ => exact ⟨cell_of_at hsl 19, ⟨_, _, _, allocs_at (allObjs mb w.heap.size) w 49 _ rfl⟩, by have := basicAt_lt 19; unfold basicAt at this ⊢; exact .basic0 19 _ _ _ (Or.inl ⟨by omega, by omega⟩) rfl (allocs_at (allObjs mb w.heap.size) w 49 _ rfl)⟩
  | 20, _ => exact ⟨cell_of_at hsl 20, ⟨_, _, _, allocs_at (allObjs mb w.heap.size) w 52 _ rfl⟩, by have := basicAt_lt 20; unfold basicAt at this ⊢; exact .basic1 20 _ (w.heap.size + 51) _ _ _ _ (Or.inl ⟨by omega, by omega⟩) (Or.inl ⟨by omega, by omega⟩) rfl (allocs_at (allObjs mb w.heap.size) w 52 _ rfl) (allocs_at (allObjs mb w.heap.size) w 51 _ rfl) (fun _ => ⟨Or.inr rfl, ht'⟩)⟩
  | n + 21, h => exact absurd h (by omega)
theorem find_take : ∀ i : Fin 21, (find? (nameAt i) (G0.take i)).isNone = true := by decide +kernel
theorem G0_take (i : Nat) (hi : i < 21) : G0.take i ++ [(nameAt i, .basic i)] = G0.take (i + 1) := by
  have h : G0[i]? = some (nameAt i, .basic i) := by simp [G0, hi]
  rw [List.take_add_one, h]
  rfl
end Go.Proofs.YtodeeegbajgafaaGreatDoor
