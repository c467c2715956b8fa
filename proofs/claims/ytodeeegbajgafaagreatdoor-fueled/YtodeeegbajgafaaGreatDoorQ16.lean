/- The reader in memory, and its step to the next token. -/
import Derived.Test.YtodeeegbajgafaaGreatDoorQ04
import Derived.Test.YtodeeegbajgafaaGreatDoorQ05
import Derived.Deep.RegionWith
import Derived.Deep.DeepFit
import Derived.Deep.DeepMust
namespace Go.Proofs.YtodeeegbajgafaaGreatDoor
open Go.RowKit
/-- The reader's five cells: the source, the token that 'l' begins with, the deepest. -/
def rdCells (s : ByteArray) (l : List UInt8) (d : Int) : Array Value :=
  #[.string s, .int .i64 (Rd.kindAt l : Nat), .int .i64 (s.size - l.length : Nat), .string ⟨(Rd.textOf l).toArray⟩, .int .i64 d]
/-- The reader lies in block rb. -/
def RdAt (rb : Nat) (s : ByteArray) (l : List UInt8) (d : Int) (w : World) : Prop := ∃ T, w.heap[rb]? = some (.cells (rdCells s l d) T (0, 0))
theorem rd_stored {rb : Nat} {T : TypeId} {s tx : ByteArray} {q pl : Nat} {d : Int} {w : World} (l : List UInt8)
    (hr : w.heap[rb]? = some (.cells #[.string s, .int .i64 q, .int .i64 pl, .string tx, .int .i64 d] T (0, 0))) :
    RdAt rb s l d (((w.setCell ⟨rb, 1, none⟩ (.int .i64 (Rd.kindAt l))).setCell ⟨rb, 2, none⟩ (.int .i64 (s.size - l.length : Nat))).setCell ⟨rb, 3, none⟩ (.string ⟨(Rd.textOf l).toArray⟩)) := by
  refine ⟨T, ?_⟩
  rw [at_setCell (at_setCell (at_setCell hr 1 _) 2 _) 3 _]
  simp [rdCells]
theorem kept_stored {rb : Nat} {w w' : World} (hb : Below w.drew.heap.size w.drew w') (a b c : Value) :
    Kept (· = rb) w (((w'.setCell ⟨rb, 1, none⟩ a).setCell ⟨rb, 2, none⟩ b).setCell ⟨rb, 3, none⟩ c) := by
  have hb' : Below w.heap.size w w' := ⟨hb.os, hb.tape, hb.output, hb.size, hb.block⟩
  have h0 : Kept (· = rb) w w' := Kept.of_below hb' _
  have h1 := h0.setCell (p := ⟨rb, 1, none⟩) (fun _ => rfl) a
  have h2 := h1.setCell (p := ⟨rb, 2, none⟩) (fun _ => rfl) b
  exact h2.setCell (p := ⟨rb, 3, none⟩) (fun _ => rfl) c
set_option maxHeartbeats 4000000 in
theorem pass_yes (rb : Nat) (s : ByteArray) (l : List UInt8) (d : Int) (q : Nat) (w : World) (hs : s.size ≤ maxLen) (hl : l <:+ s.data.toList) (hr : RdAt rb s l d w) (hq : Rd.kindAt l = q) :
    Calls Tryz.prog 32 #[.pointer (some ⟨rb, 0, none⟩), .int .i64 q] w fun e w' => e = .returned (.bool true) ∧ RdAt rb s (Rd.skip (Rd.behind l)) d w' ∧ Kept (· = rb) w w' := by
  obtain ⟨T, hr⟩ := hr
  have hlen : l.length ≤ s.size := by have := hl.length_le; simpa using this
  have hbl : (Rd.behind l).length ≤ l.length := (Rd.behind_suffix l).length_le
  have htl := Rd.text_len l
  have hdrop : s.data.toList.drop (s.size - (Rd.behind l).length) = Rd.behind l := by
    have := Rd.of_suffix ((Rd.behind_suffix l).trans hl)
    simpa using this.symm
  obtain ⟨nx, hnx⟩ : ∃ nx, s.size - (Rd.behind l).length = nx := ⟨_, rfl⟩
  obtain ⟨pl, hpl⟩ : ∃ pl, s.size - l.length = pl := ⟨_, rfl⟩
  obtain ⟨tx, htx⟩ : ∃ tx : ByteArray, (⟨(Rd.textOf l).toArray⟩ : ByteArray) = tx := ⟨_, rfl⟩
  have hpos : ((pl : Int) + (tx.size : Int)) = (nx : Int) := by
    have : tx.size = (Rd.textOf l).length := by rw [← htx]; simp [ByteArray.size]
    omega
  have hb2 : nx ≤ s.size := by omega
  rw [hnx] at hdrop
  simp only [rdCells, hpl, htx, hq] at hr
  have c0 : w.cell? ⟨rb, 0, none⟩ = some (.string s) := cell_of_at hr 0
  have c1 : w.cell? ⟨rb, 1, none⟩ = some (.int .i64 q) := cell_of_at hr 1
  have c2 : w.cell? ⟨rb, 2, none⟩ = some (.int .i64 pl) := cell_of_at hr 2
  have c3 : w.cell? ⟨rb, 3, none⟩ = some (.string tx) := cell_of_at hr 3
  have f1 := free_of_at hr 1
  have f2 := free_of_at hr 2
  have f3 := free_of_at hr 3
  have hne : ((q : Int) != (q : Int)) = false := by simp
  have HDR := (show Hid _ from hdrop)
  have hsb : s.size ≤ 2 ^ 63 - 1 := hs
  have HPOS : Hid ((pl : Int) + (tx.size : Int) = (nx : Int)) := hpos
  have hbd : pl + tx.size ≤ s.size := by omega
  have HW : Hid (IntKind.i64.wrap (nx : Int) = (nx : Int)) := i64_in _ (by omega) (by omega)
  clear hdrop hq htl hbl hlen hnx hpl htx hpos
  go_enter Tryz.func32, Tryz.ntmps32
  go_wp2
  go_region_with (go_at_call 30; rw [HPOS.out, HW.out]; go_must (go_fit (nextToken_any s nx _ hb2 hs)); rintro e w' ⟨rfl, hb⟩; rw [HDR.out]; have hr' := (Kept.of_below hb (fun _ => False)).at id (at_drew hr); have d1 : w'.cell? ⟨rb, 1, none⟩ = some (.int .i64 q) := cell_of_at hr' 1; have d2 : w'.cell? ⟨rb, 2, none⟩ = some (.int .i64 pl) := cell_of_at hr' 2; have d3 : w'.cell? ⟨rb, 3, none⟩ = some (.string tx) := cell_of_at hr' 3; have g1 := free_of_at hr' 1; have g2 := free_of_at hr' 2; have g3 := free_of_at hr' 3; simp only [tokV])
  all_goals
    go_wp2
    go_ret
    exact ⟨rfl, rd_stored _ hr', kept_stored hb _ _ _⟩
set_option maxHeartbeats 400000 in
theorem pass_no (rb : Nat) (s : ByteArray) (l : List UInt8) (d : Int) (q : Nat) (w : World) (hr : RdAt rb s l d w) (hq : Rd.kindAt l ≠ q) :
    Calls Tryz.prog 32 #[.pointer (some ⟨rb, 0, none⟩), .int .i64 q] w fun e w' => e = .returned (.bool false) ∧ w' = w := by
  obtain ⟨T, hr⟩ := hr
  have c1 : w.cell? ⟨rb, 1, none⟩ = some (.int .i64 (Rd.kindAt l)) := cell_of_at hr 1
  have hne : ((Rd.kindAt l : Int) != (q : Int)) = true := by simp; omega
  clear hr hq
  go_enter Tryz.func32, Tryz.ntmps32
  go_wp2
  go_ret
  exact ⟨rfl, rfl⟩
end Go.Proofs.YtodeeegbajgafaaGreatDoor
