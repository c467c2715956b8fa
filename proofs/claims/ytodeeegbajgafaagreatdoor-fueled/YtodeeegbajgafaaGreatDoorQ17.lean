/- The reader reads a word. -/
import Derived.Test.YtodeeegbajgafaaGreatDoorQ16
import Derived.Test.YtodeeegbajgafaaGreatDoorQ06
import Derived.Test.YtodeeegbajgafaaGreatDoorQ05
namespace Go.Proofs.YtodeeegbajgafaaGreatDoor
open Go.RowKit
theorem textOf_size (l : List UInt8) : (⟨(Rd.textOf l).toArray⟩ : ByteArray).size = (Rd.textOf l).length := by simp [ByteArray.size]
theorem RdAt.kept {rb : Nat} {s : ByteArray} {l : List UInt8} {d : Int} {w w' : World} (h : RdAt rb s l d w) (hk : Below w.heap.size w w') : RdAt rb s l d w' := by
  obtain ⟨T, h⟩ := h
  exact ⟨T, (Kept.of_below hk (fun _ => False)).at id h⟩
theorem aV_iface (a : Rd.A) : ∃ t x, aV a = .iface t x := by
  cases a <;> exact ⟨_, _, rfl⟩
set_option maxHeartbeats 400000 in
theorem rdAtom_any (rb : Nat) (s : ByteArray) (l : List UInt8) (d : Int) (a : Rd.A) (w : World) (hs : s.size ≤ 500) (hl : l <:+ s.data.toList) (hr : RdAt rb s l d w) (hq : Rd.kindAt l = 5) (ha : Rd.atomOf (Rd.textOf l) = some a) :
    Calls Tryz.prog 93 #[.pointer (some ⟨rb, 0, none⟩)] w fun e w' => e = .returned (.tuple #[.agg #[.int .i64 (s.size - l.length : Nat), .slice none 0 0, aV a], .bool true]) ∧ RdAt rb s (Rd.skip (Rd.behind l)) d w' ∧ Kept (· = rb) w w' := by
  have hm : s.size ≤ maxLen := by unfold maxLen; omega
  obtain ⟨T, hr1⟩ := id hr
  have c2 : w.cell? ⟨rb, 2, none⟩ = some (.int .i64 (s.size - l.length : Nat)) := cell_of_at hr1 2
  have c3 : w.cell? ⟨rb, 3, none⟩ = some (.string ⟨(Rd.textOf l).toArray⟩) := cell_of_at hr1 3
  have htx : (⟨(Rd.textOf l).toArray⟩ : ByteArray).size ≤ 500 := by
    rw [textOf_size]
    have h1 := Rd.text_len l
    have h2 := hl.length_le
    simp at h2; omega
  have hlt := lt_of_at hr1
  have HQ := (show Hid _ from hq)
  clear hr1 hq
  generalize hpl : s.size - l.length = pl at *
  generalize htxx : (⟨(Rd.textOf l).toArray⟩ : ByteArray) = tx at *
  have ha' : Rd.atomOf tx.data.toList = some a := by rw [← htxx]; exact ha
  have HA := (show Hid _ from ha')
  clear ha ha' htxx hpl
  obtain ⟨ti, xv, hav⟩ := aV_iface a
  have HC : Hid (∀ w, Calls Tryz.prog 133 #[.string tx] w fun e w' => e = .returned (.tuple #[.iface ti xv, .bool true]) ∧ Below w.heap.size w w') := by
    intro w; rw [← hav]; exact atomOf_some tx a w htx HA.out
  rw [hav]
  clear hav
  go_enter Tryz.func93, Tryz.ntmps93
  go_wp2_with (first | (go_at_call 133; refine (HC.out _).mono ?_; rintro e w1 ⟨rfl, hb⟩) | (go_at_call 32; refine (pass_yes rb s l d 5 _ hm hl (hr.kept ?_) HQ.out).mono ?_; (exact ((Below.refl _ w).alloc (Nat.le_refl _) _).trans (hb.mono (by simp))); rintro e w2 ⟨rfl, hr2, hk2⟩; obtain ⟨c20, c21, c22, f20, f21, f22⟩ := cells3 (res_after hb hk2 hlt)))
  have hst := stored3 (res_after hb hk2 hlt) (.int .i64 pl) (.slice none 0 0) (.iface ti xv)
  obtain ⟨d0, d1, d2, _, _, _⟩ := cells3 hst
  have hk1 : Kept (· = rb) w w1 := Kept.of_below (((Below.refl _ w).alloc (Nat.le_refl _) _).trans (hb.mono (by simp))) _
  refine bodyPost_ret (v := .tuple #[.agg #[.int .i64 pl, .slice none 0 0, .iface ti xv], .bool true]) ?_ rfl ⟨rfl, ?_, kept_stored3 (hk1.trans hk2) (fun h => absurd h (Nat.lt_irrefl _)) _ _ _⟩
  · simp [results, Tryz.results93, go_sem, d0, d1, d2]
  · obtain ⟨T2, h2⟩ := hr2
    exact ⟨T2, at_stored3 h2 (by omega) _ _ _⟩
end Go.Proofs.YtodeeegbajgafaaGreatDoor
