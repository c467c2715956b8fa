/- The reader's bytes: what the small functions on single bytes and on places answer, for every source. -/
import Derived.Test.YtodeeegbajgafaaGreatDoorProg
import Derived.Test.YtodeeegbajgafaaGreatDoorQ00
import Derived.WalkKit
import Derived.WalkSpells
import Derived.WalkLawsBesides
namespace Go.Proofs.YtodeeegbajgafaaGreatDoor
open Go.RowKit
theorem ret_bool {a b : Bool} (h : a = b) : Ending.returned (.bool a) = .returned (.bool b) := by rw [h]
theorem ret_int {k : IntKind} {a b : Int} (h : a = b) : Ending.returned (.int k a) = .returned (.int k b) := by rw [h]
set_option maxHeartbeats 400000 in
theorem isDigit_any (b : UInt8) (w : World) :
    Calls Tryz.prog 131 #[.int .u8 b.toNat] w fun e w' => e = .returned (.bool (Rd.isDigit b)) ∧ w' = w := by
  by_cases h : 48 ≤ b.toNat <;> by_cases h' : b.toNat ≤ 57 <;> first | (exfalso; omega) |
  (go_enter Tryz.func131, Tryz.ntmps131
   go_wp2
   go_ret
   exact ⟨ret_bool (by rw [Bool.eq_iff_iff]; simp [Rd.isDigit]; try omega), rfl⟩)
set_option maxHeartbeats 400000 in
theorem isLetter_any (b : UInt8) (w : World) :
    Calls Tryz.prog 130 #[.int .u8 b.toNat] w fun e w' => e = .returned (.bool (Rd.isLetter b)) ∧ w' = w := by
  by_cases h : 97 ≤ b.toNat <;> by_cases h' : b.toNat ≤ 122 <;> by_cases g : 65 ≤ b.toNat <;> by_cases g' : b.toNat ≤ 90 <;> first | (exfalso; omega) |
  (go_enter Tryz.func130, Tryz.ntmps130
   go_wp2
   go_ret
   exact ⟨ret_bool (by rw [Bool.eq_iff_iff]; simp [Rd.isLetter]; try omega), rfl⟩)
theorem drop_cons (s : ByteArray) (k : Nat) (h : k < s.size) : s.data.toList.drop k = s[k] :: s.data.toList.drop (k + 1) := by
  rw [List.drop_eq_getElem_cons (by simpa using h)]; rfl
theorem drop_nil (s : ByteArray) (k : Nat) (h : s.size ≤ k) : s.data.toList.drop k = [] := by
  rw [List.drop_eq_nil_iff]; simpa using h
theorem drop_len (s : ByteArray) (k : Nat) : (s.data.toList.drop k).length = s.size - k := by simp
set_option maxHeartbeats 400000 in
theorem lineEnd_any (s : ByteArray) (k : Nat) (w : World) (hk : k ≤ s.size) (hs : s.size ≤ maxLen) :
    Calls Tryz.prog 91 #[.string s, .int .i64 k] w fun e w' => e = .returned (.int .i64 ((s.size - (Rd.dropLine (s.data.toList.drop k)).length : Nat) : Int)) ∧ w' = w := by
  unfold maxLen at hs
  go_enter Tryz.func91, Tryz.ntmps91
  go_wp2
  go_loop [1] (fun i => ∃ j : Nat, k ≤ j ∧ j ≤ s.size ∧ i = .int .i64 j ∧ Hid (Rd.dropLine (s.data.toList.drop j) = Rd.dropLine (s.data.toList.drop k))) (fun i => s.size - (intOf i).toNat)
  case atStart => exact ⟨k, Nat.le_refl _, hk, rfl, rfl⟩
  case round =>
    obtain ⟨j, hj0, hj, rfl, H⟩ := hrel
    by_cases hlt : j < s.size
    · have hd := drop_cons s j hlt
      have HD : Hid (s.data.toList.drop j = s[j] :: s.data.toList.drop (j + 1)) := hd
      clear hd
      by_cases hb : ((s[j].toNat : Int) == 10) = true
      · have hb' : s[j].toNat = 10 := by have := eq_of_beq hb; omega
        have hb'' : ((s[j].toNat : Int) != 10) = false := by simp [bne, hb]
        have HB : Hid (s[j].toNat = 10) := hb'
        clear hb hb'
        go_wp2
        go_ret
        refine ⟨ret_int ?_, rfl⟩
        rw [← H.out, HD.out, Rd.dropLine, if_pos HB.out, ← HD.out, drop_len]
        omega
      · have hb' : s[j].toNat ≠ 10 := by intro h; exact hb (by simp [h])
        have hb'' : ((s[j].toNat : Int) != 10) = true := by simp [bne]; omega
        have HB : Hid (s[j].toNat ≠ 10) := hb'
        clear hb hb'
        go_wp2
        go_round
        case rel => exact ⟨j + 1, by omega, by omega, by go_num, by rw [Hid, ← H.out, HD.out, Rd.dropLine, if_neg HB.out]⟩
        case measure => simp [intOf]; omega
    · go_wp2
      go_ret
      refine ⟨ret_int ?_, rfl⟩
      rw [← H.out, drop_nil s j (by omega)]
      simp [Rd.dropLine]; omega
end Go.Proofs.YtodeeegbajgafaaGreatDoor
