/- The reader's tokens: what skipBlanks, wordEnd, kindOf and nextToken answer, for every source and place. The reader's next token, for every source and place. -/
import Derived.Test.YtodeeegbajgafaaGreatDoorQ02
import Derived.Test.YtodeeegbajgafaaGreatDoorQ03
import Derived.Test.YtodeeegbajgafaaGreatDoorQ00
namespace Go.Proofs.YtodeeegbajgafaaGreatDoor
open Go.RowKit
theorem beqF (b : UInt8) (n : Nat) (h : b.toNat ≠ n) : ((b.toNat : Int) == (n : Int)) = false := by simp; omega
theorem beqT (b : UInt8) (n : Nat) (h : b.toNat = n) : ((b.toNat : Int) == (n : Int)) = true := by simp; omega
set_option maxHeartbeats 1000000 in
theorem skipBlanks_any (s : ByteArray) (k : Nat) (w : World) (hk : k ≤ s.size) (hs : s.size ≤ maxLen) :
    Calls Tryz.prog 41 #[.string s, .int .i64 k] w fun e w' => e = .returned (.int .i64 ((s.size - (Rd.skip (s.data.toList.drop k)).length : Nat) : Int)) ∧ w' = w := by
  have hs0 := hs
  unfold maxLen at hs
  go_enter Tryz.func41, Tryz.ntmps41
  go_wp2
  go_loop [1] (fun i => ∃ j : Nat, k ≤ j ∧ j ≤ s.size ∧ i = .int .i64 j ∧ Hid (Rd.skip (s.data.toList.drop j) = Rd.skip (s.data.toList.drop k))) (fun i => s.size - (intOf i).toNat)
  case atStart => exact ⟨k, Nat.le_refl _, hk, rfl, rfl⟩
  case round =>
    obtain ⟨j, hj0, hj, rfl, H⟩ := hrel
    by_cases hlt : j < s.size
    · have HD : Hid (s.data.toList.drop j = s[j] :: s.data.toList.drop (j + 1)) := drop_cons s j hlt
      by_cases h1 : s[j].toNat = 32 ∨ s[j].toNat = 10 ∨ s[j].toNat = 9
      · have HN : Hid (Rd.skip (s.data.toList.drop (j + 1)) = Rd.skip (s.data.toList.drop k)) := by rw [Hid, ← H.out, HD.out, Rd.skip_blank _ _ h1]
        clear H HD
        rcases h1 with h1 | h1 | h1
        · have c1 := beqT _ 32 h1
          clear h1
          go_wp2
          go_round
          case rel => exact ⟨j + 1, by omega, by omega, by go_num, HN⟩
          case measure => simp [intOf]; omega
        · have c1 := beqF _ 32 (by omega : s[j].toNat ≠ 32)
          have c2 := beqT _ 10 h1
          clear h1
          go_wp2
          go_round
          case rel => exact ⟨j + 1, by omega, by omega, by go_num, HN⟩
          case measure => simp [intOf]; omega
        · have c1 := beqF _ 32 (by omega : s[j].toNat ≠ 32)
          have c2 := beqF _ 10 (by omega : s[j].toNat ≠ 10)
          have c3 := beqT _ 9 h1
          clear h1
          go_wp2
          go_round
          case rel => exact ⟨j + 1, by omega, by omega, by go_num, HN⟩
          case measure => simp [intOf]; omega
      · have c1 := beqF _ 32 (by omega : s[j].toNat ≠ 32)
        have c2 := beqF _ 10 (by omega : s[j].toNat ≠ 10)
        have c3 := beqF _ 9 (by omega : s[j].toNat ≠ 9)
        by_cases h2 : s[j].toNat = 59
        · have hl := Rd.dropLine_le (s.data.toList.drop j)
          rw [drop_len] at hl
          have hl2 : (Rd.dropLine (s.data.toList.drop j)).length < s.size - j := by
            rw [HD.out, Rd.dropLine, if_neg (by omega)]
            have := Rd.dropLine_le (s.data.toList.drop (j + 1))
            rw [drop_len] at this; omega
          have hsuf : Rd.dropLine (s.data.toList.drop j) = s.data.toList.drop (s.size - (Rd.dropLine (s.data.toList.drop j)).length) := by
            have this := Rd.of_suffix ((Rd.dropLine_suffix (s.data.toList.drop j)).trans (List.drop_suffix j _))
            simpa using this
          have HN : Hid (Rd.skip (s.data.toList.drop (s.size - (Rd.dropLine (s.data.toList.drop j)).length)) = Rd.skip (s.data.toList.drop k)) := by
            rw [Hid, ← hsuf, ← H.out]
            conv => rhs; rw [HD.out, Rd.skip_semi _ _ h2, ← HD.out]
          have c4 := beqT _ 59 h2
          clear h1 h2 H HD hsuf
          go_wp2_with (go_at_call 91; refine (lineEnd_any s j _ hj hs0).mono ?_; rintro e w' ⟨rfl, rfl⟩)
          generalize Rd.dropLine (s.data.toList.drop j) = dl at *
          go_round
          case rel => exact ⟨s.size - dl.length, by omega, by omega, rfl, HN⟩
          case measure => simp [intOf]; omega
        · have HN : Hid (Rd.skip (s.data.toList.drop j) = s.data.toList.drop j) := by rw [Hid, HD.out, Rd.skip_stop _ _ h1 h2]
          have c4 := beqF _ 59 h2
          clear h1 h2
          go_wp2
          go_ret
          refine ⟨ret_int ?_, rfl⟩
          rw [← H.out, HN.out, drop_len]
          omega
    · go_wp2
      go_ret
      refine ⟨ret_int ?_, rfl⟩
      rw [← H.out, drop_nil s j (by omega)]
      simp [Rd.skip, Rd.skipG]; omega
theorem indexByte_ge (l : List UInt8) (c : UInt8) : (0 ≤ Lib.indexByte l c ↔ c ∈ l) ∧ -1 ≤ Lib.indexByte l c := by
  induction l with
  | nil => simp [Lib.indexByte]
  | cons b l ih =>
    unfold Lib.indexByte
    by_cases h : b = c
    · simp [h]
    · have h' : (b == c) = false := by simpa using h
      have h'' : ¬ c = b := fun e => h e.symm
      rw [if_neg (by simp [h'])]
      by_cases hm : Lib.indexByte l c = -1
      · have : ¬ c ∈ l := fun hc => by have := ih.1.2 hc; omega
        simp [hm, h'', this]
      · have e1 : (Lib.indexByte l c == -1) = false := by simpa using hm
        rw [if_neg (by simp [e1])]
        have := ih.2
        have h0 : 0 ≤ Lib.indexByte l c := by omega
        have hm := ih.1.1 h0
        simp only [List.mem_cons, hm, or_true, iff_true]
        omega
def signIx (b : UInt8) : Int := Lib.indexByte Rd.signs b
theorem signIx_yes (b : UInt8) (h : Rd.signs.contains b = true) : 0 ≤ signIx b := (indexByte_ge _ _).1.2 (by simpa using h)
theorem signIx_no (b : UInt8) (h : Rd.signs.contains b = false) : signIx b < 0 := by
  have := (indexByte_ge Rd.signs b).1
  unfold signIx
  by_cases h0 : 0 ≤ Lib.indexByte Rd.signs b
  · exact absurd (this.1 h0) (by simpa using h)
  · omega
theorem index_signs (b : UInt8) (w : World) :
    Calls Tryz.prog 132 #[.string ⟨#[33, 36, 37, 38, 42, 47, 58, 60, 61, 62, 63, 94, 95, 126, 43, 45, 35]⟩, .int .u8 b.toNat] w fun e w' => e = .returned (.int .i64 (signIx b)) ∧ w' = w := by
  have h := Tryz.strings_IndexByte ⟨#[33, 36, 37, 38, 42, 47, 58, 60, 61, 62, 63, 94, 95, 126, 43, 45, 35]⟩ b.toNat w
  have e : ((b.toNat : Int)).toNat.toUInt8 = b := by simp
  rw [e] at h
  exact h
set_option maxHeartbeats 400000 in
theorem isWordByte_any (b : UInt8) (w : World) :
    Calls Tryz.prog 92 #[.int .u8 b.toNat] w fun e w' => e = .returned (.bool (Rd.isWord b)) ∧ w' = w := by
  cases hl : Rd.isLetter b
  · cases hd : Rd.isDigit b
    · cases hc : Rd.signs.contains b
      · have h0 := signIx_no b hc
        have HC : Hid (Rd.signs.contains b = false) := hc
        clear hc
        go_enter Tryz.func92, Tryz.ntmps92
        go_wp2_with (first | (go_at_call 130; refine (isLetter_any b _).mono ?_; rintro e w' ⟨rfl, rfl⟩) | (go_at_call 131; refine (isDigit_any b _).mono ?_; rintro e w' ⟨rfl, rfl⟩) | (go_at_call 132; refine (index_signs b _).mono ?_; rintro e w' ⟨rfl, rfl⟩))
        go_ret
        exact ⟨ret_bool (by rw [Rd.isWord, hl, hd, HC.out]; simp; try omega), rfl⟩
      · have h0 := signIx_yes b hc
        have HC : Hid (Rd.signs.contains b = true) := hc
        clear hc
        go_enter Tryz.func92, Tryz.ntmps92
        go_wp2_with (first | (go_at_call 130; refine (isLetter_any b _).mono ?_; rintro e w' ⟨rfl, rfl⟩) | (go_at_call 131; refine (isDigit_any b _).mono ?_; rintro e w' ⟨rfl, rfl⟩) | (go_at_call 132; refine (index_signs b _).mono ?_; rintro e w' ⟨rfl, rfl⟩))
        go_ret
        exact ⟨ret_bool (by rw [Rd.isWord, hl, hd, HC.out]; simp; try omega), rfl⟩
    · go_enter Tryz.func92, Tryz.ntmps92
      go_wp2_with (first | (go_at_call 130; refine (isLetter_any b _).mono ?_; rintro e w' ⟨rfl, rfl⟩) | (go_at_call 131; refine (isDigit_any b _).mono ?_; rintro e w' ⟨rfl, rfl⟩))
      go_ret
      exact ⟨ret_bool (by simp [Rd.isWord, hl, hd]), rfl⟩
  · go_enter Tryz.func92, Tryz.ntmps92
    go_wp2_with (first | (go_at_call 130; refine (isLetter_any b _).mono ?_; rintro e w' ⟨rfl, rfl⟩))
    go_ret
    exact ⟨ret_bool (by simp [Rd.isWord, hl]), rfl⟩
set_option maxHeartbeats 400000 in
theorem wordEnd_any (s : ByteArray) (k : Nat) (w : World) (hk : k ≤ s.size) (hs : s.size ≤ maxLen) :
    Calls Tryz.prog 43 #[.string s, .int .i64 k] w fun e w' => e = .returned (.int .i64 ((s.size - (Rd.dropWord (s.data.toList.drop k)).length : Nat) : Int)) ∧ w' = w := by
  unfold maxLen at hs
  go_enter Tryz.func43, Tryz.ntmps43
  go_wp2
  go_loop [1] (fun i => ∃ j : Nat, k ≤ j ∧ j ≤ s.size ∧ i = .int .i64 j ∧ Hid (Rd.dropWord (s.data.toList.drop j) = Rd.dropWord (s.data.toList.drop k))) (fun i => s.size - (intOf i).toNat)
  case atStart => exact ⟨k, Nat.le_refl _, hk, rfl, rfl⟩
  case round =>
    obtain ⟨j, hj0, hj, rfl, H⟩ := hrel
    by_cases hlt : j < s.size
    · have HD : Hid (s.data.toList.drop j = s[j] :: s.data.toList.drop (j + 1)) := drop_cons s j hlt
      cases hb : Rd.isWord s[j]
      · have HB : Hid (Rd.isWord s[j] = false) := hb
        go_wp2_with (go_at_call 92; refine (isWordByte_any _ _).mono ?_; rintro e w' ⟨rfl, rfl⟩)
        go_ret
        refine ⟨ret_int ?_, rfl⟩
        rw [← H.out, HD.out, Rd.dropWord, List.dropWhile_cons, HB.out, if_neg (by simp), ← HD.out, drop_len]
        omega
      · have HB : Hid (Rd.isWord s[j] = true) := hb
        go_wp2_with (go_at_call 92; refine (isWordByte_any _ _).mono ?_; rintro e w' ⟨rfl, rfl⟩)
        go_round
        case rel => exact ⟨j + 1, by omega, by omega, by go_num, by rw [Hid, ← H.out, HD.out, Rd.dropWord, Rd.dropWord, List.dropWhile_cons, HB.out, if_pos rfl]⟩
        case measure => simp [intOf]; omega
    · go_wp2
      go_ret
      refine ⟨ret_int ?_, rfl⟩
      rw [← H.out, drop_nil s j (by omega)]
      simp [Rd.dropWord]; omega
set_option maxHeartbeats 400000 in
theorem kindOf_any (b : UInt8) (w : World) :
    Calls Tryz.prog 42 #[.int .u8 b.toNat] w fun e w' => e = .returned (.int .i64 (Rd.kindOf b)) ∧ w' = w := by
  unfold Rd.kindOf
  by_cases h1 : b.toNat = 40
  · rw [if_pos h1]
    have c1 := beqT _ 40 h1
    clear h1
    go_enter Tryz.func42, Tryz.ntmps42
    go_wp2
    go_ret
    exact ⟨rfl, rfl⟩
  · rw [if_neg h1]
    have c1 := beqF _ 40 h1
    by_cases h2 : b.toNat = 41
    · rw [if_pos h2]
      have c2 := beqT _ 41 h2
      clear h1 h2
      go_enter Tryz.func42, Tryz.ntmps42
      go_wp2
      go_ret
      exact ⟨rfl, rfl⟩
    · rw [if_neg h2]
      have c2 := beqF _ 41 h2
      by_cases h3 : b.toNat = 46
      · rw [if_pos h3]
        have c3 := beqT _ 46 h3
        clear h1 h2 h3
        go_enter Tryz.func42, Tryz.ntmps42
        go_wp2
        go_ret
        exact ⟨rfl, rfl⟩
      · rw [if_neg h3]
        have c3 := beqF _ 46 h3
        by_cases h4 : b.toNat = 39
        · rw [if_pos h4]
          have c4 := beqT _ 39 h4
          clear h1 h2 h3 h4
          go_enter Tryz.func42, Tryz.ntmps42
          go_wp2
          go_ret
          exact ⟨rfl, rfl⟩
        · rw [if_neg h4]
          have c4 := beqF _ 39 h4
          clear h1 h2 h3 h4
          cases hb : Rd.isWord b
          · go_enter Tryz.func42, Tryz.ntmps42
            go_wp2_with (go_at_call 92; refine (isWordByte_any _ _).mono ?_; rintro e w' ⟨rfl, rfl⟩)
            go_ret
            exact ⟨by simp, rfl⟩
          · go_enter Tryz.func42, Tryz.ntmps42
            go_wp2_with (go_at_call 92; refine (isWordByte_any _ _).mono ?_; rintro e w' ⟨rfl, rfl⟩)
            go_ret
            exact ⟨by simp, rfl⟩
end Go.Proofs.YtodeeegbajgafaaGreatDoor

namespace Go.Proofs.YtodeeegbajgafaaGreatDoor
open Go.RowKit
/-- A token as a value of its struct: 'l' is what is left of a source of n bytes, its blanks dropped. -/
def tokV (n : Nat) (l : List UInt8) : Value := .agg #[.int .i64 (Rd.kindAt l : Nat), .int .i64 (n - l.length : Nat), .string ⟨(Rd.textOf l).toArray⟩]
theorem extract_take (s : ByteArray) (p m : Nat) : s.extract p (p + m) = ⟨((s.data.toList.drop p).take m).toArray⟩ := by
  apply ByteArray.ext
  apply Array.toList_inj.1
  simp
set_option maxHeartbeats 400000 in
theorem nextToken_any (s : ByteArray) (k : Nat) (w : World) (hk : k ≤ s.size) (hs : s.size ≤ maxLen) :
    Calls Tryz.prog 30 #[.string s, .int .i64 k] w fun e w' => e = .returned (tokV s.size (Rd.skip (s.data.toList.drop k))) ∧ Below w.heap.size w w' := by
  have hs0 := hs
  unfold maxLen at hs
  have hsuf := Rd.of_suffix ((Rd.skip_suffix (s.data.toList.drop k)).trans (List.drop_suffix k _))
  have hlen := Rd.skip_le (s.data.toList.drop k)
  rw [drop_len] at hlen
  have hsz : s.data.toList.length = s.size := by simp
  generalize hl : Rd.skip (s.data.toList.drop k) = l at *
  have HL : Hid (Rd.skip (s.data.toList.drop k) = l) := hl
  have HS : Hid (l = s.data.toList.drop (s.size - l.length)) := by rw [Hid, ← hsz]; exact hsuf
  clear hl hsuf hsz
  cases l with
  | nil =>
    clear HS
    have hc : ((s.size : Int) == (s.size : Int)) = true := by simp
    go_enter Tryz.func30, Tryz.ntmps30
    go_wp2_with (first | (go_at_call 41; refine (skipBlanks_any s k _ hk hs0).mono ?_; rintro e w' ⟨rfl, rfl⟩; rw [HL.out, show s.size - ([] : List UInt8).length = s.size from rfl]))
    exact bodyPost_ret (v := tokV s.size []) (by simp [results, Tryz.results30, go_sem, tokV, Rd.kindAt, Rd.textOf]) rfl ⟨rfl, (Below.refl _ _).alloc (Nat.le_refl _) _⟩
  | cons b r =>
    obtain ⟨p, hp⟩ : ∃ p, s.size - (b :: r).length = p := ⟨_, rfl⟩
    have hps : p < s.size := by simp only [List.length_cons] at hp hlen; omega
    have HB : Hid (s.data.toList.drop p = b :: r) := by rw [Hid, ← hp]; exact HS.out.symm
    have hb : s[p] = b := by
      have := drop_cons s p hps
      rw [HB.out] at this
      exact (List.cons.inj this).1.symm
    have HP : Hid (s.size - (b :: r).length = p) := hp
    have hc : ((p : Int) == (s.size : Int)) = false := by simp; omega
    clear hp HS hlen
    by_cases h5 : Rd.kindOf b = 5
    · have h5' : ((Rd.kindOf b : Int) == 5) = true := by simp [h5]
      have hw := Rd.dropWord_le (b :: r)
      have hw2 := Rd.behind_lt b r
      have hbe : Rd.behind (b :: r) = Rd.dropWord (b :: r) := by show (if _ then _ else _) = _; rw [if_pos h5]
      have htx := Rd.text_len (b :: r)
      rw [hbe] at hw2 htx
      have hlen : (b :: r).length = s.size - p := by rw [← HB.out, drop_len]
      have htake : Rd.textOf (b :: r) = (b :: r).take (Rd.textOf (b :: r)).length := by
        have := congrArg (List.take (Rd.textOf (b :: r)).length) (Rd.text_behind (b :: r))
        rw [List.take_left] at this
        exact this
      obtain ⟨m, hm⟩ : ∃ m, (Rd.textOf (b :: r)).length = m := ⟨_, rfl⟩
      rw [hm] at htake htx
      have hstop : s.size - (Rd.dropWord (b :: r)).length = p + m := by omega
      have hpm : p + m ≤ s.size := by omega
      have hres : Hid (tokV s.size (b :: r) = .agg #[.int .i64 (Rd.kindOf b : Nat), .int .i64 (p : Nat), .string (s.extract p (p + m))]) := by
        rw [Hid, tokV, HP.out, extract_take, HB.out, ← htake]; rfl
      have HT : Hid (s.size - (Rd.dropWord (b :: r)).length = p + m) := hstop
      clear htake htx hw2 hbe hlen hstop hm
      have H5 : Hid (Rd.kindOf b = 5) := h5
      clear h5
      go_enter Tryz.func30, Tryz.ntmps30
      go_wp2_with (first | (go_at_call 41; refine (skipBlanks_any s k _ hk hs0).mono ?_; rintro e w' ⟨rfl, rfl⟩; rw [HL.out, HP.out]) | (go_at_call 42; refine (kindOf_any _ _).mono ?_; rintro e w' ⟨rfl, rfl⟩) | (go_at_call 43; refine (wordEnd_any s p _ (by omega) hs0).mono ?_; rintro e w' ⟨rfl, rfl⟩; rw [HB.out, HT.out]))
      exact bodyPost_ret (v := tokV s.size (b :: r)) (by rw [hres.out]; simp [results, Tryz.results30, go_sem]) rfl ⟨rfl, (Below.refl _ _).alloc (Nat.le_refl _) _⟩
    · have h5' : ((Rd.kindOf b : Int) == 5) = false := by simp; omega
      have hres : Hid (tokV s.size (b :: r) = .agg #[.int .i64 (Rd.kindOf b : Nat), .int .i64 (p : Nat), .string (s.extract p (p + 1))]) := by
        rw [Hid, tokV, HP.out, extract_take, HB.out]
        have : Rd.textOf (b :: r) = [b] := by show (if _ then _ else _) = _; rw [if_neg h5]
        rw [this]; rfl
      clear h5
      go_enter Tryz.func30, Tryz.ntmps30
      go_wp2_with (first | (go_at_call 41; refine (skipBlanks_any s k _ hk hs0).mono ?_; rintro e w' ⟨rfl, rfl⟩; rw [HL.out, HP.out]) | (go_at_call 42; refine (kindOf_any _ _).mono ?_; rintro e w' ⟨rfl, rfl⟩))
      exact bodyPost_ret (v := tokV s.size (b :: r)) (by rw [hres.out]; simp [results, Tryz.results30, go_sem]) rfl ⟨rfl, (Below.refl _ _).alloc (Nat.le_refl _) _⟩
end Go.Proofs.YtodeeegbajgafaaGreatDoor
