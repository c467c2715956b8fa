/- Plain functions on lists of bytes: blanks, words and tokens of a source, as the document tells them. Plain functions on lists of bytes: a source's tokens. -/
namespace Go.Proofs.YtodeeegbajgafaaGreatDoor
namespace Rd
def isLetter (b : UInt8) : Bool := (97 ≤ b.toNat && b.toNat ≤ 122) || (65 ≤ b.toNat && b.toNat ≤ 90)
def isDigit (b : UInt8) : Bool := 48 ≤ b.toNat && b.toNat ≤ 57
def signs : List UInt8 := [33, 36, 37, 38, 42, 47, 58, 60, 61, 62, 63, 94, 95, 126, 43, 45, 35]
def isWord (b : UInt8) : Bool := isLetter b || isDigit b || signs.contains b
/-- Behind the line's end, from within a comment. -/
def dropLine : List UInt8 → List UInt8
  | [] => []
  | b :: l => if b.toNat = 10 then b :: l else dropLine l
/-- Blanks and comments dropped. 'c': within a comment. -/
def skipG : Bool → List UInt8 → List UInt8
  | _, [] => []
  | true, b :: l => if b.toNat = 10 then skipG false l else skipG true l
  | false, b :: l => if b.toNat = 32 ∨ b.toNat = 10 ∨ b.toNat = 9 then skipG false l else if b.toNat = 59 then skipG true l else b :: l
def skip (l : List UInt8) : List UInt8 := skipG false l
def dropWord (l : List UInt8) : List UInt8 := l.dropWhile isWord
/-- The kind that a first byte begins: 1 open, 2 shut, 3 dot, 4 quote, 5 word, 6 stray. -/
def kindOf (b : UInt8) : Nat :=
  if b.toNat = 40 then 1 else if b.toNat = 41 then 2 else if b.toNat = 46 then 3 else if b.toNat = 39 then 4 else if isWord b then 5 else 6
theorem skipG_dropLine (l : List UInt8) : skipG false (dropLine l) = skipG true l := by
  induction l with
  | nil => rfl
  | cons b l ih =>
    unfold dropLine
    by_cases h : b.toNat = 10
    · simp [h, skipG]
    · rw [if_neg h, ih]; simp [skipG, h]
theorem skip_blank (b : UInt8) (l : List UInt8) (h : b.toNat = 32 ∨ b.toNat = 10 ∨ b.toNat = 9) : skip (b :: l) = skip l := by simp [skip, skipG, h]
theorem skip_semi (b : UInt8) (l : List UInt8) (h : b.toNat = 59) : skip (b :: l) = skip (dropLine (b :: l)) := by
  unfold skip
  rw [skipG_dropLine]
  simp [skipG, h]
theorem skip_stop (b : UInt8) (l : List UInt8) (h : ¬ (b.toNat = 32 ∨ b.toNat = 10 ∨ b.toNat = 9)) (h' : b.toNat ≠ 59) : skip (b :: l) = b :: l := by simp [skip, skipG, h, h']
theorem skipG_le (c : Bool) (l : List UInt8) : (skipG c l).length ≤ l.length := by
  induction l generalizing c with
  | nil => cases c <;> simp [skipG]
  | cons b l ih =>
    cases c <;> unfold skipG
    · split
      · have := ih false; simp; omega
      · split
        · have := ih true; simp; omega
        · simp
    · split
      · have := ih false; simp; omega
      · have := ih true; simp; omega
theorem skip_le (l : List UInt8) : (skip l).length ≤ l.length := skipG_le false l
theorem dropLine_le (l : List UInt8) : (dropLine l).length ≤ l.length := by
  induction l with
  | nil => simp [dropLine]
  | cons b l ih => unfold dropLine; split <;> simp; omega
theorem dropWord_le (l : List UInt8) : (dropWord l).length ≤ l.length := by
  unfold dropWord
  induction l with
  | nil => simp
  | cons b l ih => rw [List.dropWhile_cons]; split <;> simp; omega
/-- What is left of a list that has been dropped from: a suffix. -/
theorem skipG_suffix (c : Bool) (l : List UInt8) : skipG c l <:+ l := by
  induction l generalizing c with
  | nil => cases c <;> simp [skipG]
  | cons b l ih =>
    cases c <;> unfold skipG
    · split
      · exact (ih false).trans (List.suffix_cons _ _)
      · split
        · exact (ih true).trans (List.suffix_cons _ _)
        · exact List.suffix_refl _
    · split
      · exact (ih false).trans (List.suffix_cons _ _)
      · exact (ih true).trans (List.suffix_cons _ _)
theorem skip_suffix (l : List UInt8) : skip l <:+ l := skipG_suffix false l
theorem dropLine_suffix (l : List UInt8) : dropLine l <:+ l := by
  induction l with
  | nil => exact List.suffix_refl _
  | cons b l ih =>
    unfold dropLine
    split
    · exact List.suffix_refl _
    · exact ih.trans (List.suffix_cons _ _)
theorem of_suffix {l L : List UInt8} (h : l <:+ L) : l = L.drop (L.length - l.length) := by
  rw [List.suffix_iff_eq_drop] at h; exact h
end Rd
end Go.Proofs.YtodeeegbajgafaaGreatDoor

namespace Go.Proofs.YtodeeegbajgafaaGreatDoor
namespace Rd
/-- The token that a text without blanks ahead begins with: its bytes. -/
def textOf : List UInt8 → List UInt8
  | [] => []
  | b :: r => if kindOf b = 5 then (b :: r).takeWhile isWord else [b]
/-- Its kind: 0 where nothing is left. -/
def kindAt : List UInt8 → Nat
  | [] => 0
  | b :: _ => kindOf b
/-- What lies behind it. -/
def behind : List UInt8 → List UInt8
  | [] => []
  | b :: r => if kindOf b = 5 then dropWord (b :: r) else r
theorem kindOf_word (b : UInt8) (h : kindOf b = 5) : isWord b = true := by
  unfold kindOf at h
  split at h
  · cases h
  · split at h
    · cases h
    · split at h
      · cases h
      · split at h
        · cases h
        · split at h
          · assumption
          · cases h
theorem text_behind (l : List UInt8) : textOf l ++ behind l = l := by
  cases l with
  | nil => rfl
  | cons b r =>
    show (if kindOf b = 5 then (b :: r).takeWhile isWord else [b]) ++ (if kindOf b = 5 then dropWord (b :: r) else r) = _
    split
    · exact List.takeWhile_append_dropWhile
    · rfl
theorem text_len (l : List UInt8) : (textOf l).length + (behind l).length = l.length := by
  rw [← List.length_append, text_behind]
theorem behind_suffix (l : List UInt8) : behind l <:+ l := ⟨textOf l, text_behind l⟩
theorem behind_lt (b : UInt8) (r : List UInt8) : (behind (b :: r)).length < (b :: r).length := by
  show (if kindOf b = 5 then dropWord (b :: r) else r).length < _
  split
  · rename_i h
    have := kindOf_word b h
    unfold dropWord
    rw [List.dropWhile_cons, if_pos this]
    have := dropWord_le r
    unfold dropWord at this
    simp; omega
  · simp
end Rd
end Go.Proofs.YtodeeegbajgafaaGreatDoor
