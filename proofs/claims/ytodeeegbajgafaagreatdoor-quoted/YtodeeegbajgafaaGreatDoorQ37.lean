/- What is printed of a source is not much longer than the source. Printing any source, whatever it is. What is printed reads back. How many parts a datum has, and Show of any datum. The maker of data: what it makes is written as it is read, and short. -/
import Derived.Test.YtodeeegbajgafaaGreatDoorQ36
import Derived.Test.YtodeeegbajgafaaGreatDoorQ29
import Derived.Test.YtodeeegbajgafaaGreatDoorQ34
import Derived.Test.YtodeeegbajgafaaGreatDoorQ28
import Derived.Lib.ItoaLen
import Derived.Lib.ItoaMem
namespace Go.Proofs.YtodeeegbajgafaaGreatDoor
open Mc
def Short {α : Type} (l : List UInt8) (sz : α → Nat) : Rd.RR α → Prop
  | .ok a l' _ => sz a + 22 * l'.length ≤ 22 * l.length
  | .bad _ => True
theorem atom_len (l : List UInt8) (a : Rd.A) (h : Rd.atomOf l = some a) : (shA a).length + 1 ≤ 22 * l.length := by
  have h0 : 0 < l.length := by
    cases l with
    | nil => simp [Rd.atomOf] at h
    | cons b r => simp
  have hok := atom_okA l a h
  cases a with
  | num n =>
    have := Lib.itoa_length_le n hok.1 hok.2
    show (Lib.itoa n).length + 1 ≤ _
    omega
  | truth b => cases b <;> (simp only [shA, List.length_cons, List.length_nil]; omega)
  | sym t =>
    have : t = l := by
      unfold Rd.atomOf at h
      split at h
      · cases h
      · split at h
        · cases h
        · split at h
          · cases h
          · split at h
            · cases h
            · split at h
              · split at h
                · cases h
                · cases h
              · cases h; rfl
    subst this
    simp only [shA]
    omega
  | empty => simp only [shA, List.length_cons, List.length_nil]; omega
theorem shE_le (a : Rd.A) : (shE a).length ≤ (shA a).length + 4 := by cases a <;> simp [shE, shA]
theorem shP_le (ds tds : List Rd.D) (en : Rd.A) : (shP (ds ++ tds) en).length ≤ (shL ds).length + (shP tds en).length + 4 := by
  cases ds with
  | nil => simp [shL]
  | cons d ds =>
    have h := shE_le en
    cases tds with
    | nil =>
      rw [List.append_nil, shP, shP, shL]
      simp only [List.length_cons, List.length_append]
      omega
    | cons e es =>
      rw [List.cons_append, shP, shP, shL, shL_app, shL]
      simp only [List.length_cons, List.length_append]
      omega
theorem len_all : ∀ (f : Nat), (∀ n dep l, Short l (fun d : Rd.D => (shD d).length + 1) (Rd.tD f n dep l)) ∧ (∀ n dep l, Short l (fun ds : List Rd.D => (shL ds).length) (Rd.tL f n dep l))
  | 0 => ⟨fun _ _ l => by rw [Rd.tD]; trivial, fun _ _ l => by rw [Rd.tL]; trivial⟩
  | f + 1 => by
    obtain ⟨h1, h2⟩ := len_all f
    refine ⟨fun n dep l => ?_, fun n dep l => ?_⟩
    · rw [Rd.tD]
      split
      · rename_i hk
        have hl := Rd.next_lt (l := l) (by omega)
        split
        · rename_i a ha
          have h9 := Rd.text_len l
          have h8 := Rd.skip_le (Rd.behind l)
          have h7 := atom_len _ _ ha
          show (shD (.mk _ [] a)).length + 1 + 22 * _ ≤ _
          rw [shD, shP]
          omega
        · trivial
      · split
        · rename_i hk
          have hl := Rd.next_lt (l := l) (by omega)
          have := h1 n (dep + 1) (Rd.skip (Rd.behind l))
          revert this
          generalize Rd.tD f n (dep + 1) (Rd.skip (Rd.behind l)) = r
          cases r with
          | bad l' => exact fun _ => trivial
          | ok d l' m =>
            intro b
            have b : (shD d).length + 1 + 22 * l'.length ≤ 22 * _ := b
            show (shD (Rd.quoteD _ d)).length + 1 + 22 * _ ≤ _
            simp only [Rd.quoteD, shD, shP, shL, shE, shA, Rd.kwQuote, List.length_cons, List.length_append, List.length_nil]
            omega
        · split
          · rename_i hk
            have hl := Rd.next_lt (l := l) (by omega)
            have := h2 n (dep + 1) (Rd.skip (Rd.behind l))
            revert this
            generalize Rd.tL f n (dep + 1) (Rd.skip (Rd.behind l)) = r
            cases r with
            | bad l' => exact fun _ => trivial
            | ok ds l' m =>
              intro b
              have b : (shL ds).length + 22 * l'.length ≤ 22 * _ := b
              simp only
              split
              · rename_i h3
                have hl2 := Rd.next_lt (l := l') (by omega)
                have := h1 n (dep + 1) (Rd.skip (Rd.behind l'))
                revert this
                generalize Rd.tD f n (dep + 1) (Rd.skip (Rd.behind l')) = r2
                cases r2 with
                | bad l'' => exact fun _ => trivial
                | ok t l'' m' =>
                  intro b'
                  have b' : (shD t).length + 1 + 22 * l''.length ≤ 22 * _ := b'
                  unfold Rd.shutT
                  simp only
                  split
                  · rename_i h4
                    have hl3 := Rd.next_lt (l := l'') (by omega)
                    obtain ⟨tp, tds, ten⟩ := t
                    rw [shD] at b'
                    show (shD (.mk _ (ds ++ tds) ten)).length + 1 + 22 * _ ≤ _
                    rw [shD]
                    have h6 := shP_le ds tds ten
                    omega
                  · trivial
              · unfold Rd.shutL
                split
                · rename_i h4
                  have hl3 := Rd.next_lt (l := l') (by omega)
                  show (shD (.mk _ ds .empty)).length + 1 + 22 * _ ≤ _
                  rw [shD]
                  have h6 := shP_le ds [] .empty
                  rw [List.append_nil, shP] at h6
                  simp [shA] at h6
                  omega
                · trivial
          · trivial
    · rw [Rd.tL]
      split
      · have := h1 n dep l
        revert this
        generalize Rd.tD f n dep l = r
        cases r with
        | bad l' => exact fun _ => trivial
        | ok d l' m =>
          intro b
          have b : (shD d).length + 1 + 22 * l'.length ≤ 22 * _ := b
          simp only
          have := h2 n dep l'
          revert this
          generalize Rd.tL f n dep l' = r2
          cases r2 with
          | bad l'' => exact fun _ => trivial
          | ok ds l'' m' =>
            intro b'
            have b' : (shL ds).length + 22 * l''.length ≤ 22 * _ := b'
            show (shL (d :: ds)).length + 22 * _ ≤ _
            rw [shL, List.length_cons, List.length_append]
            omega
      · show (shL []).length + 22 * _ ≤ _
        rw [shL]
        simp
theorem prT_len : ∀ (ds : List Rd.D), (prT ds).length = (shL ds).length
  | [] => by rw [prT, shL]
  | d :: ds => by
    have := prT_len ds
    rw [prT, shL]
    simp only [List.length_cons, List.length_append]
    omega
/-- What is printed of a source is short. -/
theorem readT_short (s : ByteArray) (ds : List Rd.D) (h : Rd.readT s = .ok ds) : (prT ds).length ≤ 11000 := by
  unfold Rd.readT at h
  split at h
  · cases h
  · have hl : (Rd.skip s.data.toList).length ≤ s.size := by have := (Rd.skip_suffix s.data.toList).length_le; simpa using this
    have := (len_all 1002).2 s.size 0 (Rd.skip s.data.toList)
    revert h this
    generalize Rd.tL 1002 s.size 0 (Rd.skip s.data.toList) = r
    cases r with
    | bad l' => intro h; cases h
    | ok ds' l' m =>
      rw [Rd.readOf]
      intro h hs
      have hs : (shL ds').length + 22 * l'.length ≤ 22 * _ := hs
      split at h
      · split at h
        · cases h
        · cases h
          rw [prT_len]
          omega
      · cases h
end Go.Proofs.YtodeeegbajgafaaGreatDoor

namespace Go.Proofs.YtodeeegbajgafaaGreatDoor
open Go.RowKit
open Mc
def PrintR (r : Rd.RQ) (w : World) : Ending → World → Prop := fun e w' => (match r with
  | .ok ds => e = .returned (.tuple #[.string ⟨(prT ds).toArray⟩, .int .i64 0, .int .i64 0])
  | .no n p => e = .returned (.tuple #[.string ⟨#[]⟩, .int .i64 n, .int .i64 p])) ∧ Below w.heap.size w w'
theorem readT_no (s : ByteArray) (n p : Nat) (h : Rd.readT s = .no n p) : n ≠ 0 ∧ p ≤ s.size := by
  unfold Rd.readT at h
  split at h
  · cases h; exact ⟨by omega, by omega⟩
  · revert h
    generalize Rd.tL 1002 s.size 0 (Rd.skip s.data.toList) = r
    cases r with
    | bad l' => intro h; cases h; exact ⟨by omega, by omega⟩
    | ok ds l' m =>
      rw [Rd.readOf]
      intro h
      split at h
      · split at h
        · cases h; exact ⟨by omega, by omega⟩
        · cases h
      · cases h; exact ⟨by omega, by omega⟩
theorem print_t (s : ByteArray) (w : World) (hE : ErrsAt w) (ht : Tab w.heap.size w) : Calls Tryz.prog 12 #[.string s] w (PrintR (Rd.readT s) w) := by
  have hR := read_t s w hE
  cases h : Rd.readT s with
  | no n p =>
    rw [h] at hR
    exact (print_no s w n p (readT_no s n p h).1 hR).mono fun _ _ h => h
  | ok ds =>
    rw [h] at hR
    have h1 := readT_small s ds h
    have h2 := readT_short s ds h
    exact (print_ok s w ds hR h1.1 (by omega) (by omega) ht).mono fun _ _ h => h
end Go.Proofs.YtodeeegbajgafaaGreatDoor

namespace Go.Proofs.YtodeeegbajgafaaGreatDoor
namespace Rd
theorem kind_word (b : UInt8) (h : isWord b = true) : kindOf b = 5 := by
  unfold kindOf
  have h40 : b.toNat ≠ 40 := fun e => by rw [show b = 40 from UInt8.toNat.inj e] at h; exact absurd h (by decide)
  have h41 : b.toNat ≠ 41 := fun e => by rw [show b = 41 from UInt8.toNat.inj e] at h; exact absurd h (by decide)
  have h46 : b.toNat ≠ 46 := fun e => by rw [show b = 46 from UInt8.toNat.inj e] at h; exact absurd h (by decide)
  have h39 : b.toNat ≠ 39 := fun e => by rw [show b = 39 from UInt8.toNat.inj e] at h; exact absurd h (by decide)
  rw [if_neg h40, if_neg h41, if_neg h46, if_neg h39, if_pos h]
theorem skip_word (b : UInt8) (r : List UInt8) (h : isWord b = true) : skip (b :: r) = b :: r := by
  have h32 : b.toNat ≠ 32 := fun e => by rw [show b = 32 from UInt8.toNat.inj e] at h; exact absurd h (by decide)
  have h10 : b.toNat ≠ 10 := fun e => by rw [show b = 10 from UInt8.toNat.inj e] at h; exact absurd h (by decide)
  have h9 : b.toNat ≠ 9 := fun e => by rw [show b = 9 from UInt8.toNat.inj e] at h; exact absurd h (by decide)
  have h59 : b.toNat ≠ 59 := fun e => by rw [show b = 59 from UInt8.toNat.inj e] at h; exact absurd h (by decide)
  exact skip_stop b r (fun h => h.elim h32 (fun h => h.elim h10 h9)) h59
/-- Nothing of a word goes on here. -/
def Stop : List UInt8 → Prop
  | [] => True
  | b :: _ => isWord b = false
theorem take_stop : ∀ (l r : List UInt8), l.all isWord = true → Stop r → (l ++ r).takeWhile isWord = l
  | [], [], _, _ => rfl
  | [], b :: r, _, h => by
    rw [List.nil_append, List.takeWhile_cons, if_neg (by rw [show isWord b = false from h]; exact Bool.false_ne_true)]
  | b :: l, r, hl, h => by
    rw [List.all_cons, Bool.and_eq_true] at hl
    rw [List.cons_append, List.takeWhile_cons, if_pos hl.1, take_stop l r hl.2 h]
theorem drop_stop : ∀ (l r : List UInt8), l.all isWord = true → Stop r → dropWord (l ++ r) = r
  | [], [], _, _ => rfl
  | [], b :: r, _, h => by
    unfold dropWord
    rw [List.nil_append, List.dropWhile_cons, if_neg (by rw [show isWord b = false from h]; exact Bool.false_ne_true)]
  | b :: l, r, hl, h => by
    rw [List.all_cons, Bool.and_eq_true] at hl
    have := drop_stop l r hl.2 h
    unfold dropWord at this ⊢
    rw [List.cons_append, List.dropWhile_cons, if_pos hl.1, this]
/-- A word that reads as this atom. -/
structure Wd (l : List UInt8) (a : A) : Prop where
  ne : l ≠ []
  all : l.all isWord = true
  atom : atomOf l = some a
theorem Wd.head {l : List UInt8} {a : A} (h : Wd l a) : ∃ b r, l = b :: r ∧ isWord b = true := by
  cases l with
  | nil => exact absurd rfl h.ne
  | cons b r =>
    have := h.all
    rw [List.all_cons, Bool.and_eq_true] at this
    exact ⟨b, r, rfl, this.1⟩
theorem Wd.kind {l : List UInt8} {a : A} (h : Wd l a) (r : List UInt8) : kindAt (l ++ r) = 5 := by
  obtain ⟨b, t, rfl, hb⟩ := h.head
  exact kind_word b hb
theorem Wd.skip {l : List UInt8} {a : A} (h : Wd l a) (r : List UInt8) : skip (l ++ r) = l ++ r := by
  obtain ⟨b, t, rfl, hb⟩ := h.head
  exact skip_word b _ hb
theorem Wd.text {l : List UInt8} {a : A} (h : Wd l a) (r : List UInt8) (hr : Stop r) : textOf (l ++ r) = l ∧ behind (l ++ r) = r := by
  have h1 := take_stop l r h.all hr
  have h2 := drop_stop l r h.all hr
  obtain ⟨b, t, rfl, hb⟩ := h.head
  rw [List.cons_append] at h1 h2 ⊢
  rw [textOf, behind, if_pos (kind_word b hb), if_pos (kind_word b hb)]
  exact ⟨h1, h2⟩
/-- A number's digits read back. -/
theorem digits_all : ∀ (u : Nat), (Lib.decDigits u).all isWord = true := by
  intro u
  rw [Lib.decDigits_eq, List.all_map, List.all_eq_true]
  intro t _
  have : ∀ k : Fin 10, isWord (UInt8.ofNat (48 + k.val)) = true := by decide +kernel
  exact this ⟨_, Nat.mod_lt _ (by omega)⟩
theorem uint_digits (M : Nat) : ∀ (u : Nat) (r : List UInt8), u ≤ M → u < 18446744073709551616 → Lib.parseUintM M 0 (Lib.decDigits u ++ r) = Lib.parseUintM M u r := by
  intro u
  induction u using Nat.strongRecOn with
  | _ u ih =>
    intro r hM h
    by_cases h10 : u < 10
    · rw [Lib.decDigits_one h10]
      have ht : (UInt8.ofNat (48 + u)).toNat = 48 + u := by
        show (48 + u) % 256 = _
        omega
      rw [List.singleton_append, Lib.parseUintM, ht, if_pos (by omega), if_neg (by omega), if_neg (by omega)]
      congr 1
      omega
    · have ht : (UInt8.ofNat (48 + u % 10)).toNat = 48 + u % 10 := by
        show (48 + u % 10) % 256 = _
        omega
      rw [Lib.decDigits, dif_neg h10, List.append_assoc, ih (u / 10) (by omega) _ (by omega) (by omega), List.singleton_append, Lib.parseUintM, ht, if_pos (by omega), if_neg (by omega), if_neg (by omega)]
      congr 1
      omega
theorem digit_head (u : Nat) : ∃ b r, Lib.decDigits u = b :: r ∧ 48 ≤ b.toNat ∧ b.toNat ≤ 57 := by
  have hl := Lib.decDigits_length u
  have hp := Lib.nDigits_pos u
  cases h : Lib.decDigits u with
  | nil => rw [h] at hl; simp at hl; omega
  | cons b r =>
    refine ⟨b, r, rfl, ?_⟩
    rw [Lib.decDigits_eq] at h
    have hb : b ∈ (List.range (Lib.nDigits u)).map fun t => Lib.dg u (Lib.nDigits u - 1 - t) := by rw [h]; exact List.mem_cons_self
    obtain ⟨t, _, rfl⟩ := List.mem_map.mp hb
    have : ∀ k : Fin 10, 48 ≤ (UInt8.ofNat (48 + k.val)).toNat ∧ (UInt8.ofNat (48 + k.val)).toNat ≤ 57 := by decide +kernel
    exact this ⟨_, Nat.mod_lt _ (by omega)⟩
theorem int_digits (n : Int) (h0 : -9223372036854775808 ≤ n) (h1 : n ≤ 9223372036854775807) : Lib.parseIntB 64 (Lib.itoa n) = .ok n := by
  by_cases hn : 0 ≤ n
  · obtain ⟨u, rfl⟩ := Int.eq_ofNat_of_zero_le hn
    show Lib.parseIntB 64 (Lib.itoa (u : Int)) = .ok (u : Int)
    rw [Lib.itoa_nonneg]
    have hu := uint_digits (2 ^ 64 - 1) u [] (by omega) (by omega)
    rw [List.append_nil, Lib.parseUintM] at hu
    obtain ⟨b, r, e, hb⟩ := digit_head u
    rw [e] at hu ⊢
    unfold Lib.parseIntB
    simp only
    rw [if_neg (by omega), Lib.parseUintB, if_neg (by simp), hu]
    simp only
    rw [if_neg (by omega), if_neg (by omega), if_neg (by omega)]
  · obtain ⟨u, hu⟩ := Int.eq_ofNat_of_zero_le (a := -n) (by omega)
    obtain rfl : n = -(u : Int) := by omega
    rw [Lib.itoa_neg u (by omega)]
    have hu := uint_digits (2 ^ 64 - 1) u [] (by omega) (by omega)
    rw [List.append_nil, Lib.parseUintM] at hu
    obtain ⟨b, r, e, hb⟩ := digit_head u
    unfold Lib.parseIntB
    simp only
    rw [if_pos (by right; rfl), Lib.parseUintB, if_neg (by rw [e]; simp), hu]
    simp only
    rw [if_neg (fun h => h.1 rfl), if_neg (by omega), if_pos (by rfl)]
theorem wd_num (n : Int) (h0 : -9223372036854775808 ≤ n) (h1 : n ≤ 9223372036854775807) : Wd (Lib.itoa n) (.num n) := by
  have hi := int_digits n h0 h1
  by_cases hn : 0 ≤ n
  · obtain ⟨u, rfl⟩ := Int.eq_ofNat_of_zero_le hn
    have e0 := Lib.itoa_nonneg u
    obtain ⟨b, r, e, hb⟩ := digit_head u
    have ha := digits_all u
    rw [e0] at hi ⊢
    rw [e] at hi ha ⊢
    refine ⟨by simp, ha, ?_⟩
    have h35 : b ≠ 35 := fun h => by rw [h] at hb; exact absurd hb.1 (by decide)
    have h45 : b ≠ 45 := fun h => by rw [h] at hb; exact absurd hb.1 (by decide)
    unfold atomOf
    rw [if_neg (fun h => h35 (List.cons.inj h).1), if_neg (fun h => h35 (List.cons.inj h).1)]
    simp only
    have hbn : beginsNum (b :: r) = true := by
      have : Lib.trimPrefix (b :: r) [45] = b :: r := by simp [Lib.trimPrefix, Lib.hasPrefix, Ne.symm h45]
      unfold beginsNum
      rw [this]
      simp [isDigit, hb.1, hb.2]
    rw [if_neg (by omega), if_pos hbn, hi]
  · obtain ⟨u, hu⟩ := Int.eq_ofNat_of_zero_le (a := -n) (by omega)
    obtain rfl : n = -(u : Int) := by omega
    have e0 := Lib.itoa_neg u (by omega)
    obtain ⟨b, r, e, hb⟩ := digit_head u
    have ha := digits_all u
    rw [e0] at hi ⊢
    rw [e] at hi ha ⊢
    refine ⟨by simp, by rw [List.all_cons, ha]; rfl, ?_⟩
    unfold atomOf
    rw [if_neg (fun h => absurd (List.cons.inj h).1 (by decide)), if_neg (fun h => absurd (List.cons.inj h).1 (by decide))]
    simp only
    have hbn : beginsNum (45 :: b :: r) = true := by
      have : Lib.trimPrefix (45 :: b :: r) [45] = b :: r := by simp [Lib.trimPrefix, Lib.hasPrefix]
      unfold beginsNum
      rw [this]
      simp [isDigit, hb.1, hb.2]
    rw [if_neg (by decide), if_pos hbn, hi]
end Rd
open Mc
/-- An atom that is written as a word that reads as it. -/
def GA (a : Rd.A) : Prop := Rd.Wd (shA a) a
mutual
/-- Data that are written as they are read. -/
def GD : Rd.D → Prop
  | .mk _ ds en => (en = .empty ∨ GA en) ∧ GL ds
def GL : List Rd.D → Prop
  | [] => True
  | d :: ds => GD d ∧ GL ds
end
mutual
/-- How deep a datum's text is. -/
def dpD : Rd.D → Nat
  | .mk _ ds en => dpP ds en
def dpP : List Rd.D → Rd.A → Nat
  | [], .empty => 1
  | [], _ => 0
  | d :: ds, _ => 1 + max (dpD d) (dpL ds)
def dpL : List Rd.D → Nat
  | [] => 0
  | d :: ds => max (dpD d) (dpL ds)
end
theorem dpP_le (ds : List Rd.D) (en : Rd.A) : dpP ds en ≤ 1 + dpL ds := by
  cases ds with
  | nil => cases en <;> simp [dpP]
  | cons d ds => rw [dpP, dpL]; exact Nat.le_refl _
theorem dpP_ge (ds : List Rd.D) (en : Rd.A) : ds = [] ∨ 1 + dpL ds = dpP ds en := by
  cases ds with
  | nil => exact .inl rfl
  | cons d ds => rw [dpP, dpL]; exact .inr rfl
theorem dpL_app : ∀ (a b : List Rd.D), dpL (a ++ b) = max (dpL a) (dpL b)
  | [], b => by rw [List.nil_append, dpL]; omega
  | d :: a, b => by rw [List.cons_append, dpL, dpL_app a b, dpL]; omega
theorem GL_app : ∀ (a b : List Rd.D), GL a → GL b → GL (a ++ b)
  | [], b, _, h => h
  | d :: a, b, h, k => by
    rw [GL] at h
    rw [List.cons_append, GL]
    exact ⟨h.1, GL_app a b h.2 k⟩
theorem atom_GA (l : List UInt8) (a : Rd.A) (hl : l.all Rd.isWord = true) (h : Rd.atomOf l = some a) : GA a := by
  have h0 : l ≠ [] := fun e => by subst e; simp [Rd.atomOf] at h
  have hok := atom_okA l a h
  cases a with
  | num n => exact Rd.wd_num n hok.1 hok.2
  | truth b => cases b <;> exact ⟨by simp [shA], by decide, by rfl⟩
  | sym t =>
    have : t = l := by
      unfold Rd.atomOf at h
      split at h
      · cases h
      · split at h
        · cases h
        · split at h
          · cases h
          · split at h
            · cases h
            · split at h
              · split at h
                · cases h
                · cases h
              · cases h; rfl
    subst this
    exact ⟨h0, hl, h⟩
  | empty =>
    exfalso
    unfold Rd.atomOf at h
    split at h
    · cases h
    · split at h
      · cases h
      · split at h
        · cases h
        · split at h
          · cases h
          · split at h
            · split at h
              · cases h
              · cases h
            · cases h
/-- What is read is written as it is read, and no deeper than it was. -/
def Good {α : Type} (dep : Nat) (g : α → Prop) (dp : α → Nat) : Rd.RR α → Prop
  | .ok a _ m => g a ∧ (dp a = 0 ∨ dep + dp a ≤ m)
  | .bad _ => True
theorem text_all (l : List UInt8) (h : Rd.kindAt l = 5) : (Rd.textOf l).all Rd.isWord = true := by
  cases l with
  | nil => cases h
  | cons b r =>
    have hb : Rd.kindOf b = 5 := h
    rw [Rd.textOf, if_pos hb]
    exact List.all_takeWhile
theorem kn {l : List UInt8} (k : Nat) {j : Nat} (h : Rd.kindAt l = k) (hk : k ≠ j) : ¬ Rd.kindAt l = j := fun e => hk (h.symm.trans e)
theorem quote_wd : GA (.sym Rd.kwQuote) := ⟨by simp [shA, Rd.kwQuote], by decide, by rfl⟩
theorem good_all : ∀ (f : Nat), (∀ n dep l, Good dep GD dpD (Rd.tD f n dep l)) ∧ (∀ n dep l, Good dep GL dpL (Rd.tL f n dep l))
  | 0 => ⟨fun _ _ l => by rw [Rd.tD]; trivial, fun _ _ l => by rw [Rd.tL]; trivial⟩
  | f + 1 => by
    obtain ⟨h1, h2⟩ := good_all f
    refine ⟨fun n dep l => ?_, fun n dep l => ?_⟩
    · rw [Rd.tD]
      split
      · rename_i hk
        split
        · rename_i a ha
          have hg := atom_GA _ a (text_all l hk) ha
          refine ⟨by rw [GD, GL]; exact ⟨.inr hg, trivial⟩, .inl ?_⟩
          rw [dpD]
          cases a with
          | empty => exact absurd hg.atom (by decide)
          | _ => rfl
        · trivial
      · split
        · rename_i hk
          have := h1 n (dep + 1) (Rd.skip (Rd.behind l))
          revert this
          generalize Rd.tD f n (dep + 1) (Rd.skip (Rd.behind l)) = r
          cases r with
          | bad l' => exact fun _ => trivial
          | ok d l' m =>
            rintro ⟨a, b⟩
            refine ⟨?_, .inr ?_⟩
            · simp only [Rd.quoteD, GD, GL]
              exact ⟨.inl trivial, ⟨.inr quote_wd, trivial⟩, a, trivial⟩
            · simp only [Rd.quoteD, dpD, dpP, dpL]
              omega
        · split
          · rename_i hk
            have := h2 n (dep + 1) (Rd.skip (Rd.behind l))
            revert this
            generalize Rd.tL f n (dep + 1) (Rd.skip (Rd.behind l)) = r
            cases r with
            | bad l' => exact fun _ => trivial
            | ok ds l' m =>
              rintro ⟨a, b⟩
              simp only
              split
              · rename_i h3
                have := h1 n (dep + 1) (Rd.skip (Rd.behind l'))
                revert this
                generalize Rd.tD f n (dep + 1) (Rd.skip (Rd.behind l')) = r2
                cases r2 with
                | bad l'' => exact fun _ => trivial
                | ok t l'' m' =>
                  rintro ⟨a', b'⟩
                  unfold Rd.shutT
                  simp only
                  split
                  · obtain ⟨tp, tds, ten⟩ := t
                    rw [GD] at a'
                    rw [dpD] at b'
                    refine ⟨?_, .inr ?_⟩
                    · show GD (.mk _ (ds ++ tds) ten)
                      rw [GD]
                      exact ⟨a'.1, GL_app _ _ a a'.2⟩
                    · show dep + dpD (.mk _ (ds ++ tds) ten) ≤ _
                      rw [dpD]
                      have hp := dpP_le (ds ++ tds) ten
                      rw [dpL_app] at hp
                      rcases dpP_ge tds ten with rfl | e
                      · rw [dpL] at hp
                        omega
                      · omega
                  · trivial
              · unfold Rd.shutL
                split
                · refine ⟨by rw [GD]; exact ⟨.inl rfl, a⟩, .inr ?_⟩
                  rw [dpD]
                  have hp := dpP_le ds .empty
                  omega
                · trivial
          · trivial
    · rw [Rd.tL]
      split
      · have := h1 n dep l
        revert this
        generalize Rd.tD f n dep l = r
        cases r with
        | bad l' => exact fun _ => trivial
        | ok d l' m =>
          rintro ⟨a, b⟩
          simp only
          have := h2 n dep l'
          revert this
          generalize Rd.tL f n dep l' = r2
          cases r2 with
          | bad l'' => exact fun _ => trivial
          | ok ds l'' m' =>
            rintro ⟨a', b'⟩
            refine ⟨by rw [GL]; exact ⟨a, a'⟩, ?_⟩
            rw [dpL]
            omega
      · exact ⟨by rw [GL]; trivial, .inl (by rw [dpL])⟩
theorem shD_pos (d : Rd.D) (h : GD d) : 1 ≤ (shD d).length := by
  obtain ⟨p, ds, en⟩ := d
  rw [shD]
  cases ds with
  | nil =>
    rw [GD] at h
    rcases h.1 with rfl | hg
    · simp [shP, shA]
    · rw [shP]
      exact List.length_pos_iff.mpr hg.ne
  | cons e es => rw [shP, List.length_cons]; omega
/-- What a datum's text begins with. -/
theorem shD_skip (d : Rd.D) (h : GD d) (r : List UInt8) : Rd.skip (shD d ++ r) = shD d ++ r ∧ (Rd.kindAt (shD d ++ r) = 5 ∨ Rd.kindAt (shD d ++ r) = 1) := by
  obtain ⟨p, ds, en⟩ := d
  rw [shD]
  rw [GD] at h
  cases ds with
  | nil =>
    rcases h.1 with rfl | hg
    · exact ⟨Rd.skip_stop 40 _ (by decide) (by decide), .inr rfl⟩
    · exact ⟨hg.skip r, .inl (hg.kind r)⟩
  | cons e es =>
    rw [shP]
    exact ⟨Rd.skip_stop 40 _ (by decide) (by decide), .inr rfl⟩
/-- What stands behind the parts of a list. -/
def Endy (t : List UInt8) : Prop := Rd.Stop t ∧ (Rd.kindAt (Rd.skip t) = 0 ∨ Rd.kindAt (Rd.skip t) = 2 ∨ Rd.kindAt (Rd.skip t) = 3)
theorem shL_stop (ds : List Rd.D) (t : List UInt8) (h : Rd.Stop t) : Rd.Stop (shL ds ++ t) := by
  cases ds with
  | nil => exact h
  | cons d ds => rw [shL]; exact (by decide : Rd.isWord 32 = false)
theorem endy_shE (en : Rd.A) (r : List UInt8) : Endy (shE en ++ r) := by
  cases en with
  | empty => exact ⟨(by decide : Rd.isWord 41 = false), .inr (.inl (by rw [shE]; rw [List.singleton_append, Rd.skip_stop 41 _ (by decide) (by decide)]; rfl))⟩
  | _ => exact ⟨(by decide : Rd.isWord 32 = false), .inr (.inr (by simp only [shE, List.cons_append]; rw [Rd.skip_blank 32 _ (by decide), Rd.skip_stop 46 _ (by decide) (by decide)]; rfl))⟩
theorem tD_atom (f n dep : Nat) (a : Rd.A) (h : GA a) (r : List UInt8) (hr : Rd.Stop r) : Rd.tD (f + 1) n dep (shA a ++ r) = .ok (.mk (n - (shA a ++ r).length) [] a) (Rd.skip r) 0 := by
  rw [Rd.tD, if_pos (h.kind r), (h.text r hr).1, (h.text r hr).2, h.atom]
def BackD (f : Nat) : Prop := ∀ (d : Rd.D) (n dep : Nat) (r : List UInt8), GD d → Rd.Stop r → 2 * (shD d).length ≤ f → ∃ d' m, Rd.tD f n dep (shD d ++ r) = .ok d' (Rd.skip r) m ∧ shD d' = shD d ∧ m ≤ dep + dpD d ∧ d'.place = n - (shD d ++ r).length
def BackL (f : Nat) : Prop := ∀ (ds : List Rd.D) (n dep : Nat) (t : List UInt8), GL ds → Endy t → 2 * (shL ds).length + 1 ≤ f → ∃ ds' m, Rd.tL f n dep (Rd.skip (shL ds ++ t)) = .ok ds' (Rd.skip t) m ∧ shL ds' = shL ds ∧ m ≤ dep + dpL ds ∧ ds'.length = ds.length
theorem backL_nil (f n dep : Nat) (t : List UInt8) (ht : Endy t) : Rd.tL (f + 1) n dep (Rd.skip t) = .ok [] (Rd.skip t) 0 := by
  rw [Rd.tL, if_neg (by have := ht.2; omega)]
theorem back_all : ∀ (f : Nat), BackD f ∧ BackL f
  | 0 => ⟨fun d n dep r hd _ hf => by have := shD_pos d hd; omega, fun ds n dep t _ _ hf => by omega⟩
  | f + 1 => by
    obtain ⟨h1, h2⟩ := back_all f
    refine ⟨fun d n dep r hd hr hf => ?_, fun ds n dep t hds ht hf => ?_⟩
    · obtain ⟨p, ds, en⟩ := d
      rw [GD] at hd
      rw [shD] at hf ⊢
      rw [dpD]
      cases ds with
      | nil =>
        rcases hd.1 with rfl | hg
        · refine ⟨.mk (n - (shP [] .empty ++ r).length) [] .empty, max (dep + 1) 0, ?_, rfl, by rw [dpP]; omega, rfl⟩
          have e1 : Rd.skip (41 :: r) = 41 :: r := Rd.skip_stop 41 _ (by decide) (by decide)
          have e2 : Rd.tL f n (dep + 1) (41 :: r) = .ok [] (41 :: r) 0 := by
            cases f with
            | zero => simp [shP, shA] at hf
            | succ f => have := backL_nil f n (dep + 1) (41 :: r) ⟨(by decide : Rd.isWord 41 = false), .inr (.inl (by rw [e1]; rfl))⟩; rw [e1] at this; exact this
          show Rd.tD (f + 1) n dep (40 :: 41 :: r) = _
          rw [Rd.tD, if_neg (kn 1 rfl (by decide)), if_neg (kn 1 rfl (by decide)), if_pos (by rfl), show Rd.behind (40 :: 41 :: r) = 41 :: r from rfl, e1, e2]
          simp only [List.length_nil]
          rw [if_neg (by omega), Rd.shutL, if_pos (by rfl), show Rd.behind (41 :: r) = r from rfl]
          rfl
        · refine ⟨_, 0, tD_atom f n dep en hg r hr, rfl, by omega, rfl⟩
      | cons d0 ds0 =>
        have hlen : (shP (d0 :: ds0) en).length = (shL (d0 :: ds0)).length + (shE en).length := by
          rw [shP, shL]
          simp only [List.length_cons, List.length_append]
          omega
        have hpos : 1 ≤ (shE en).length := by cases en <;> simp [shE]
        obtain ⟨ds', m, e1, e2, e3, e4⟩ := h2 (d0 :: ds0) n (dep + 1) (shE en ++ r) hd.2 (endy_shE en r) (by omega)
        have htext : shP (d0 :: ds0) en ++ r = 40 :: (shD d0 ++ (shL ds0 ++ (shE en ++ r))) := by
          rw [shP]
          simp
        have hsk : Rd.skip (shL (d0 :: ds0) ++ (shE en ++ r)) = Rd.skip (shD d0 ++ (shL ds0 ++ (shE en ++ r))) := by
          rw [shL]
          simp only [List.cons_append, List.append_assoc]
          rw [Rd.skip_blank 32 _ (by decide)]
        rw [hsk] at e1
        have hl' : 0 < ds'.length := by rw [e4]; simp
        have hsh : ∀ pl, shD (.mk pl ds' en) = shP (d0 :: ds0) en := by
          intro pl
          cases ds' with
          | nil => simp at hl'
          | cons d' ds' =>
            rw [shL, shL] at e2
            rw [shD, shP, shP, ← List.append_assoc, (List.cons.inj e2).2, List.append_assoc]
        have hdp : dpP (d0 :: ds0) en = 1 + dpL (d0 :: ds0) := by rw [dpP, dpL]
        have hend : ∃ m', Rd.tD (f + 1) n dep (shP (d0 :: ds0) en ++ r) = .ok (.mk (n - (shP (d0 :: ds0) en ++ r).length) ds' en) (Rd.skip r) m' ∧ m' ≤ dep + (1 + dpL (d0 :: ds0)) := by
          by_cases hen : en = .empty
          · subst hen
            refine ⟨max (dep + 1) m, ?_, by omega⟩
            rw [htext, Rd.tD, if_neg (kn 1 rfl (by decide)), if_neg (kn 1 rfl (by decide)), if_pos (by rfl), show Rd.behind (40 :: (shD d0 ++ (shL ds0 ++ (shE .empty ++ r)))) = shD d0 ++ (shL ds0 ++ (shE .empty ++ r)) from rfl, e1]
            have e5 : Rd.skip (shE .empty ++ r) = 41 :: r := Rd.skip_stop 41 _ (by decide) (by decide)
            simp only [e5]
            rw [if_neg (by intro h; exact absurd h.2 (kn 2 rfl (by decide))), Rd.shutL, if_pos (by rfl)]
            rfl
          · have hg : GA en := hd.1.resolve_left hen
            have e5 : shE en = [32, 46, 32] ++ (shA en ++ [41]) := by cases en with
              | empty => exact absurd rfl hen
              | _ => rfl
            have e6 : Rd.skip (shE en ++ r) = 46 :: 32 :: (shA en ++ 41 :: r) := by
              rw [e5]
              simp only [List.cons_append, List.nil_append, List.append_assoc]
              rw [Rd.skip_blank 32 _ (by decide), Rd.skip_stop 46 _ (by decide) (by decide)]
            have e7 : Rd.skip (32 :: (shA en ++ 41 :: r)) = shA en ++ 41 :: r := by rw [Rd.skip_blank 32 _ (by decide), hg.skip]
            have e8 : Rd.skip (41 :: r) = 41 :: r := Rd.skip_stop 41 _ (by decide) (by decide)
            refine ⟨max (dep + 1) (max m 0), ?_, by omega⟩
            obtain ⟨f', rfl⟩ : ∃ f', f = f' + 1 := by
              cases f with
              | zero => omega
              | succ f => exact ⟨f, rfl⟩
            rw [htext, Rd.tD, if_neg (kn 1 rfl (by decide)), if_neg (kn 1 rfl (by decide)), if_pos (by rfl), show Rd.behind (40 :: (shD d0 ++ (shL ds0 ++ (shE en ++ r)))) = shD d0 ++ (shL ds0 ++ (shE en ++ r)) from rfl, e1]
            simp only [e6]
            rw [if_pos ⟨hl', by rfl⟩, show Rd.behind (46 :: 32 :: (shA en ++ 41 :: r)) = 32 :: (shA en ++ 41 :: r) from rfl, e7, tD_atom f' n (dep + 1) en hg (41 :: r) (by decide : Rd.isWord 41 = false), e8, Rd.shutT, if_pos (by rfl), show Rd.behind (41 :: r) = r from rfl]
            simp only [Rd.D.parts, Rd.D.en, List.append_nil]
        obtain ⟨m', e5, e6⟩ := hend
        exact ⟨_, m', e5, hsh _, by rw [hdp]; exact e6, rfl⟩
    · cases ds with
      | nil => exact ⟨[], 0, by rw [shL, List.nil_append]; exact backL_nil f n dep t ht, rfl, by omega, rfl⟩
      | cons d ds =>
        rw [GL] at hds
        have hp := shD_pos d hds.1
        rw [shL] at hf ⊢
        simp only [List.length_cons, List.length_append] at hf
        obtain ⟨d', m, e1, e2, e3, e4⟩ := h1 d n dep (shL ds ++ t) hds.1 (shL_stop ds t ht.1) (by omega)
        obtain ⟨ds', m', f1, f2, f3, f4⟩ := h2 ds n dep t hds.2 ht (by omega)
        have hs := shD_skip d hds.1 (shL ds ++ t)
        refine ⟨d' :: ds', max m m', ?_, by rw [shL, e2, f2], by rw [dpL]; omega, by rw [List.length_cons, List.length_cons, f4]⟩
        rw [List.cons_append, List.append_assoc, Rd.skip_blank 32 _ (by decide), hs.1, Rd.tL, if_pos (by have := hs.2; omega), e1]
        simp only
        rw [f1]
theorem back_pr : ∀ (ds : List Rd.D) (f n : Nat), GL ds → 2 * (prT ds).length + 1 ≤ f → ∃ ds' m, Rd.tL f n 0 (Rd.skip (prT ds)) = .ok ds' [] m ∧ prT ds' = prT ds ∧ m ≤ dpL ds
  | [], f, n, _, hf => by
    cases f with
    | zero => omega
    | succ f =>
      refine ⟨[], 0, ?_, rfl, by omega⟩
      rw [prT, show Rd.skip [] = [] from rfl, Rd.tL, if_neg (by decide)]
  | d :: ds, f, n, hds, hf => by
    cases f with
    | zero => omega
    | succ f =>
      rw [GL] at hds
      have hp := shD_pos d hds.1
      rw [prT] at hf ⊢
      simp only [List.length_cons, List.length_append] at hf
      obtain ⟨d', m, e1, e2, e3, e4⟩ := (back_all f).1 d n 0 (10 :: prT ds) hds.1 (by decide : Rd.isWord 10 = false) (by omega)
      obtain ⟨ds', m', f1, f2, f3⟩ := back_pr ds f n hds.2 (by omega)
      have hs := shD_skip d hds.1 (10 :: prT ds)
      refine ⟨d' :: ds', max m m', ?_, by rw [prT, e2, f2], by rw [dpL]; omega⟩
      rw [hs.1, Rd.tL, if_pos (by have := hs.2; omega), e1]
      simp only
      rw [Rd.skip_blank 10 _ (by decide), f1]
theorem readT_good (s : ByteArray) (ds : List Rd.D) (h : Rd.readT s = .ok ds) : GL ds ∧ dpL ds ≤ 20 := by
  unfold Rd.readT at h
  split at h
  · cases h
  · have := (good_all 1002).2 s.size 0 (Rd.skip s.data.toList)
    revert h this
    generalize Rd.tL 1002 s.size 0 (Rd.skip s.data.toList) = r
    cases r with
    | bad l' => intro h; cases h
    | ok ds' l' m =>
      rw [Rd.readOf]
      rintro h ⟨hg, hm⟩
      split at h
      · split at h
        · cases h
        · cases h
          exact ⟨hg, by omega⟩
      · cases h
/-- What is printed reads back, and is printed as it is. -/
theorem print_back (s : ByteArray) (ds : List Rd.D) (h : Rd.readT s = .ok ds) (hl : (prT ds).length ≤ 500) : ∃ ds', Rd.readT ⟨(prT ds).toArray⟩ = .ok ds' ∧ prT ds' = prT ds := by
  obtain ⟨hg, hd⟩ := readT_good s ds h
  have hsz : (⟨(prT ds).toArray⟩ : ByteArray).size = (prT ds).length := by show (prT ds).toArray.size = _; simp
  obtain ⟨ds', m, e1, e2, e3⟩ := back_pr ds 1002 (prT ds).length hg (by omega)
  refine ⟨ds', ?_, e2⟩
  unfold Rd.readT
  rw [hsz, if_neg (by omega)]
  simp only
  rw [e1, Rd.readOf, if_pos (by rfl), if_neg (by omega)]
/-- A datum with a blank ahead, and a blank and a remark behind. -/
theorem print_one (d : Rd.D) (hg : GD d) (hd : dpD d ≤ 19) (hl : (shD d).length ≤ 300) : ∃ d', Rd.readT ⟨(32 :: (shD d ++ [32, 59])).toArray⟩ = .ok [d'] ∧ shD d' = shD d := by
  have hsz : (⟨(32 :: (shD d ++ [32, 59])).toArray⟩ : ByteArray).size = (shD d).length + 3 := by show (32 :: (shD d ++ [32, 59])).toArray.size = _; simp
  obtain ⟨d', m, e1, e2, e3, e4⟩ := (back_all 1001).1 d ((shD d).length + 3) 0 [32, 59] hg (by decide : Rd.isWord 32 = false) (by omega)
  have hs := shD_skip d hg [32, 59]
  refine ⟨d', ?_, e2⟩
  unfold Rd.readT
  rw [hsz, if_neg (by omega)]
  simp only
  rw [Rd.skip_blank 32 _ (by decide), hs.1, Rd.tL, if_pos (by have := hs.2; omega), e1]
  simp only
  rw [show Rd.skip [32, 59] = [] from rfl, Rd.tL, if_neg (by decide)]
  simp only
  rw [Rd.readOf, if_pos (by rfl), if_neg (by omega)]
/-- A datum behind a quote mark. -/
theorem print_quote (d : Rd.D) (hg : GD d) (hd : dpD d ≤ 19) (hl : (shD d).length ≤ 300) : ∃ d', Rd.readT ⟨(39 :: shD d).toArray⟩ = .ok [Rd.quoteD 0 d'] ∧ shD d' = shD d := by
  have hsz : (⟨(39 :: shD d).toArray⟩ : ByteArray).size = (shD d).length + 1 := by show (39 :: shD d).toArray.size = _; simp
  obtain ⟨d', m, e1, e2, e3, e4⟩ := (back_all 1000).1 d ((shD d).length + 1) 1 [] hg trivial (by omega)
  have hs := shD_skip d hg []
  rw [List.append_nil] at hs e1 e4
  refine ⟨d', ?_, e2⟩
  unfold Rd.readT
  rw [hsz, if_neg (by omega)]
  simp only
  rw [Rd.skip_stop 39 _ (by decide) (by decide), Rd.tL, if_pos (.inr (.inl (by rfl))), Rd.tD, if_neg (kn 4 rfl (by decide)), if_pos (by rfl), show Rd.behind (39 :: shD d) = shD d from rfl, hs.1, e1, Rd.quoteR]
  simp only
  rw [show Rd.skip [] = [] from rfl, Rd.tL, if_neg (by decide)]
  simp only
  rw [Rd.readOf, if_pos (by rfl), if_neg (by omega)]
  simp
end Go.Proofs.YtodeeegbajgafaaGreatDoor

namespace Go.Proofs.YtodeeegbajgafaaGreatDoor
open Go.RowKit
open Mc
/-- The parts of a value of data. -/
def pV : V → Nat
  | .pair h t => 1 + pV h + pV t
  | _ => 1
theorem pV_pos : ∀ v, 1 ≤ pV v
  | .pair h t => by rw [pV]; omega
  | .atom _ => Nat.le_refl _
  | .basic _ => Nat.le_refl _
  | .clo .. => Nat.le_refl _
  | .cont _ => Nat.le_refl _
theorem data_listE (en : Rd.A) : ∀ (vs : List V), (∀ v ∈ vs, V.data v) → V.data (listE (.atom en) vs)
  | [], _ => by rw [listE, V.data]; trivial
  | v :: vs, h => by
    rw [listE, V.data]
    exact ⟨h v List.mem_cons_self, data_listE en vs fun u hu => h u (List.mem_cons_of_mem _ hu)⟩
mutual
theorem data_valD : ∀ (d : Rd.D), V.data (valD d)
  | .mk _ ds en => by
    rw [valD]
    exact data_listE en _ (data_valL ds)
theorem data_valL : ∀ (ds : List Rd.D), ∀ v ∈ valL ds, V.data v
  | [], v, h => by rw [valL] at h; cases h
  | d :: ds, v, h => by
    rw [valL] at h
    rcases List.mem_cons.1 h with rfl | h
    · exact data_valD d
    · exact data_valL ds v h
end
theorem pV_listE (en : Rd.A) : ∀ (ds : List Rd.D), GL ds → (∀ d ∈ ds, pV (valD d) ≤ (shD d).length) → pV (listE (.atom en) (valL ds)) ≤ (shL ds).length + 1
  | [], _, _ => by rw [valL, listE, shL]; exact Nat.le_refl _
  | d :: ds, hg, h => by
    rw [GL] at hg
    have i := pV_listE en ds hg.2 fun u hu => h u (List.mem_cons_of_mem _ hu)
    have j := h d List.mem_cons_self
    rw [valL, listE, pV, shL, List.length_cons, List.length_append]
    omega
mutual
theorem pV_valD : ∀ (d : Rd.D), GD d → pV (valD d) ≤ (shD d).length
  | .mk p ds en, hg => by
    have hp := shD_pos (.mk p ds en) hg
    rw [GD] at hg
    have i := pV_listE en ds hg.2 (pV_valL ds hg.2)
    rw [valD]
    cases ds with
    | nil => exact hp
    | cons d ds =>
      have hE : 1 ≤ (shE en).length := by cases en <;> simp [shE]
      rw [shL] at i
      rw [shD, shP]
      simp only [List.length_cons, List.length_append] at i ⊢
      omega
theorem pV_valL : ∀ (ds : List Rd.D), GL ds → ∀ d ∈ ds, pV (valD d) ≤ (shD d).length
  | [], _, d, h => by cases h
  | d :: ds, hg, u, h => by
    rw [GL] at hg
    rcases List.mem_cons.1 h with e | h
    · rw [e]
      exact pV_valD d hg.1
    · exact pV_valL ds hg.2 u h
end
set_option maxHeartbeats 4000000 in
set_option maxRecDepth 10000 in
theorem parts_pair (mb : Nat) (ok : Nat → Prop) (a b : V) (w : World) (x : Value) (h : RepM mb ok w x (.val (.pair a b))) (q : Int) (r s : Int) (i1 : 0 ≤ q) (i3 : q ≤ 1000)
    (H1 : Hid (∀ (W : World) (y : Value), RepM mb ok W y (.val a) → Calls Tryz.prog 114 #[.int .i64 q, y] W fun e w' => e = .returned (.int .i64 r) ∧ Below W.heap.size W w'))
    (H2 : Hid (∀ (W : World) (y : Value), RepM mb ok W y (.val b) → Calls Tryz.prog 114 #[.int .i64 r, y] W fun e w' => e = .returned (.int .i64 s) ∧ Below W.heap.size W w')) :
    Calls Tryz.prog 114 #[.int .i64 (q + 1), x] w fun e w' => e = .returned (.int .i64 s) ∧ Below w.heap.size w w' := by
  obtain ⟨c, y, z, T, rfl, hb, hh, hy, hz⟩ := h.pair_inv
  obtain ⟨ty, xy, rfl⟩ := hy.iface
  obtain ⟨tz, xz, rfl⟩ := hz.iface
  obtain ⟨q0, q1, _, _⟩ := cells2 hh
  have HY : Hid (RepM mb ok w.drew (.iface ty xy) (.val a)) := hy.mono fun _ _ ho => ⟨ho, rfl⟩
  have HZ : Hid (∀ W, Below w.heap.size w W → RepM mb ok W (.iface tz xz) (.val b)) := fun W hW => hz.mono fun k hk ho => ⟨ho, hW.block k hk⟩
  have hit := fun w => ta_hit124 (.pointer (some ⟨c, 0, none⟩)) w
  have i2 : -9223372036854775808 ≤ q := by omega
  have i4 : q ≤ 9223372036854775807 := by omega
  have HK : Hid (∀ W, Below w.heap.size w W → W.cell? ⟨c, 0, none⟩ = some (.iface ty xy) ∧ W.cell? ⟨c, 1, none⟩ = some (.iface tz xz)) := fun W hb => ⟨(Kept.of_below hb (fun _ => False)).cell id q0, (Kept.of_below hb (fun _ => False)).cell id q1⟩
  clear h hh hy hz i3
  unfold ptrV
  go_enter Tryz.func114, Tryz.ntmps114
  go_wp2
  go_region_held3 (fun X => X.cell? ⟨c, 0, none⟩ = some (.iface ty xy) ∧ X.cell? ⟨c, 1, none⟩ = some (.iface tz xz)) (go_keep) (first | (go_at_call_of 114 (Value.iface ty xy); refine (H1.out _ _ HY.out).mono ?_; rintro e2 w2 ⟨rfl, hb2⟩; have hbw2 : Below w.heap.size w w2 := ((Below.refl _ w).drew).trans hb2; obtain ⟨z0, z1⟩ := HK.out _ hbw2) | (go_at_call_of 114 (Value.iface tz xz); refine (H2.out _ _ (HZ.out _ hbw2)).mono ?_; rintro e3 w3 ⟨rfl, hb3⟩; have hbw3 : Below w.heap.size w w3 := hbw2.trans (hb3.mono hbw2.size); obtain ⟨y0, y1⟩ := HK.out _ hbw3))
  all_goals
    go_wp2
    go_ret
    exact ⟨rfl, hbw3⟩
theorem parts_D (mb : Nat) (ok : Nat → Prop) : ∀ (k : Nat) (v : V) (p : Int) (w : World) (x : Value), pV v ≤ k → V.data v → RepM mb ok w x (.val v) → (pV v : Int) ≤ p → p ≤ 1000 →
    Calls Tryz.prog 114 #[.int .i64 p, x] w fun e w' => e = .returned (.int .i64 (p - (pV v : Nat))) ∧ Below w.heap.size w w'
  | 0, v, _, _, _, hk, _, _, _, _ => by have := pV_pos v; omega
  | k + 1, .atom a, p, w, x, _, _, h, h0, h1 => by
    obtain rfl := h.atom_inv
    have hp : pV (.atom a) = 1 := rfl
    rw [hp] at h0 ⊢
    exact (parts_atom p (by omega) h1 a w).mono fun e w' ⟨he, hw⟩ => ⟨he, hw ▸ Below.refl _ _⟩
  | k + 1, .pair a b, p, w, x, hk, hd, h, h0, h1 => by
    rw [V.data] at hd
    rw [pV] at hk h0 ⊢
    have ha := pV_pos a
    have hb := pV_pos b
    obtain ⟨q, rfl⟩ : ∃ q, p = q + 1 := ⟨p - 1, by omega⟩
    have := parts_pair mb ok a b w x h q (q - (pV a : Nat)) (q - (pV a : Nat) - (pV b : Nat)) (by omega) (by omega) (fun W y hy => parts_D mb ok k a q W y (by omega) hd.1 hy (by omega) (by omega)) (fun W y hy => parts_D mb ok k b (q - (pV a : Nat)) W y (by omega) hd.2 hy (by omega) (by omega))
    have e0 : q - (pV a : Nat) - (pV b : Nat) = q + 1 - ((1 + pV a + pV b : Nat) : Int) := by omega
    rw [e0] at this
    exact this
  | _ + 1, .basic _, _, _, _, _, hd, _, _, _ => by simp [V.data] at hd
  | _ + 1, .clo .., _, _, _, _, hd, _, _, _ => by simp [V.data] at hd
  | _ + 1, .cont _, _, _, _, _, hd, _, _, _ => by simp [V.data] at hd
set_option maxHeartbeats 4000000 in
set_option maxRecDepth 20000 in
theorem show_any (w : World) (t : TypeId) (y : Value) (txt : List UInt8) (r : Int) (hr : 0 ≤ r) (hl : txt.length ≤ 1000) (HP : Calls Tryz.prog 114 #[.int .i64 300, .iface t y] w fun e w' => e = .returned (.int .i64 r) ∧ Below w.heap.size w w')
    (hs : ShowsZ w.heap.size w t y txt) (ht : Tab w.heap.size w) : Calls Tryz.prog 65 #[.iface t y] w (ShowR txt w) := by
  obtain ⟨fn, r', hm, hent, hfn⟩ := hs
  have HFN := (show Hid _ from hfn)
  have HT : Hid (∀ W, Below w.heap.size w W → Tab w.heap.size W) := fun W hb => ht.on hb
  have hr' : ¬ r < 0 := by omega
  clear hfn ht
  go_enter Tryz.func65, Tryz.ntmps65
  go_wp2_with (first | (go_at_call 114; refine HP.mono ?_; rintro e2 w2 ⟨rfl, hb2⟩))
  refine (HFN.out w2 0 (.slice none 0 0) [] hb2 (own_none _ _) hb2.size (HT.out _ hb2) (by omega)).mono ?_
  rintro e3 w3 ⟨v3, rfl, ho3, hb3⟩
  simp only [Nat.zero_add, List.nil_append] at ho3
  have hcv := own_stringZ ho3
  obtain ⟨a3, k3, c3, rfl⟩ := owns_slice ho3
  clear ho3
  go_wp2
  go_ret2
  exact ⟨rfl, hb2.trans hb3⟩
/-- Any datum that is short is shown as its text. -/
theorem shows_D (d : Rd.D) (hg : GD d) (ho : okD d) (hl : (shD d).length ≤ 300) : ShowsAs (valD d) (shD d) := fun mb ok w x h ht => by
  obtain ⟨t, y, rfl⟩ := h.iface
  have hp := pV_valD d hg
  have h1 := parts_D mb ok _ (valD d) 300 w (.iface t y) (Nat.le_refl _) (data_valD d) h (by omega) (by omega)
  exact show_any w t y (shD d) _ (by omega) (by omega) h1 (shows_all w.heap.size mb _ d w t y (Nat.le_refl _) ho (h.mono fun k hk _ => ⟨hk, rfl⟩)) ht
end Go.Proofs.YtodeeegbajgafaaGreatDoor

namespace Go.Proofs.YtodeeegbajgafaaGreatDoor
namespace Rd
/-- The atoms that the maker has, and those behind a dot. -/
def dAtoms : List A := [.sym [97], .truth true, .truth false, .empty, .num (-5), .num 0, .sym [105, 102], .sym [43], .sym [120, 33], .sym [45, 45], .num 9223372036854775807]
def dTexts : List (List UInt8) := [[97], [35, 116], [35, 102], [40, 41], [45, 53], [48], [105, 102], [43], [120, 33], [45, 45], [57, 50, 50, 51, 51, 55, 50, 48, 51, 54, 56, 53, 52, 55, 55, 53, 56, 48, 55]]
def dTails : List A := [.sym [97], .truth true, .num 7]
def dTailTs : List (List UInt8) := [[97], [35, 116], [55]]
def atomAt (c : Nat) : A := dAtoms.getD c .empty
def tailAt (c : Nat) : A := dTails.getD c .empty
def mkDats (f : List Int → D × List Int) : Nat → List Int → List D × List Int
  | 0, r => ([], r)
  | k + 1, r => ((f r).1 :: (mkDats f k (f r).2).1, (mkDats f k (f r).2).2)
/-- A datum out of raw numbers, so deep at most. -/
def mkDat : Nat → List Int → D × List Int
  | 0, raw => (.mk 0 [] (atomAt (nextN 11 raw).1), (nextN 11 raw).2)
  | d + 1, raw =>
    if (nextN 3 raw).1 = 0 then (.mk 0 [] (atomAt (nextN 11 (nextN 3 raw).2).1), (nextN 11 (nextN 3 raw).2).2)
    else
      let x := mkDat d (nextN 3 raw).2
      let n := nextN 3 x.2
      let ds := mkDats (mkDat d) n.1 n.2
      let q := nextN 4 ds.2
      if q.1 = 0 then (.mk 0 (x.1 :: ds.1) (tailAt (nextN 3 q.2).1), (nextN 3 q.2).2) else (.mk 0 (x.1 :: ds.1) .empty, q.2)
end Rd
theorem itoa_m5 : Lib.itoa (-5) = [45, 53] := by
  rw [show (-5 : Int) = -((5 : Nat) : Int) from rfl, Lib.itoa_neg 5 (by omega), Lib.decDigits_one (by omega)]
  rfl
theorem itoa_0 : Lib.itoa 0 = [48] := by
  rw [show (0 : Int) = ((0 : Nat) : Int) from rfl, Lib.itoa_nonneg, Lib.decDigits_one (by omega)]
  rfl
theorem itoa_7 : Lib.itoa 7 = [55] := by
  rw [show (7 : Int) = ((7 : Nat) : Int) from rfl, Lib.itoa_nonneg, Lib.decDigits_one (by omega)]
  rfl
theorem itoa_max : Lib.itoa 9223372036854775807 = [57, 50, 50, 51, 51, 55, 50, 48, 51, 54, 56, 53, 52, 55, 55, 53, 56, 48, 55] := by
  rw [show (9223372036854775807 : Int) = ((9223372036854775807 : Nat) : Int) from rfl, Lib.itoa_nonneg, Lib.decDigits_eq, Lib.nDigits_unique 18 _ (by omega) (by omega)]
  rfl
theorem atom_text (c : Nat) (h : c < 11) : shA (Rd.atomAt c) = Rd.dTexts.getD c [] ∧ (Rd.atomAt c = .empty ∨ GA (Rd.atomAt c)) ∧ (shA (Rd.atomAt c)).length ≤ 19 := by
  have hc : c = 0 ∨ c = 1 ∨ c = 2 ∨ c = 3 ∨ c = 4 ∨ c = 5 ∨ c = 6 ∨ c = 7 ∨ c = 8 ∨ c = 9 ∨ c = 10 := by omega
  rcases hc with rfl | rfl | rfl | rfl | rfl | rfl | rfl | rfl | rfl | rfl | rfl
  · exact ⟨rfl, .inr ⟨by decide, by decide, by rfl⟩, by decide⟩
  · exact ⟨rfl, .inr ⟨by decide, by decide, by rfl⟩, by decide⟩
  · exact ⟨rfl, .inr ⟨by decide, by decide, by rfl⟩, by decide⟩
  · exact ⟨rfl, .inl rfl, by decide⟩
  · exact ⟨itoa_m5, .inr (Rd.wd_num (-5) (by omega) (by omega)), by show (Lib.itoa (-5)).length ≤ 19; rw [itoa_m5]; decide⟩
  · exact ⟨itoa_0, .inr (Rd.wd_num 0 (by omega) (by omega)), by show (Lib.itoa 0).length ≤ 19; rw [itoa_0]; decide⟩
  · exact ⟨rfl, .inr ⟨by decide, by decide, by rfl⟩, by decide⟩
  · exact ⟨rfl, .inr ⟨by decide, by decide, by rfl⟩, by decide⟩
  · exact ⟨rfl, .inr ⟨by decide, by decide, by rfl⟩, by decide⟩
  · exact ⟨rfl, .inr ⟨by decide, by decide, by rfl⟩, by decide⟩
  · exact ⟨itoa_max, .inr (Rd.wd_num _ (by omega) (by omega)), by show (Lib.itoa 9223372036854775807).length ≤ 19; rw [itoa_max]; decide⟩
theorem tail_text (c : Nat) (h : c < 3) : shE (Rd.tailAt c) = [32, 46, 32] ++ (Rd.dTailTs.getD c [] ++ [41]) ∧ GA (Rd.tailAt c) ∧ (Rd.dTailTs.getD c []).length ≤ 2 := by
  have hc : c = 0 ∨ c = 1 ∨ c = 2 := by omega
  rcases hc with rfl | rfl | rfl
  · exact ⟨rfl, ⟨by decide, by decide, by rfl⟩, by decide⟩
  · exact ⟨rfl, ⟨by decide, by decide, by rfl⟩, by decide⟩
  · exact ⟨by show [32, 46, 32] ++ (Lib.itoa 7 ++ [41]) = _; rw [itoa_7]; rfl, Rd.wd_num 7 (by omega) (by omega), by decide⟩
def limD : Nat → Nat
  | 0 => 19
  | d + 1 => 3 * limD d + 9
/-- What the maker makes: it is written as it is read, and short. -/
def FineD (d : Nat) (x : Rd.D) : Prop := GD x ∧ dpD x ≤ d + 1 ∧ (shD x).length ≤ limD d
theorem fine_dats {d : Nat} {f : List Int → Rd.D × List Int} (hf : ∀ r, FineD d (f r).1) : ∀ (k : Nat) (r : List Int), GL (Rd.mkDats f k r).1 ∧ dpL (Rd.mkDats f k r).1 ≤ d + 1 ∧ (shL (Rd.mkDats f k r).1).length ≤ k * (limD d + 1)
  | 0, r => ⟨by rw [Rd.mkDats, GL]; trivial, by rw [Rd.mkDats, dpL]; omega, by rw [Rd.mkDats, shL]; simp⟩
  | k + 1, r => by
    obtain ⟨h1, h2, h3⟩ := hf r
    obtain ⟨i1, i2, i3⟩ := fine_dats hf k (f r).2
    rw [Rd.mkDats]
    refine ⟨by rw [GL]; exact ⟨h1, i1⟩, by rw [dpL]; omega, ?_⟩
    rw [shL, List.length_cons, List.length_append, Nat.succ_mul]
    omega
theorem fine_atom (d : Nat) (c : Nat) (h : c < 11) : FineD d (.mk 0 [] (Rd.atomAt c)) := by
  obtain ⟨h1, h2, h3⟩ := atom_text c h
  refine ⟨by rw [GD, GL]; exact ⟨h2, trivial⟩, ?_, ?_⟩
  · rw [dpD]
    have := dpP_le [] (Rd.atomAt c)
    rw [dpL] at this
    omega
  · rw [shD, shP]
    have : 19 ≤ limD d := by
      cases d with
      | zero => exact Nat.le_refl _
      | succ d =>
        have : ∀ k, 19 ≤ limD k := fun k => by
          induction k with
          | zero => exact Nat.le_refl _
          | succ k ih => rw [limD]; omega
        exact this _
    omega
theorem fine_dat : ∀ (d : Nat) (raw : List Int), FineD d (Rd.mkDat d raw).1
  | 0, raw => by
    rw [Rd.mkDat]
    exact fine_atom 0 _ (Rd.nextN_lt 11 raw (by omega))
  | d + 1, raw => by
    rw [Rd.mkDat]
    split
    · exact fine_atom (d + 1) _ (Rd.nextN_lt 11 _ (by omega))
    · obtain ⟨h1, h2, h3⟩ := fine_dat d (Rd.nextN 3 raw).2
      have hn := Rd.nextN_lt 3 (Rd.mkDat d (Rd.nextN 3 raw).2).2 (by omega)
      obtain ⟨i1, i2, i3⟩ := fine_dats (d := d) (fun r => fine_dat d r) (Rd.nextN 3 (Rd.mkDat d (Rd.nextN 3 raw).2).2).1 (Rd.nextN 3 (Rd.mkDat d (Rd.nextN 3 raw).2).2).2
      simp only
      generalize Rd.mkDat d (Rd.nextN 3 raw).2 = x at *
      generalize Rd.nextN 3 x.2 = n at *
      generalize Rd.mkDats (Rd.mkDat d) n.1 n.2 = ds at *
      have hk : n.1 * (limD d + 1) ≤ 2 * (limD d + 1) := Nat.mul_le_mul_right _ (by omega)
      split
      · have hc := Rd.nextN_lt 3 (Rd.nextN 4 ds.2).2 (by omega)
        obtain ⟨t1, t2, t3⟩ := tail_text _ hc
        refine ⟨by rw [GD, GL]; exact ⟨.inr t2, h1, i1⟩, by rw [dpD, dpP]; omega, ?_⟩
        rw [shD, shP, t1, limD]
        simp only [List.length_cons, List.length_append, List.length_nil]
        omega
      · refine ⟨by rw [GD, GL]; exact ⟨.inl rfl, h1, i1⟩, by rw [dpD, dpP]; omega, ?_⟩
        rw [shD, shP, shE, limD]
        simp only [List.length_cons, List.length_append, List.length_nil]
        omega
/-- The datum that Quoted speaks of. -/
def datOf (raw : List Int) : Rd.D := if 300 < (shD (Rd.mkDat 3 raw).1).length then .mk 0 [] (.sym [97]) else (Rd.mkDat 3 raw).1
theorem datOf_fine (raw : List Int) : GD (datOf raw) ∧ dpD (datOf raw) ≤ 19 ∧ (shD (datOf raw)).length ≤ 300 := by
  unfold datOf
  split
  · exact ⟨by rw [GD, GL]; exact ⟨.inr ⟨by decide, by decide, by rfl⟩, trivial⟩, by rw [dpD, dpP]; decide; exact fun h => (by cases h), by rw [shD, shP]; decide⟩
  · rename_i h
    obtain ⟨h1, h2, h3⟩ := fine_dat 3 raw
    exact ⟨h1, by omega, by omega⟩
end Go.Proofs.YtodeeegbajgafaaGreatDoor
