/- Small numbers as words. The sources of the walk. Texts that are forms, part by part. Forms made out of raw numbers: their texts, the forms they are, and what these come to. What forms out of raw numbers come to. Forms out of raw numbers, whatever was shown ahead, and whatever x stands for. Forms that show and set, in one call and in several, on the plain machine. -/
import Derived.Test.YtodeeegbajgafaaGreatDoorQ01
import Derived.Lib.ItoaMem
namespace Go.Proofs.YtodeeegbajgafaaGreatDoor
namespace Rd
open Go.Lib
/-- A word that reads as a number. -/
structure NumW (l : List UInt8) (n : Int) : Prop where
  ne : l ≠ []
  head : kindAt l = 5
  all : l.all isWord = true
  atom : atomOf l = some (.num n)
  short : l.length ≤ 4
instance (l : List UInt8) (n : Int) : Decidable (NumW l n) := decidable_of_iff (l ≠ [] ∧ kindAt l = 5 ∧ l.all isWord = true ∧ atomOf l = some (.num n) ∧ l.length ≤ 4) ⟨fun ⟨a, b, c, d, e⟩ => ⟨a, b, c, d, e⟩, fun ⟨a, b, c, d, e⟩ => ⟨a, b, c, d, e⟩⟩
def dgt (a : Nat) : UInt8 := UInt8.ofNat (48 + a)
theorem one_fin : ∀ a : Fin 10, NumW [dgt a] a := by decide +kernel
theorem two_fin : ∀ a b : Fin 10, NumW [dgt a, dgt b] (10 * a + b : Nat) := by decide +kernel
theorem three_fin : ∀ a b c : Fin 10, NumW [dgt a, dgt b, dgt c] (100 * a + 10 * b + c : Nat) := by decide +kernel
theorem neg_fin : ∀ a : Fin 10, NumW [45, dgt a] (-(a : Nat)) := by decide +kernel
theorem neg2_fin : ∀ a b : Fin 10, NumW [45, dgt a, dgt b] (-((10 * a + b : Nat) : Int)) := by decide +kernel
theorem decDigits_three {i : Nat} (h1 : ¬ i < 100) (h2 : i < 1000) : decDigits i = [dgt (i / 100), dgt (i / 10 % 10), dgt (i % 10)] := by
  rw [decDigits, dif_neg (by omega), decDigits_two (by omega) (by omega), Nat.div_div_eq_div_mul]
  rfl
theorem numW_itoa {n : Int} (h0 : -100 < n) (h1 : n < 1000) : NumW (itoa n) n := by
  by_cases hn : 0 ≤ n
  · obtain ⟨i, rfl⟩ := Int.eq_ofNat_of_zero_le hn
    have hi : i < 1000 := by omega
    show NumW (itoa (i : Int)) i
    rw [itoa_nonneg]
    by_cases ha : i < 10
    · rw [decDigits_one ha]
      exact one_fin ⟨i, ha⟩
    · by_cases hb : i < 100
      · rw [decDigits_two ha hb]
        have := two_fin ⟨i / 10, by omega⟩ ⟨i % 10, by omega⟩
        simp only at this
        rw [show 10 * (i / 10) + i % 10 = i from by omega] at this
        exact this
      · rw [decDigits_three hb hi]
        have := three_fin ⟨i / 100, by omega⟩ ⟨i / 10 % 10, by omega⟩ ⟨i % 10, by omega⟩
        simp only at this
        rw [show 100 * (i / 100) + 10 * (i / 10 % 10) + i % 10 = i from by omega] at this
        exact this
  · obtain ⟨i, hi⟩ := Int.eq_ofNat_of_zero_le (a := -n) (by omega)
    obtain rfl : n = -(i : Int) := by omega
    rw [itoa_neg i (by omega)]
    by_cases ha : i < 10
    · rw [decDigits_one ha]
      exact neg_fin ⟨i, ha⟩
    · rw [decDigits_two ha (by omega)]
      have := neg2_fin ⟨i / 10, by omega⟩ ⟨i % 10, by omega⟩
      simp only at this
      rw [show 10 * (i / 10) + i % 10 = i from by omega] at this
      exact this
theorem NumW.dt {l : List UInt8} {n : Int} (h : NumW l n) : Dt (fun d => ∃ p, d = .mk p [] (.num n)) l 1 0 := by
  cases l with
  | nil => exact absurd rfl h.ne
  | cons b w =>
    have ha := h.all
    simp only [List.all_cons, Bool.and_eq_true] at ha
    exact Dt.word h.head ha.2 h.atom
end Rd
end Go.Proofs.YtodeeegbajgafaaGreatDoor

namespace Go.Proofs.YtodeeegbajgafaaGreatDoor
namespace Rd
open Mc
/-- Data that are these numbers. -/
inductive NumsD : List Int → List D → Prop
  | nil : NumsD [] []
  | cons (n : Int) (p : Nat) (ns : List Int) (ds : List D) (h : NumsD ns ds) : NumsD (n :: ns) (.mk p [] (.num n) :: ds)
theorem NumsD.forms {ns : List Int} {ds : List D} (h : NumsD ns ds) (env : List (List Sym)) : ∀ f, ns.length + 2 ≤ f → pForms f env ds = some (ns.map fun n => .const (.num n)) := by
  induction h with
  | nil =>
    intro f hf
    obtain ⟨f, rfl⟩ : ∃ g, f = g + 1 := ⟨f - 1, by omega⟩
    rw [pForms]; rfl
  | cons n p ns ds _ ih =>
    intro f hf
    simp only [List.length_cons] at hf
    obtain ⟨f, rfl⟩ : ∃ g, f = g + 1 := ⟨f - 1, by omega⟩
    obtain ⟨g, rfl⟩ : ∃ g, f = g + 1 := ⟨f - 1, by omega⟩
    rw [pForms, pForm_leaf, ih (g + 1) (by omega)]
    rfl
/-- Numbers, a blank ahead of each. -/
def numsT (ns : List Int) : List UInt8 := ns.flatMap fun n => 32 :: Lib.itoa n
theorem numsT_dt : ∀ (ns : List Int), (∀ n ∈ ns, -100 < n ∧ n < 1000) → DtL (NumsD ns) (numsT ns) (ns.length + 1) 0 ∧ stops (numsT ns) ∧ (numsT ns).length ≤ 5 * ns.length
  | [], _ => ⟨DtL.nil.mono (fun _ e => e ▸ .nil) (by simp) (by omega), trivial, by simp [numsT]⟩
  | n :: ns, h => by
    obtain ⟨h1, h2, h3⟩ := numsT_dt ns fun m hm => h m (List.mem_cons_of_mem _ hm)
    obtain ⟨b0, b1⟩ := h n (List.mem_cons_self ..)
    have hw := numW_itoa b0 b1
    have e : numsT (n :: ns) = 32 :: (Lib.itoa n ++ numsT ns) := by simp [numsT]
    rw [e]
    refine ⟨(DtL.more hw.dt h1 h2).mono ?_ (by simp) (by omega), stops_blank _, ?_⟩
    · rintro ds ⟨d, ds', rfl, ⟨p, rfl⟩, hd⟩
      exact .cons n p ns ds' hd
    · have := hw.short
      simp; omega

theorem dt_all : Dt (fun d => ∃ p, d = .mk p [] (.sym nAll)) nAll 1 0 := Dt.word (b := 97) (w := [108, 108]) rfl rfl rfl
theorem dt_list : Dt (fun d => ∃ p, d = .mk p [] (.sym (nameAt 11))) (nameAt 11) 1 0 := Dt.word (b := 108) (w := [105, 115, 116]) rfl rfl rfl

/-- (all (list ..)) -/
def listedT (ns : List Int) : List UInt8 := [40, 97, 108, 108, 32, 40, 108, 105, 115, 116] ++ numsT ns ++ [41, 41]
def listedF (ns : List Int) : F := .call [.name nAll none, .call (.name (nameAt 11) none :: (ns.map A.num).map .const)]
theorem listedT_reads (ns : List Int) (h : ∀ n ∈ ns, -100 < n ∧ n < 1000) (N : Nat) : ∃ ds m, rdList (ns.length + 10) N 0 (skip (listedT ns)) = some (ds, [], m) ∧ m ≤ 2 ∧ ∃ d, ds = [d] ∧ ∀ f, ns.length + 20 ≤ f → pTop f d = some (listedF ns) := by
  obtain ⟨h1, h2, _⟩ := numsT_dt ns h
  have i1 := Dt.list (DtL.cons dt_list h1 h2)
  have i2 := Dt.list (DtL.cons dt_all (DtL.more i1 DtL.nil trivial) (stops_blank _))
  have i3 := DtL.one i2 (by omega)
  have e : 40 :: (nAll ++ 32 :: (40 :: (nameAt 11 ++ numsT ns ++ [41]) ++ []) ++ [41]) = listedT ns := by simp [listedT, nAll, nameAt]
  rw [e] at i3
  obtain ⟨ds, m, h3, h4, h5⟩ := (i3.mono (Q := _) (fun _ h => h) (k' := ns.length + 10) (by omega) (Nat.le_refl _)).reads N
  refine ⟨ds, m, h3, by omega, ?_⟩
  obtain ⟨d, rfl, p, es, rfl, d0, es', rfl, ⟨p0, rfl⟩, d1, es'', rfl, ⟨p1, gs, rfl, g0, gs', rfl, ⟨p2, rfl⟩, hg⟩, rfl⟩ := h4
  refine ⟨_, rfl, fun f hf => ?_⟩
  obtain ⟨f, rfl⟩ : ∃ g, f = g + 6 := ⟨f - 6, by omega⟩
  have hn := hg.forms [] (f + 1) (by omega)
  have hi : pForm (f + 3) [] (.mk p1 (.mk p2 [] (.sym (nameAt 11)) :: gs') .empty) = some (.call (.name (nameAt 11) none :: (ns.map A.num).map .const)) := by
    refine pForm_call (fun n hn => by cases hn; rfl) (pForms_cons (pForm_sym _ _ _ _ rfl) ?_)
    rw [hn, List.map_map]; rfl
  rw [pTop_other (by intro e; cases e)]
  exact pForm_call (fun n hn => by cases hn; rfl) (pForms_cons (pForm_sym _ _ _ _ rfl) (pForms_cons hi (pForms_nil _ _)))
end Rd
end Go.Proofs.YtodeeegbajgafaaGreatDoor

namespace Go.Proofs.YtodeeegbajgafaaGreatDoor
namespace Rd
abbrev Scopes := List (List Sym)
/-- A datum that is this form in such scopes. -/
def IsF (E : Scopes → Prop) (x : F) (K : Nat) (d : D) : Prop := (∀ n, d.sym = some n → keys.contains n = false) ∧ ∀ env, E env → ∀ f, K ≤ f → pForm f env d = some x
def IsFs (E : Scopes → Prop) (xs : List F) (K : Nat) (ds : List D) : Prop := ∀ env, E env → ∀ f, K ≤ f → pForms f env ds = some xs
/-- A text that is this form in such scopes. -/
def FT (E : Scopes → Prop) (l : List UInt8) (x : F) (K H : Nat) : Prop := Dt (IsF E x K) l K H
def FTL (E : Scopes → Prop) (l : List UInt8) (xs : List F) (K H : Nat) : Prop := stops l ∧ DtL (fun ds => ds.length = xs.length ∧ IsFs E xs K ds) l K H

theorem FT.mono {E E' : Scopes → Prop} {l : List UInt8} {x : F} {K H K' H' : Nat} (h : FT E l x K H) (he : ∀ env, E' env → E env) (hk : K ≤ K') (hh : H ≤ H') : FT E' l x K' H' :=
  Dt.mono h (fun d hd => ⟨hd.1, fun env e f hf => hd.2 env (he env e) f (by omega)⟩) hk hh
theorem FTL.mono {E E' : Scopes → Prop} {l : List UInt8} {x : List F} {K H K' H' : Nat} (h : FTL E l x K H) (he : ∀ env, E' env → E env) (hk : K ≤ K') (hh : H ≤ H') : FTL E' l x K' H' :=
  ⟨h.1, DtL.mono h.2 (fun d hd => ⟨hd.1, fun env e f hf => hd.2 env (he env e) f (by omega)⟩) hk hh⟩

theorem FT.num {E : Scopes → Prop} {l : List UInt8} {n : Int} (h : NumW l n) : FT E l (.const (.num n)) 1 0 := by
  refine Dt.mono h.dt ?_ (Nat.le_refl _) (Nat.le_refl _)
  rintro d ⟨p, rfl⟩
  refine ⟨(fun n h => by cases h), fun env _ f hf => ?_⟩
  obtain ⟨f, rfl⟩ : ∃ g, f = g + 1 := ⟨f - 1, by omega⟩
  exact pForm_num _ _ _ _
theorem FT.truth {E : Scopes → Prop} {b : UInt8} {w : List UInt8} {t : Bool} (hb : kindOf b = 5) (hw : w.all isWord = true) (ha : atomOf (b :: w) = some (.truth t)) : FT E (b :: w) (.const (.truth t)) 1 0 := by
  refine Dt.mono (Dt.word hb hw ha) ?_ (Nat.le_refl _) (Nat.le_refl _)
  rintro d ⟨p, rfl⟩
  refine ⟨(fun n h => by cases h), fun env _ f hf => ?_⟩
  obtain ⟨f, rfl⟩ : ∃ g, f = g + 1 := ⟨f - 1, by omega⟩
  exact pForm_truth _ _ _ _
theorem FT.sym {E : Scopes → Prop} {b : UInt8} {w : List UInt8} {loc : Option (Nat × Nat)} (hb : kindOf b = 5) (hw : w.all isWord = true) (ha : atomOf (b :: w) = some (.sym (b :: w))) (hk : keys.contains (b :: w) = false) (hl : ∀ env, E env → findName (b :: w) env 0 = loc) : FT E (b :: w) (.name (b :: w) loc) 1 0 := by
  refine Dt.mono (Dt.word hb hw ha) ?_ (Nat.le_refl _) (Nat.le_refl _)
  rintro d ⟨p, rfl⟩
  refine ⟨(fun n h => by cases h; exact hk), fun env he f hf => ?_⟩
  obtain ⟨f, rfl⟩ : ∃ g, f = g + 1 := ⟨f - 1, by omega⟩
  rw [pForm_sym _ _ _ _ hk, hl env he]

theorem FTL.nil {E : Scopes → Prop} : FTL E [] [] 1 0 := ⟨trivial, DtL.nil.mono (fun ds e => by
  subst e
  refine ⟨rfl, fun env _ f hf => ?_⟩
  obtain ⟨f, rfl⟩ : ∃ g, f = g + 1 := ⟨f - 1, by omega⟩
  exact pForms_nil _ _) (Nat.le_refl _) (Nat.le_refl _)⟩
theorem FTL.more {E : Scopes → Prop} {a l : List UInt8} {x : F} {xs : List F} {K H K' H' : Nat} (h : FT E a x K H) (h' : FTL E l xs K' H') : FTL E (32 :: (a ++ l)) (x :: xs) (max K K' + 1) (max H H') := by
  refine ⟨stops_blank _, (DtL.more h h'.2 h'.1).mono ?_ (Nat.le_refl _) (Nat.le_refl _)⟩
  rintro ds ⟨d, ds', rfl, hd, hl, hds⟩
  refine ⟨by simp [hl], fun env he f hf => ?_⟩
  obtain ⟨f, rfl⟩ : ∃ g, f = g + 1 := ⟨f - 1, by omega⟩
  exact pForms_cons (hd.2 env he f (by omega)) (hds env he f (by omega))
theorem FTL.one {E : Scopes → Prop} {a : List UInt8} {x : F} {K H : Nat} (h : FT E a x K H) (hk : 1 ≤ K) : FTL E (32 :: a) [x] (K + 1) H := by
  have := FTL.more h FTL.nil
  rw [List.append_nil] at this
  exact this.mono (fun _ e => e) (by omega) (by omega)
theorem FTL.two {E : Scopes → Prop} {a b : List UInt8} {x y : F} {K H K' H' : Nat} (h : FT E a x K H) (h' : FT E b y K' H') (hk : 1 ≤ K') : FTL E (32 :: (a ++ 32 :: b)) [x, y] (max K (K' + 1) + 1) (max H H') := FTL.more h (FTL.one h' hk)

theorem FT.call {E : Scopes → Prop} {a l : List UInt8} {x : F} {xs : List F} {K H K' H' : Nat} (h : FT E a x K H) (h' : FTL E l xs K' H') : FT E (40 :: (a ++ l ++ [41])) (.call (x :: xs)) (max K K' + 2) (max H H' + 1) := by
  refine Dt.mono (Dt.list (DtL.cons h h'.2 h'.1)) ?_ (Nat.le_refl _) (Nat.le_refl _)
  rintro d ⟨p, ds, rfl, d0, ds', rfl, hd, hl, hds⟩
  refine ⟨(fun n h => by cases h), fun env he f hf => ?_⟩
  obtain ⟨f, rfl⟩ : ∃ g, f = g + 2 := ⟨f - 2, by omega⟩
  exact pForm_call hd.1 (pForms_cons (hd.2 env he f (by omega)) (hds env he f (by omega)))

/-- A keyword's word. -/
theorem Dt.kw {b : UInt8} {w : List UInt8} (hb : kindOf b = 5) (hw : w.all isWord = true) (ha : atomOf (b :: w) = some (.sym (b :: w))) : Dt (fun d => ∃ p, d = .mk p [] (.sym (b :: w))) (b :: w) 1 0 := Dt.word hb hw ha
theorem dt_if : Dt (fun d => ∃ p, d = .mk p [] (.sym kwIf)) kwIf 1 0 := Dt.kw (b := 105) (w := [102]) rfl rfl rfl
theorem dt_begin : Dt (fun d => ∃ p, d = .mk p [] (.sym kwBegin)) kwBegin 1 0 := Dt.kw (b := 98) (w := [101, 103, 105, 110]) rfl rfl rfl
theorem dt_or : Dt (fun d => ∃ p, d = .mk p [] (.sym kwOr)) kwOr 1 0 := Dt.kw (b := 111) (w := [114]) rfl rfl rfl
theorem dt_reset : Dt (fun d => ∃ p, d = .mk p [] (.sym kwReset)) kwReset 1 0 := Dt.kw (b := 114) (w := [101, 115, 101, 116]) rfl rfl rfl
theorem dt_shift : Dt (fun d => ∃ p, d = .mk p [] (.sym kwShift)) kwShift 1 0 := Dt.kw (b := 115) (w := [104, 105, 102, 116]) rfl rfl rfl
theorem dt_let : Dt (fun d => ∃ p, d = .mk p [] (.sym kwLet)) kwLet 1 0 := Dt.kw (b := 108) (w := [101, 116]) rfl rfl rfl
theorem dt_lambda : Dt (fun d => ∃ p, d = .mk p [] (.sym kwLambda)) kwLambda 1 0 := Dt.kw (b := 108) (w := [97, 109, 98, 100, 97]) rfl rfl rfl
theorem dt_set : Dt (fun d => ∃ p, d = .mk p [] (.sym kwSet)) kwSet 1 0 := Dt.kw (b := 115) (w := [101, 116, 33]) rfl rfl rfl
theorem dt_define : Dt (fun d => ∃ p, d = .mk p [] (.sym kwDefine)) kwDefine 1 0 := Dt.kw (b := 100) (w := [101, 102, 105, 110, 101]) rfl rfl rfl

theorem FT.ite {E : Scopes → Prop} {l : List UInt8} {t x e : F} {K H : Nat} (h : FTL E l [t, x, e] K H) (hk : 1 ≤ K) : FT E (40 :: (kwIf ++ l ++ [41])) (.ite t x e) (K + 2) (H + 1) := by
  refine Dt.mono (Dt.list (DtL.cons dt_if h.2 h.1)) ?_ (by omega) (by omega)
  rintro d ⟨p, ds, rfl, d0, ds', rfl, ⟨p0, rfl⟩, hl, hds⟩
  refine ⟨(fun n h => by cases h), fun env he f hf => ?_⟩
  obtain ⟨f, rfl⟩ : ∃ g, f = g + 1 := ⟨f - 1, by omega⟩
  match ds', hl with
  | [a, b, c], _ => exact pForm_if (hds env he f (by omega))
theorem FT.begin_ {E : Scopes → Prop} {l : List UInt8} {x : F} {xs : List F} {K H : Nat} (h : FTL E l (x :: xs) K H) (hk : 1 ≤ K) : FT E (40 :: (kwBegin ++ l ++ [41])) (.begin_ (x :: xs)) (K + 2) (H + 1) := by
  refine Dt.mono (Dt.list (DtL.cons dt_begin h.2 h.1)) ?_ (by omega) (by omega)
  rintro d ⟨p, ds, rfl, d0, ds', rfl, ⟨p0, rfl⟩, hl, hds⟩
  refine ⟨(fun n h => by cases h), fun env he f hf => ?_⟩
  obtain ⟨f, rfl⟩ : ∃ g, f = g + 1 := ⟨f - 1, by omega⟩
  match ds', hl with
  | a :: b, _ => exact pForm_begin (hds env he f (by omega))
theorem FT.or_ {E : Scopes → Prop} {l : List UInt8} {x : F} {xs : List F} {K H : Nat} (h : FTL E l (x :: xs) K H) (hk : 1 ≤ K) : FT E (40 :: (kwOr ++ l ++ [41])) (.until_ true (x :: xs)) (K + 2) (H + 1) := by
  refine Dt.mono (Dt.list (DtL.cons dt_or h.2 h.1)) ?_ (by omega) (by omega)
  rintro d ⟨p, ds, rfl, d0, ds', rfl, ⟨p0, rfl⟩, hl, hds⟩
  refine ⟨(fun n h => by cases h), fun env he f hf => ?_⟩
  obtain ⟨f, rfl⟩ : ∃ g, f = g + 1 := ⟨f - 1, by omega⟩
  match ds', hl with
  | a :: b, _ => exact pForm_or (hds env he f (by omega))
theorem FT.reset {E : Scopes → Prop} {l : List UInt8} {x : F} {xs : List F} {K H : Nat} (h : FTL E l (x :: xs) K H) (hk : 1 ≤ K) : FT E (40 :: (kwReset ++ l ++ [41])) (.reset (x :: xs)) (K + 2) (H + 1) := by
  refine Dt.mono (Dt.list (DtL.cons dt_reset h.2 h.1)) ?_ (by omega) (by omega)
  rintro d ⟨p, ds, rfl, d0, ds', rfl, ⟨p0, rfl⟩, hl, hds⟩
  refine ⟨(fun n h => by cases h), fun env he f hf => ?_⟩
  obtain ⟨f, rfl⟩ : ∃ g, f = g + 1 := ⟨f - 1, by omega⟩
  match ds', hl with
  | a :: b, _ => exact pForm_reset (hds env he f (by omega))
theorem FT.shift {E : Scopes → Prop} {n : Sym} {l : List UInt8} {x : F} {xs : List F} {K H : Nat} (hn : keys.contains n = false) (hd : Dt (fun d => ∃ p, d = .mk p [] (.sym n)) n 1 0) (h : FTL (fun e => ∃ e', E e' ∧ e = [n] :: e') l (x :: xs) K H) (hk : 1 ≤ K) : FT E (40 :: (kwShift ++ (32 :: (n ++ l)) ++ [41])) (.shift (x :: xs)) (K + 3) (H + 1) := by
  refine Dt.mono (Dt.list (DtL.cons dt_shift (DtL.more hd h.2 h.1) (stops_blank _))) ?_ (by omega) (by omega)
  rintro d ⟨p, ds, rfl, d0, ds', rfl, ⟨p0, rfl⟩, d1, ds'', rfl, ⟨p1, rfl⟩, hl, hds⟩
  refine ⟨(fun n h => by cases h), fun env he f hf => ?_⟩
  obtain ⟨f, rfl⟩ : ∃ g, f = g + 1 := ⟨f - 1, by omega⟩
  match ds'', hl with
  | a :: b, _ => exact pForm_shift hn (hds _ ⟨env, he, rfl⟩ f (by omega))
/-- One binding. -/
theorem FT.let1 {E : Scopes → Prop} {n : Sym} {a b : List UInt8} {x y : F} {K H K' H' : Nat} (hn : keys.contains n = false) (hd : Dt (fun d => ∃ p, d = .mk p [] (.sym n)) n 1 0) (h : FT E a x K H) (h' : FT (fun e => ∃ e', E e' ∧ e = [n] :: e') b y K' H') (hk : 1 ≤ K) (hk' : 1 ≤ K') :
    FT E (40 :: (kwLet ++ (32 :: (40 :: ((40 :: (n ++ (32 :: a) ++ [41])) ++ [41]) ++ (32 :: b))) ++ [41])) (.let_ [x] [y]) (max K K' + 9) (max H H' + 3) := by
  have i1 := Dt.list (DtL.cons hd (DtL.one h hk).blank (stops_blank _))
  have i2 := Dt.list (DtL.one i1 (by omega))
  have i3 := Dt.list (DtL.cons dt_let (DtL.more i2 (DtL.one h' hk').blank (stops_blank _)) (stops_blank _))
  refine Dt.mono i3 ?_ (by omega) (by omega)
  rintro d ⟨p, ds, rfl, d0, ds', rfl, ⟨p0, rfl⟩, d1, ds'', rfl, ⟨p1, es, rfl, e1, rfl, p2, es', rfl, n0, vs, rfl, ⟨p3, rfl⟩, v, rfl, hv⟩, b0, rfl, hb⟩
  refine ⟨(fun n h => by cases h), fun env he f hf => ?_⟩
  obtain ⟨f, rfl⟩ : ∃ g, f = g + 3 := ⟨f - 3, by omega⟩
  exact pForm_let1 hn (pForms_cons (hv.2 env he _ (by omega)) (pForms_nil _ _)) (pForms_cons (hb.2 _ ⟨env, he, rfl⟩ _ (by omega)) (pForms_nil _ _))
end Rd
end Go.Proofs.YtodeeegbajgafaaGreatDoor

namespace Go.Proofs.YtodeeegbajgafaaGreatDoor
namespace Rd
open Mc
theorem FT.lam {E : Scopes → Prop} {ns : List Sym} {pl l : List UInt8} {x : F} {xs : List F} {K H kp hp : Nat} (hd : DtL (fun ds => names ds [] = some ns) pl kp hp) (h : FTL (fun e => ∃ e', E e' ∧ e = ns :: e') l (x :: xs) K H) (_hk : 1 ≤ K) (hkp : kp ≤ K) (hpH : hp ≤ H) :
    FT E (40 :: (kwLambda ++ (32 :: (40 :: (pl ++ [41]) ++ l)) ++ [41])) (.lam ns.length (x :: xs)) (K + 4) (H + 2) := by
  refine Dt.mono (Dt.list (DtL.cons dt_lambda (DtL.more (Dt.list hd) h.2 h.1) (stops_blank _))) ?_ (by omega) (by omega)
  rintro d ⟨p, ds, rfl, d0, ds', rfl, ⟨p0, rfl⟩, d1, ds'', rfl, ⟨p1, es, rfl, hn⟩, hl, hds⟩
  refine ⟨(fun n h => by cases h), fun env he f hf => ?_⟩
  obtain ⟨f, rfl⟩ : ∃ g, f = g + 1 := ⟨f - 1, by omega⟩
  match ds'', hl with
  | a :: b, _ => exact pForm_lambda hn (hds _ ⟨env, he, rfl⟩ f (by omega))

def nV : Sym := [118]
def nY : Sym := [121]
def nZ : Sym := [122]
def nX' : Sym := [120]
def nK' : Sym := [107]
def nJ : Sym := [106]
def locals : List Sym := [nV, nY, nZ, nK', nJ]
/-- Scopes that have none but these names. -/
def Free (env : Scopes) : Prop := ∀ ns ∈ env, ∀ n ∈ ns, n ∈ locals
theorem Free.cons {ns : List Sym} {env : Scopes} (h : Free env) (hn : ∀ n ∈ ns, n ∈ locals) : Free (ns :: env) := by
  intro m hm
  rcases List.mem_cons.1 hm with rfl | hm
  · exact hn
  · exact h m hm
theorem nameIx_none {n : Sym} : ∀ {ns : List Sym} {i : Nat}, n ∉ ns → nameIx n ns i = none
  | [], _, _ => rfl
  | m :: ns, i, h => by
    rw [nameIx, if_neg (by intro e; exact h (by rw [eq_of_beq e]; exact List.mem_cons_self ..))]
    exact nameIx_none fun e => h (List.mem_cons_of_mem _ e)
theorem Free.find {n : Sym} (hn : n ∉ locals) : ∀ {env : Scopes} (_ : Free env) (up : Nat), findName n env up = none
  | [], _, _ => rfl
  | ns :: env, h, up => by
    rw [findName, nameIx_none (fun e => hn (h ns (List.mem_cons_self ..) n e))]
    exact Free.find hn (fun m hm => h m (List.mem_cons_of_mem _ hm)) (up + 1)
theorem Free.nil : Free [] := fun _ h => by cases h

theorem ft_x : FT Free nX' (.name nX' none) 1 0 := FT.sym (b := 120) (w := []) rfl rfl rfl rfl fun _ h => h.find (by decide) 0
theorem ft_plus : FT Free (nameAt 0) (.name (nameAt 0) none) 1 0 := FT.sym (b := 43) (w := []) rfl rfl rfl rfl fun _ h => h.find (by decide) 0
theorem ft_times : FT Free (nameAt 1) (.name (nameAt 1) none) 1 0 := FT.sym (b := 42) (w := []) rfl rfl rfl rfl fun _ h => h.find (by decide) 0
theorem ft_minus : FT Free (nameAt 2) (.name (nameAt 2) none) 1 0 := FT.sym (b := 45) (w := []) rfl rfl rfl rfl fun _ h => h.find (by decide) 0
theorem ft_less : FT Free (nameAt 5) (.name (nameAt 5) none) 1 0 := FT.sym (b := 60) (w := []) rfl rfl rfl rfl fun _ h => h.find (by decide) 0
theorem ft_car : FT Free (nameAt 9) (.name (nameAt 9) none) 1 0 := FT.sym (b := 99) (w := [97, 114]) rfl rfl rfl rfl fun _ h => h.find (by decide) 0
theorem ft_cdr : FT Free (nameAt 10) (.name (nameAt 10) none) 1 0 := FT.sym (b := 99) (w := [100, 114]) rfl rfl rfl rfl fun _ h => h.find (by decide) 0
theorem ft_list : FT Free (nameAt 11) (.name (nameAt 11) none) 1 0 := FT.sym (b := 108) (w := [105, 115, 116]) rfl rfl rfl rfl fun _ h => h.find (by decide) 0
theorem dt_v : Dt (fun d => ∃ p, d = .mk p [] (.sym nV)) nV 1 0 := Dt.kw (b := 118) (w := []) rfl rfl rfl
theorem dt_y : Dt (fun d => ∃ p, d = .mk p [] (.sym nY)) nY 1 0 := Dt.kw (b := 121) (w := []) rfl rfl rfl
theorem dt_z : Dt (fun d => ∃ p, d = .mk p [] (.sym nZ)) nZ 1 0 := Dt.kw (b := 122) (w := []) rfl rfl rfl
/-- Within one scope more. -/
def In (ns : List Sym) (e : Scopes) : Prop := ∃ e', Free e' ∧ e = ns :: e'
theorem In.free {ns : List Sym} (hn : ∀ n ∈ ns, n ∈ locals) (e : Scopes) (h : In ns e) : Free e := by
  obtain ⟨e', h1, rfl⟩ := h
  exact h1.cons hn
theorem ft_v : FT (In [nV]) nV (.name nV (some (0, 0))) 1 0 := FT.sym (b := 118) (w := []) rfl rfl rfl rfl fun _ h => by obtain ⟨e', _, rfl⟩ := h; rfl
theorem ft_y : FT (In [nY]) nY (.name nY (some (0, 0))) 1 0 := FT.sym (b := 121) (w := []) rfl rfl rfl rfl fun _ h => by obtain ⟨e', _, rfl⟩ := h; rfl
theorem ft_y2 : FT (In [nY, nZ]) nY (.name nY (some (0, 0))) 1 0 := FT.sym (b := 121) (w := []) rfl rfl rfl rfl fun _ h => by obtain ⟨e', _, rfl⟩ := h; rfl
theorem ft_z2 : FT (In [nY, nZ]) nZ (.name nZ (some (0, 1))) 1 0 := FT.sym (b := 122) (w := []) rfl rfl rfl rfl fun _ h => by obtain ⟨e', _, rfl⟩ := h; rfl

def pickN (c : Int) (n : Nat) : Nat := ((if c < 0 then -(c + 1) else c) % (n : Int)).toNat
theorem pickN_lt (c : Int) (n : Nat) (h : 0 < n) : pickN c n < n := by
  unfold pickN
  split
  · have h1 := Int.emod_nonneg (-(c + 1)) (b := (n : Int)) (by omega)
    have h2 := Int.emod_lt_of_pos (-(c + 1)) (b := (n : Int)) (by omega)
    omega
  · have h1 := Int.emod_nonneg c (b := (n : Int)) (by omega)
    have h2 := Int.emod_lt_of_pos c (b := (n : Int)) (by omega)
    omega
def nextN (n : Nat) : List Int → Nat × List Int
  | [] => (0, [])
  | c :: r => (pickN c n, r)
theorem nextN_lt (n : Nat) (l : List Int) (h : 0 < n) : (nextN n l).1 < n := by
  cases l with
  | nil => exact h
  | cons c r => exact pickN_lt c n h

/-- The form (lambda (y z) (- z y)). -/
def lamT : List UInt8 := [40, 108, 97, 109, 98, 100, 97, 32, 40, 121, 32, 122, 41, 32, 40, 45, 32, 122, 32, 121, 41, 41]
def lamF : F := .lam 2 [.call [.name (nameAt 2) none, .name nZ (some (0, 1)), .name nY (some (0, 0))]]
theorem ft_lam : FT Free lamT lamF 12 3 := by
  have hb := FT.call (ft_minus.mono (E' := In [nY, nZ]) (In.free (by decide)) (Nat.le_refl _) (Nat.le_refl _)) (FTL.two ft_z2 ft_y2 (Nat.le_refl _))
  have hp : DtL (fun ds => names ds [] = some [nY, nZ]) (nY ++ 32 :: nZ) 5 0 := (DtL.cons dt_y (DtL.one dt_z (Nat.le_refl _)).blank (stops_blank _)).mono (by
    rintro ds ⟨d, ds', rfl, ⟨p, rfl⟩, d', rfl, ⟨p', rfl⟩⟩
    rfl) (by omega) (by omega)
  exact (FT.lam (E := Free) hp (FTL.one hb (by omega)) (by omega) (by omega) (by omega)).mono (fun _ e => e) (by omega) (by omega)

/-- What the op at number c makes of two texts. -/
def opT (c : Nat) (a b : List UInt8) : List UInt8 := match c with
  | 0 => [40, 45, 32] ++ a ++ [32] ++ b ++ [41]
  | 1 => [40, 108, 101, 116, 32, 40, 40, 118, 32] ++ a ++ [41, 41, 32, 40, 43, 32, 118, 32] ++ b ++ [41, 41]
  | 2 => [40, 105, 102, 32, 40, 60, 32] ++ a ++ [32] ++ b ++ [41, 32, 49, 32, 48, 41]
  | 3 => [40, 98, 101, 103, 105, 110, 32] ++ a ++ [32] ++ b ++ [41]
  | 4 => [40] ++ lamT ++ [32] ++ a ++ [32] ++ b ++ [41]
  | 5 => [40, 99, 97, 114, 32, 40, 99, 100, 114, 32, 40, 108, 105, 115, 116, 32] ++ a ++ [32] ++ b ++ [41, 41, 41]
  | _ => [40, 43, 32] ++ a ++ [32] ++ b ++ [41]
def opV (c : Nat) (p q : Int) : Int := match c with
  | 0 => p - q
  | 1 => p + q
  | 2 => if p < q then 1 else 0
  | 3 => q
  | 4 => q - p
  | 5 => q
  | _ => p + q
def opF (c : Nat) (a b : F) : F := match c with
  | 0 => .call [.name (nameAt 2) none, a, b]
  | 1 => .let_ [a] [.call [.name (nameAt 0) none, .name nV (some (0, 0)), b]]
  | 2 => .ite (.call [.name (nameAt 5) none, a, b]) (.const (.num 1)) (.const (.num 0))
  | 3 => .begin_ [a, b]
  | 4 => .call [lamF, a, b]
  | 5 => .call [.name (nameAt 9) none, .call [.name (nameAt 10) none, .call [.name (nameAt 11) none, a, b]]]
  | _ => .call [.name (nameAt 0) none, a, b]
theorem ft_op (c : Nat) {a b : List UInt8} {x y : F} {K H : Nat} (ha : FT Free a x K H) (hb : FT Free b y K H) (hK : 1 ≤ K) : FT Free (opT c a b) (opF c x y) (K + 20) (H + 4) := by
  have go : ∀ {l : List UInt8} {z : F} {K' H' : Nat}, FT Free l z K' H' → K' ≤ K + 20 → H' ≤ H + 4 → l = opT c a b → FT Free (opT c a b) z (K + 20) (H + 4) := fun h h1 h2 e => e ▸ h.mono (fun _ e => e) h1 h2
  have n1 : FT Free [49] (.const (.num 1)) 1 0 := FT.num (n := 1) (by decide +kernel)
  have n0 : FT Free [48] (.const (.num 0)) 1 0 := FT.num (n := 0) (by decide +kernel)
  match c with
  | 0 => exact go (FT.call ft_minus (FTL.two ha hb hK)) (by omega) (by omega) (by simp [opT, nameAt])
  | 1 => exact go (FT.let1 (n := nV) rfl dt_v ha (FT.call (ft_plus.mono (E' := In [nV]) (In.free (by decide)) (Nat.le_refl _) (Nat.le_refl _)) (FTL.two ft_v (hb.mono (In.free (by decide)) (Nat.le_refl _) (Nat.le_refl _)) hK)) hK (by omega)) (by omega) (by omega) (by simp [opT, nameAt, kwLet, nV])
  | 2 => exact go (FT.ite (FTL.more (FT.call ft_less (FTL.two ha hb hK)) (FTL.two n1 n0 (by omega))) (by omega)) (by omega) (by omega) (by simp [opT, nameAt, kwIf])
  | 3 => exact go (FT.begin_ (FTL.two ha hb hK) (by omega)) (by omega) (by omega) (by simp [opT, kwBegin])
  | 4 => exact go (FT.call ft_lam (FTL.two ha hb hK)) (by omega) (by omega) (by simp [opT])
  | 5 => exact go (FT.call ft_car (FTL.one (FT.call ft_cdr (FTL.one (FT.call ft_list (FTL.two ha hb hK)) (by omega))) (by omega))) (by omega) (by omega) (by simp [opT, nameAt])
  | _ + 6 => exact go (FT.call ft_plus (FTL.two ha hb hK)) (by omega) (by omega) (by simp [opT, nameAt])
end Rd
end Go.Proofs.YtodeeegbajgafaaGreatDoor

namespace Go.Proofs.YtodeeegbajgafaaGreatDoor
namespace Rd
open Mc
/-- The names are there. -/
def Has (G : List (Sym × V)) : Prop := ∀ i ∈ [0, 1, 2, 5, 9, 10, 11], find? (nameAt i) G = some (.basic i)
def num (n : Int) : V := .atom (.num n)
theorem inRange_of {n : Int} (h0 : -1000000000 ≤ n) (h1 : n ≤ 1000000000) : inRange n = true := by
  simp [inRange]; omega
theorem add2 {p q : Int} (h0 : -1000000 ≤ p) (h1 : p ≤ 1000000) (h2 : -1000000 ≤ q) (h3 : q ≤ 1000000) : basicDo 0 [num p, num q] = some (.val (num (p + q))) := by
  show ((fold (· + ·) 0 [p, q]).map fun n => Res.val (.atom (.num n))) = _
  simp only [fold]
  rw [if_pos (inRange_of (by omega) (by omega)), if_pos (inRange_of (by omega) (by omega)), Int.zero_add]
  rfl
theorem sub2 {p q : Int} (h0 : -1000000 ≤ p) (h1 : p ≤ 1000000) (h2 : -1000000 ≤ q) (h3 : q ≤ 1000000) : basicDo 2 [num p, num q] = some (.val (num (p - q))) := by
  show ((fold (· - ·) p [q]).map fun n => Res.val (.atom (.num n))) = _
  simp only [fold]
  rw [if_pos (inRange_of (by omega) (by omega))]
  rfl
theorem mul3 {p : Int} (h0 : -1000000 ≤ p) (h1 : p ≤ 1000000) : basicDo 1 [num 3, num p] = some (.val (num (3 * p))) := by
  show ((fold (· * ·) 1 [3, p]).map fun n => Res.val (.atom (.num n))) = _
  simp only [fold]
  rw [if_pos (inRange_of (by omega) (by omega)), if_pos (inRange_of (by omega) (by omega))]
  rfl
theorem less2 (p q : Int) : basicDo 5 [num p, num q] = some (.val (.atom (.truth (decide (p < q))))) := rfl

theorem ev_op {G : List (Sym × V)} {sn : List (List UInt8)} (hG : Has G) (c : Nat) {x y : F} {p q : Int} {k m : Nat} (hx : ∀ e, Ev G sn x e (num p) k) (hy : ∀ e, Ev G sn y e (num q) m) (h0 : -1000000 ≤ p) (h1 : p ≤ 1000000) (h2 : -1000000 ≤ q) (h3 : q ≤ 1000000) :
    ∃ n, n ≤ k + m + 10 ∧ ∀ e, Ev G sn (opF c x y) e (num (opV c p q)) n := by
  have g : ∀ i, i ∈ [0, 1, 2, 5, 9, 10, 11] → ∀ e, Ev G sn (.name (nameAt i) none) e (.basic i) 1 := fun i hi e => .global (hG i hi) e
  match c with
  | 0 => exact ⟨_, by omega, fun e => .basic (.three (g 2 (by decide) e) (hx e) (hy e)) (sub2 h0 h1 h2 h3)⟩
  | 1 => exact ⟨k + 1 + (1 + (1 + m) + 1), by omega, fun e => .let1 (.one (hx e)) (.basic (.three (g 0 (by decide) _) (.loc rfl (by omega)) (hy _)) (add2 h0 h1 h2 h3))⟩
  | 2 =>
    refine ⟨1 + (1 + (k + m) + 1) + 1, by omega, fun e => ?_⟩
    refine .ite (.basic (.three (g 5 (by decide) e) (hx e) (hy e)) (less2 p q)) ?_
    by_cases h : p < q
    · have e1 : opV 2 p q = 1 := if_pos h
      rw [e1, show (V.atom (.truth (decide (p < q)))).isTrue = true from by simp [V.isTrue, h], if_pos rfl]
      exact .const _ _
    · have e1 : opV 2 p q = 0 := if_neg h
      have e2 : decide (p < q) = false := decide_eq_false h
      rw [e1, e2]
      exact .const _ _
  | 3 => exact ⟨1 + k + m, by omega, fun e => .begin2 (hx e) (hy e)⟩
  | 4 => exact ⟨1 + (k + m) + 1 + (1 + (1 + 1) + 1), by omega, fun e => .clo1 (.three (.lam _ _ _) (hx e) (hy e)) rfl (.basic (.three (g 2 (by decide) _) (.loc rfl (by omega)) (.loc rfl (by omega))) (sub2 h2 h3 h0 h1))⟩
  | 5 => exact ⟨1 + (1 + (1 + (k + m) + 1) + 1) + 1, by omega, fun e => .basic (.two (g 9 (by decide) e) (.basic (.two (g 10 (by decide) e) (.basic (.three (g 11 (by decide) e) (hx e) (hy e)) rfl)) rfl)) rfl⟩
  | _ + 6 => exact ⟨_, by omega, fun e => .basic (.three (g 0 (by decide) e) (hx e) (hy e)) (add2 h0 h1 h2 h3)⟩

/-- A form so deep out of raw numbers: its text, what it comes to, and the numbers that are left. -/
def mkSum (x : Int) : Nat → List Int → List UInt8 × Int × List Int
  | 0, raw => match nextN 3 raw with
    | (0, r) => (nX', x, r)
    | (_ + 1, r) => match nextN 19 r with
      | (b, r) => (Lib.itoa ((b : Int) - 9), (b : Int) - 9, r)
  | d + 1, raw => match mkSum x d raw with
    | (a, p, r1) => match mkSum x d r1 with
      | (b, q, r2) => match nextN 8 r2 with
        | (c, r3) => (opT c a b, opV c p q, r3)

def lim : Nat → Int
  | 0 => 100
  | d + 1 => 2 * lim d
theorem lim_pos : ∀ d, 100 ≤ lim d
  | 0 => by simp [lim]
  | d + 1 => by have := lim_pos d; simp [lim]; omega
theorem opV_lim (c : Nat) {p q L : Int} (_hL : 1 ≤ L) (h0 : -L ≤ p) (h1 : p ≤ L) (h2 : -L ≤ q) (h3 : q ≤ L) : -(2 * L) ≤ opV c p q ∧ opV c p q ≤ 2 * L := by
  unfold opV
  split <;> omega

theorem mkSum_ok {G : List (Sym × V)} {sn : List (List UInt8)} (hG : Has G) {x : Int} (hx : find? nX' G = some (num x)) (h0 : -100 < x) (h1 : x ≤ 100) : ∀ (d : Nat) (raw : List Int), d ≤ 3 → ∃ (F : F) (k : Nat), FT Free (mkSum x d raw).1 F (20 * d + 1) (4 * d) ∧ k + 10 ≤ 11 * 2 ^ d ∧ (∀ e, Ev G sn F e (num (mkSum x d raw).2.1) k) ∧ -(lim d) ≤ (mkSum x d raw).2.1 ∧ (mkSum x d raw).2.1 ≤ lim d
  | 0, raw, _ => by
    rw [mkSum]
    have hn := nextN_lt 3 raw (by omega)
    generalize nextN 3 raw = nx at hn
    obtain ⟨a, r⟩ := nx
    cases a with
    | zero => exact ⟨_, 1, ft_x, by decide, fun e => .global hx e, by simp [lim]; omega, by simp [lim]; omega⟩
    | succ a =>
      have hn' := nextN_lt 19 r (by omega)
      generalize hq : nextN 19 r = nx at hn'
      obtain ⟨b, r'⟩ := nx
      simp only at hn'
      simp only [hq]
      exact ⟨_, 1, FT.num (numW_itoa (by omega) (by omega)), by decide, fun e => .const _ e, by simp [lim]; omega, by simp [lim]; omega⟩
  | d + 1, raw, hd => by
    obtain ⟨F1, k1, i1, i2, i3, i4, i5⟩ := mkSum_ok (sn := sn) hG hx h0 h1 d raw (by omega)
    obtain ⟨F2, k2, j1, j2, j3, j4, j5⟩ := mkSum_ok (sn := sn) hG hx h0 h1 d (mkSum x d raw).2.2 (by omega)
    rw [mkSum]
    generalize h : mkSum x d raw = m1 at *
    obtain ⟨a, p, r1⟩ := m1
    simp only at *
    generalize h' : mkSum x d r1 = m2 at *
    obtain ⟨b, q, r2⟩ := m2
    simp only at *
    generalize h'' : nextN 8 r2 = m3 at *
    obtain ⟨c, r3⟩ := m3
    simp only at *
    have hl : lim d ≤ 1000000 := by
      have : d = 0 ∨ d = 1 ∨ d = 2 := by omega
      rcases this with rfl | rfl | rfl <;> decide
    have hl' := lim_pos d
    obtain ⟨n, hn, he⟩ := ev_op (sn := sn) hG c i3 j3 (by omega) (by omega) (by omega) (by omega)
    obtain ⟨o1, o2⟩ := opV_lim c (by omega) i4 i5 j4 j5
    refine ⟨opF c F1 F2, n, (ft_op c i1 j1 (by omega)).mono (fun _ e => e) (by omega) (by omega), ?_, he, ?_, ?_⟩
    · rw [Nat.pow_succ]; omega
    · simp only [lim]; omega
    · simp only [lim]; omega
end Rd
end Go.Proofs.YtodeeegbajgafaaGreatDoor

namespace Go.Proofs.YtodeeegbajgafaaGreatDoor
namespace Rd
open Mc
theorem ev_op' {G : List (Sym × V)} (hG : Has G) (c : Nat) {x y : F} {p q : Int} {k m : Nat} (hx : ∀ sn e, Ev G sn x e (num p) k) (hy : ∀ sn e, Ev G sn y e (num q) m) (h0 : -1000000 ≤ p) (h1 : p ≤ 1000000) (h2 : -1000000 ≤ q) (h3 : q ≤ 1000000) :
    ∃ n, n ≤ k + m + 10 ∧ ∀ sn e, Ev G sn (opF c x y) e (num (opV c p q)) n := by
  have g : ∀ i, i ∈ [0, 1, 2, 5, 9, 10, 11] → ∀ sn e, Ev G sn (.name (nameAt i) none) e (.basic i) 1 := fun i hi sn e => .global (hG i hi) e
  match c with
  | 0 => exact ⟨_, by omega, fun sn e => .basic (.three (g 2 (by decide) sn e) (hx sn e) (hy sn e)) (sub2 h0 h1 h2 h3)⟩
  | 1 => exact ⟨k + 1 + (1 + (1 + m) + 1), by omega, fun sn e => .let1 (.one (hx sn e)) (.basic (.three (g 0 (by decide) sn _) (.loc rfl (by omega)) (hy sn _)) (add2 h0 h1 h2 h3))⟩
  | 2 =>
    refine ⟨1 + (1 + (k + m) + 1) + 1, by omega, fun sn e => ?_⟩
    refine .ite (.basic (.three (g 5 (by decide) sn e) (hx sn e) (hy sn e)) (less2 p q)) ?_
    by_cases h : p < q
    · have e1 : opV 2 p q = 1 := if_pos h
      rw [e1, show (V.atom (.truth (decide (p < q)))).isTrue = true from by simp [V.isTrue, h], if_pos rfl]
      exact .const _ _
    · have e1 : opV 2 p q = 0 := if_neg h
      have e2 : decide (p < q) = false := decide_eq_false h
      rw [e1, e2]
      exact .const _ _
  | 3 => exact ⟨1 + k + m, by omega, fun sn e => .begin2 (hx sn e) (hy sn e)⟩
  | 4 => exact ⟨1 + (k + m) + 1 + (1 + (1 + 1) + 1), by omega, fun sn e => .clo1 (.three (.lam _ _ _) (hx sn e) (hy sn e)) rfl (.basic (.three (g 2 (by decide) sn _) (.loc rfl (by omega)) (.loc rfl (by omega))) (sub2 h2 h3 h0 h1))⟩
  | 5 => exact ⟨1 + (1 + (1 + (k + m) + 1) + 1) + 1, by omega, fun sn e => .basic (.two (g 9 (by decide) sn e) (.basic (.two (g 10 (by decide) sn e) (.basic (.three (g 11 (by decide) sn e) (hx sn e) (hy sn e)) rfl)) rfl)) rfl⟩
  | _ + 6 => exact ⟨_, by omega, fun sn e => .basic (.three (g 0 (by decide) sn e) (hx sn e) (hy sn e)) (add2 h0 h1 h2 h3)⟩
theorem opT_len (c : Nat) (a b : List UInt8) : (opT c a b).length ≤ a.length + b.length + 30 := by
  unfold opT lamT
  split <;> simp <;> omega
/-- Bounds that double. -/
theorem mkSum_big {G : List (Sym × V)} (hG : Has G) {x L : Int} (hx : find? nX' G = some (num x)) (h0 : -L ≤ x) (h1 : x ≤ L) (hL : 100 ≤ L) (hL' : L ≤ 100000) : ∀ (d : Nat) (raw : List Int), d ≤ 2 → ∃ (F : F) (k : Nat), FT Free (mkSum x d raw).1 F (20 * d + 1) (4 * d) ∧ k + 10 ≤ 11 * 2 ^ d ∧ (∀ sn e, Ev G sn F e (num (mkSum x d raw).2.1) k) ∧ -(2 ^ d * L) ≤ (mkSum x d raw).2.1 ∧ (mkSum x d raw).2.1 ≤ 2 ^ d * L ∧ (mkSum x d raw).1.length + 30 ≤ 34 * 2 ^ d
  | 0, raw, _ => by
    rw [mkSum]
    have hn := nextN_lt 3 raw (by omega)
    generalize nextN 3 raw = nx at hn
    obtain ⟨a, r⟩ := nx
    cases a with
    | zero => exact ⟨_, 1, ft_x, by decide, fun sn e => .global hx e, by simp; omega, by simp; omega, by simp [nX']⟩
    | succ a =>
      have hn' := nextN_lt 19 r (by omega)
      generalize hq : nextN 19 r = nx at hn'
      obtain ⟨b, r'⟩ := nx
      simp only at hn'
      simp only [hq]
      have hw := numW_itoa (n := (b : Int) - 9) (by omega) (by omega)
      exact ⟨_, 1, FT.num hw, by decide, fun sn e => .const _ e, by simp; omega, by simp; omega, by have := hw.short; omega⟩
  | d + 1, raw, hd => by
    obtain ⟨F1, k1, i1, i2, i3, i4, i5, i6⟩ := mkSum_big hG hx h0 h1 hL hL' d raw (by omega)
    obtain ⟨F2, k2, j1, j2, j3, j4, j5, j6⟩ := mkSum_big hG hx h0 h1 hL hL' d (mkSum x d raw).2.2 (by omega)
    rw [mkSum]
    generalize h : mkSum x d raw = m1 at *
    obtain ⟨a, p, r1⟩ := m1
    simp only at *
    generalize h' : mkSum x d r1 = m2 at *
    obtain ⟨b, q, r2⟩ := m2
    simp only at *
    generalize h'' : nextN 8 r2 = m3 at *
    obtain ⟨c, r3⟩ := m3
    simp only at *
    have hl : (2 : Int) ^ d * L ≤ 200000 ∧ 1 ≤ (2 : Int) ^ d * L := by
      have : d = 0 ∨ d = 1 := by omega
      rcases this with rfl | rfl <;> constructor <;> simp <;> omega
    have hs : (2 : Int) ^ (d + 1) * L = 2 * (2 ^ d * L) := by rw [Int.pow_succ, Int.mul_comm (2 ^ d) 2, Int.mul_assoc]
    have hs' : 2 ^ (d + 1) = 2 * 2 ^ d := by rw [Nat.pow_succ]; omega
    rw [hs, hs']
    generalize (2 : Int) ^ d * L = Z at *
    obtain ⟨n, hn, he⟩ := ev_op' hG c i3 j3 (by omega) (by omega) (by omega) (by omega)
    obtain ⟨o1, o2⟩ := opV_lim c (by omega) i4 i5 j4 j5
    have hlen := opT_len c a b
    exact ⟨opF c F1 F2, n, (ft_op c i1 j1 (by omega)).mono (fun _ e => e) (by omega) (by omega), by omega, he, o1, o2, by omega⟩
end Rd
end Go.Proofs.YtodeeegbajgafaaGreatDoor

namespace Go.Proofs.YtodeeegbajgafaaGreatDoor
namespace Rd
open Mc
/-- Numbers are shown. -/
def shI : V → Option (List UInt8)
  | .atom (.num n) => if inRange n then some (Lib.itoa n) else none
  | _ => none
def GX (n : Int) : List (Sym × V) := G0 ++ [(nX', num n)]
theorem GX_has (n : Int) : Has (GX n) := by
  intro i hi
  simp only [List.mem_cons, List.not_mem_nil, or_false] at hi
  rcases hi with rfl | rfl | rfl | rfl | rfl | rfl | rfl <;> rfl
theorem GX_x (n : Int) : find? nX' (GX n) = some (num n) := rfl
theorem GX_put (n p : Int) : put nX' (num p) (GX n) = GX p := rfl
theorem GX_disp (n : Int) : find? (nameAt 20) (GX n) = some (.basic 20) := rfl
/-- A form does this with the names and what is shown. -/
def Does (f : F) (G G' : List (Sym × V)) (sh : List (List UInt8)) (v : V) (k : Nat) : Prop := ∀ (fuel : Nat) (sn : List (List UInt8)) (c : Nat), c + k ≤ fuel → sn.length < 1000 → Goes fuel shI (at_ G sn (.ev f []) [] [] c) (at_ G' (sn ++ sh) (.val v) [] [] (c + k))
/-- (display s) -/
def dispT (s : List UInt8) : List UInt8 := [40, 100, 105, 115, 112, 108, 97, 121, 32] ++ s ++ [41]
def dispF (x : F) : F := .call [.name (nameAt 20) none, x]
/-- (set! x s) -/
def setT (s : List UInt8) : List UInt8 := [40, 115, 101, 116, 33, 32, 120, 32] ++ s ++ [41]
def setF (x : F) : F := .set_ nX' none x
/-- (+ x 0) -/
def lastT : List UInt8 := [40, 43, 32, 120, 32, 48, 41]
def lastF : F := .call [.name (nameAt 0) none, .name nX' none, .const (.num 0)]
theorem ft_disp0 : FT Free (nameAt 20) (.name (nameAt 20) none) 1 0 := FT.sym (b := 100) (w := [105, 115, 112, 108, 97, 121]) rfl rfl rfl rfl fun _ h => h.find (by decide) 0
theorem dt_x' : Dt (fun d => ∃ p, d = .mk p [] (.sym nX')) nX' 1 0 := Dt.kw (b := 120) (w := []) rfl rfl rfl
theorem ft_disp {s : List UInt8} {x : F} {K H : Nat} (h : FT Free s x K H) (hK : 1 ≤ K) : FT Free (dispT s) (dispF x) (K + 10) (H + 1) := by
  have i := FT.call ft_disp0 (FTL.one h hK)
  have e : 40 :: (nameAt 20 ++ 32 :: s ++ [41]) = dispT s := by simp [dispT, nameAt]
  rw [e] at i
  exact i.mono (fun _ e => e) (by omega) (by omega)
theorem pForm_set {f : Nat} {env : List (List Sym)} {p p0 p1 : Nat} {n : Sym} {v : D} {x : F} (hn : keys.contains n = false) (h : pForm f env v = some x) : pForm (f + 1) env (.mk p [.mk p0 [] (.sym kwSet), .mk p1 [] (.sym n), v] .empty) = some (.set_ n (findName n env 0) x) := by
  rw [pForm_cons, if_neg (by simp), D.sym_leaf]
  show (match (D.mk p1 [] (.sym n)).name with | some n => (pForm f env v).map (F.set_ n (findName n env 0) ·) | none => none) = _
  rw [D.name_leaf _ _ hn]
  show ((pForm f env v).map (F.set_ n (findName n env 0) ·)) = _
  rw [h]; rfl
theorem ft_set {s : List UInt8} {x : F} {K H : Nat} (h : FT Free s x K H) (hK : 1 ≤ K) : FT Free (setT s) (setF x) (K + 10) (H + 1) := by
  have i := Dt.list (DtL.cons dt_set (DtL.more dt_x' (DtL.one h hK).blank (stops_blank _)) (stops_blank _))
  have e : 40 :: (kwSet ++ 32 :: (nX' ++ 32 :: s) ++ [41]) = setT s := by simp [setT, kwSet, nX']
  rw [e] at i
  refine Dt.mono i ?_ (by omega) (by omega)
  rintro d ⟨p, ds, rfl, d0, ds', rfl, ⟨p0, rfl⟩, d1, ds'', rfl, ⟨p1, rfl⟩, v, rfl, hv⟩
  refine ⟨(fun n h => by cases h), fun env he f hf => ?_⟩
  obtain ⟨f, rfl⟩ : ∃ g, f = g + 1 := ⟨f - 1, by omega⟩
  rw [pForm_set (by decide) (hv.2 env he f (by omega)), Free.find (by decide) he 0]
  rfl
theorem ft_last : FT Free lastT lastF 5 1 :=
  (FT.call ft_plus (FTL.two ft_x (FT.num (n := 0) (l := [48]) (by decide +kernel)) (Nat.le_refl _))).mono (fun _ e => e) (by decide) (by decide)

theorem does_disp {n p : Int} {x : F} {k : Nat} (h : ∀ sn e, Ev (GX n) sn x e (num p) k) (h0 : -1000000 ≤ p) (h1 : p ≤ 1000000) : Does (dispF x) (GX n) (GX n) [Lib.itoa p] (.atom .empty) (1 + k + 1) := fun fuel sn c hc hsn =>
  call_goes (.two (.global (GX_disp n) _) (h sn [])) hc fun u _ => by
    have hs : shI (num p) = some (Lib.itoa p) := by
      show (if inRange p then _ else _) = _
      rw [if_pos (inRange_of (by omega) (by omega))]
    show (match shI (num p) with
        | some t => if sn.length < 1000000 then some ({ at_ (GX n) sn (.val u) [] [] (c + (1 + k + 1)) with shown := (at_ (GX n) sn (.val u) [] [] (c + (1 + k + 1))).shown ++ [t] }.give (.atom .empty)) else none
        | none => none) = _
    rw [hs]
    simp only
    rw [if_pos (by omega)]
    rfl
theorem does_set {n p : Int} {x : F} {k : Nat} (h : ∀ sn e, Ev (GX n) sn x e (num p) k) : Does (setF x) (GX n) (GX p) [] (.atom .empty) (1 + k) := fun fuel sn c hc _ => by
  refine Goes.first (t := at_ (GX n) sn (.ev x []) [.set_ nX' x []] [] (c + 1)) (by rw [round_ev (by omega)]; rfl) ?_
  refine (h sn [] fuel shI _ [] (c + 1) (by omega)).trans ?_
  rw [List.append_nil, show c + (1 + k) = c + 1 + k from by omega]
  exact Goes.one (by rw [round_val]; rfl)
theorem does_last {n : Int} (h0 : -1000000 ≤ n) (h1 : n ≤ 1000000) : Does lastF (GX n) (GX n) [] (num n) 4 := fun fuel sn c hc _ => by
  have := Ev.basic (G := GX n) (sn := sn) (e := []) (i := 0) (.three (.global (GX_has n 0 (by decide)) _) (.global (GX_x n) _) (.const (.num 0) _)) (add2 (p := n) (q := 0) h0 h1 (by omega) (by omega)) fuel shI [] [] c hc
  rw [Int.add_zero] at this
  rw [List.append_nil]
  exact this
def defF' (n : Int) : F := .define nX' (.const (.num n))
theorem does_def (n : Int) : Does (defF' n) G0 (GX n) [] (.atom (.sym nX')) 2 := fun fuel sn c hc _ => by
  refine Goes.first (t := at_ G0 sn (.ev (.const (.num n)) []) [.define nX' (.const (.num n))] [] (c + 1)) (by rw [round_ev (by omega)]; rfl) ?_
  refine (Ev.const (.num n) [] fuel shI _ [] (c + 1) (by omega)).trans ?_
  rw [List.append_nil]
  exact Goes.one (by rw [round_val]; rfl)

/-- One form of a source: its text, and what it does. -/
structure Pc where
  txt : List UInt8
  f : F
  G' : List (Sym × V)
  sh : List (List UInt8)
  v : V
  out : List UInt8
  k : Nat
/-- Forms that follow one another. -/
inductive Chain : List (Sym × V) → List Pc → Prop
  | nil (G : List (Sym × V)) : Chain G []
  | cons {G : List (Sym × V)} {p : Pc} {ps : List Pc} (h : Does p.f G p.G' p.sh p.v p.k) (h' : Chain p.G' ps) : Chain G (p :: ps)
def stepsOf (ps : List Pc) : Nat := (ps.map (·.k)).sum
def shownOf (ps : List Pc) : List (List UInt8) := ps.flatMap (·.sh)
def outOf : List Pc → List UInt8 → List UInt8
  | [], a => a
  | p :: ps, _ => outOf ps p.out
def vOf : List Pc → V → V
  | [], a => a
  | p :: ps, _ => vOf ps p.v
def gOf : List Pc → List (Sym × V) → List (Sym × V)
  | [], G => G
  | p :: ps, _ => gOf ps p.G'
theorem Chain.ends {F : Nat} : ∀ {ps : List Pc} {p : Pc} {G : List (Sym × V)} {sn : List (List UInt8)} {c : Nat} {v0 : V}, Chain G (p :: ps) → c + stepsOf (p :: ps) ≤ F → sn.length + (shownOf (p :: ps)).length < 1000 → Mc.Ends F shI (at_ G sn (.val v0) [] [] c) ((p :: ps).map (·.f)) (at_ (gOf (p :: ps) G) (sn ++ shownOf (p :: ps)) (.val (vOf (p :: ps) v0)) [] [] (c + stepsOf (p :: ps)))
  | [], p, G, sn, c, v0, h, hc, hs => by
    cases h with
    | cons h h' =>
    obtain ⟨n, hn⟩ := h F sn c (by simpa [stepsOf] using hc) (by omega)
    have e : at_ (gOf [p] G) (sn ++ shownOf [p]) (.val (vOf [p] v0)) [] [] (c + stepsOf [p]) = at_ p.G' (sn ++ p.sh) (.val p.v) [] [] (c + p.k) := by simp [gOf, shownOf, vOf, stepsOf]
    rw [e]
    exact .one (s := at_ G sn (.val v0) [] [] c) hn (Or.inr ⟨⟨_, rfl⟩, rfl, rfl⟩)
  | q :: ps, p, G, sn, c, v0, h, hc, hsn => by
    cases h with
    | cons h h' =>
    have hs : stepsOf (p :: q :: ps) = p.k + stepsOf (q :: ps) := by simp [stepsOf]
    rw [hs] at hc
    obtain ⟨n, hn⟩ := h F sn c (by omega) (by omega)
    have ih := Chain.ends (F := F) (sn := sn ++ p.sh) (c := c + p.k) (v0 := p.v) h' (by omega) (by simp [shownOf] at hsn ⊢; omega)
    have e : at_ (gOf (q :: ps) p.G') (sn ++ p.sh ++ shownOf (q :: ps)) (.val (vOf (q :: ps) p.v)) [] [] (c + p.k + stepsOf (q :: ps)) = at_ (gOf (p :: q :: ps) G) (sn ++ shownOf (p :: q :: ps)) (.val (vOf (p :: q :: ps) v0)) [] [] (c + stepsOf (p :: q :: ps)) := by
      rw [hs, List.append_assoc, Nat.add_assoc]
      simp [shownOf, gOf, vOf]
    rw [e] at ih
    exact .more (s := at_ G sn (.val v0) [] [] c) hn (Or.inr ⟨⟨_, rfl⟩, rfl, rfl⟩) rfl ih

/-- The texts of forms out of raw numbers, and what x stands for behind them. -/
def mkForms : Nat → Int → List Int → List (List UInt8) × Int
  | 0, n, _ => ([], n)
  | k + 1, n, raw => match mkSum n 1 raw with
    | (s, p, r) => match nextN 3 r with
      | (0, r') => (setT s :: (mkForms k p r').1, (mkForms k p r').2)
      | (_ + 1, r') => (dispT s :: (mkForms k n r').1, (mkForms k n r').2)
/-- Pieces whose texts are forms. -/
def Fine (ps : List Pc) : Prop := ∀ p ∈ ps, FT Free p.txt p.f 31 9 ∧ p.txt.length ≤ 60 ∧ (p.v = .atom .empty ∧ p.out = [40, 41] ∨ ∃ n : Int, -1000000 ≤ n ∧ n ≤ 1000000 ∧ p.v = num n ∧ p.out = Lib.itoa n) ∧ p.k ≤ 40 ∧ p.sh.length ≤ 1
theorem mkForms_ok : ∀ (k : Nat) (n : Int) (raw : List Int) (L : Int), k ≤ 5 → -L ≤ n → n ≤ L → 100 ≤ L → L * 2 ^ k ≤ 100000 → ∃ ps : List Pc, ps.map (·.txt) = (mkForms k n raw).1 ∧ ps.length = k ∧ Fine ps ∧ ∃ m, m = (mkForms k n raw).2 ∧ -(L * 2 ^ k) ≤ m ∧ m ≤ L * 2 ^ k ∧ Chain (GX n) (ps ++ [⟨lastT, lastF, GX m, [], num m, Lib.itoa m, 4⟩])
  | 0, n, raw, L, _, h0, h1, hL, hL' => ⟨[], rfl, rfl, (fun _ h => by cases h), n, rfl, by simpa using h0, by simpa using h1, .cons (does_last (by simp at hL'; omega) (by simp at hL'; omega)) (.nil _)⟩
  | k + 1, n, raw, L, hk, h0, h1, hL, hL' => by
    have hs : L * 2 ^ (k + 1) = 2 * L * 2 ^ k := by rw [Int.pow_succ, Int.mul_comm (2 ^ k) 2, ← Int.mul_assoc, Int.mul_comm L 2]
    rw [hs] at hL' ⊢
    have hp1 : (1 : Int) ≤ 2 ^ k := by
      have := Int.pow_pos (n := 2) (m := k) (by decide)
      omega
    have hLL : 2 * L ≤ 2 * L * 2 ^ k := by
      have := Int.mul_le_mul_of_nonneg_left hp1 (show (0 : Int) ≤ 2 * L by omega)
      omega
    obtain ⟨F, kk, i1, i2, i3, i4, i5, i6⟩ := mkSum_big (GX_has n) (GX_x n) h0 h1 hL (by omega) 1 raw (by omega)
    rw [mkForms]
    generalize mkSum n 1 raw = ms at *
    obtain ⟨s, p, r⟩ := ms
    simp only at *
    generalize nextN 3 r = nx
    obtain ⟨c, r'⟩ := nx
    rw [show (2 : Int) ^ 1 = 2 from rfl] at i4 i5
    rw [show 2 ^ 1 = 2 from rfl] at i2 i6
    cases c with
    | zero =>
      obtain ⟨ps, j1, j2, j3, m, j4, j5, j6, j7⟩ := mkForms_ok k p r' (2 * L) (by omega) (by omega) (by omega) (by omega) hL'
      refine ⟨⟨setT s, setF F, GX p, [], .atom .empty, [40, 41], 1 + kk⟩ :: ps, by simp [j1], by simp [j2], ?_, m, j4, j5, j6, .cons (does_set i3) j7⟩
      intro q hq
      rcases List.mem_cons.1 hq with rfl | hq
      · exact ⟨(ft_set i1 (by omega)).mono (fun _ e => e) (by omega) (by omega), by simp [setT]; omega, Or.inl ⟨rfl, rfl⟩, by simp only; omega, by simp⟩
      · exact j3 q hq
    | succ c =>
      obtain ⟨ps, j1, j2, j3, m, j4, j5, j6, j7⟩ := mkForms_ok k n r' (2 * L) (by omega) (by omega) (by omega) (by omega) hL'
      refine ⟨⟨dispT s, dispF F, GX n, [Lib.itoa p], .atom .empty, [40, 41], 1 + kk + 1⟩ :: ps, by simp [j1], by simp [j2], ?_, m, j4, j5, j6, .cons (does_disp i3 (by omega) (by omega)) j7⟩
      intro q hq
      rcases List.mem_cons.1 hq with rfl | hq
      · exact ⟨(ft_disp i1 (by omega)).mono (fun _ e => e) (by omega) (by omega), by simp [dispT]; omega, Or.inl ⟨rfl, rfl⟩, by simp only; omega, by simp⟩
      · exact j3 q hq
end Rd
end Go.Proofs.YtodeeegbajgafaaGreatDoor
