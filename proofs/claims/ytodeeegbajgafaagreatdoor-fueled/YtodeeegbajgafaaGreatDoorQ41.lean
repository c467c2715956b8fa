/- What a source reads as is no longer than the source, and its numbers fit. What a source reads as: its numbers fit and its symbols are no longer than the source. Written by gen_kfine.py. -/
import Derived.Lib.ParseIntBTie
import Derived.Test.YtodeeegbajgafaaGreatDoorQ40
import Derived.Test.YtodeeegbajgafaaGreatDoorQ29
namespace Go.Proofs.YtodeeegbajgafaaGreatDoor
open Mc
theorem szL_app : ∀ (a b : List Rd.D), szL (a ++ b) = szL a + szL b
  | [], b => by rw [List.nil_append, szL]; omega
  | d :: a, b => by rw [List.cons_append, szL, szL_app a b, szL]; omega
theorem okL_app : ∀ (a b : List Rd.D), okL a → okL b → okL (a ++ b)
  | [], b, _, h => h
  | d :: a, b, h, k => by
    rw [okL] at h
    rw [List.cons_append, okL]
    exact ⟨h.1, okL_app a b h.2 k⟩
/-- What is read is small. -/
def Small {α : Type} (l : List UInt8) (ok : α → Prop) (sz : α → Nat) : Rd.RR α → Prop
  | .ok a l' _ => ok a ∧ sz a + 2 * l'.length ≤ 2 * l.length
  | .bad _ => True
theorem small_all (hA : ∀ l a, Rd.atomOf l = some a → okA a) : ∀ (f : Nat), (∀ n dep l, Small l okD szD (Rd.tD f n dep l)) ∧ (∀ n dep l, Small l okL szL (Rd.tL f n dep l))
  | 0 => ⟨fun _ _ l => by rw [Rd.tD]; trivial, fun _ _ l => by rw [Rd.tL]; trivial⟩
  | f + 1 => by
    obtain ⟨h1, h2⟩ := small_all hA f
    refine ⟨fun n dep l => ?_, fun n dep l => ?_⟩
    · rw [Rd.tD]
      split
      · rename_i hk
        have hl := Rd.next_lt (l := l) (by omega)
        split
        · rename_i a ha
          exact ⟨by rw [okD, okL]; exact ⟨hA _ _ ha, trivial⟩, by rw [szD, szL]; omega⟩
        · trivial
      · split
        · rename_i hk
          have hl := Rd.next_lt (l := l) (by omega)
          have := h1 n (dep + 1) (Rd.skip (Rd.behind l))
          revert this
          generalize Rd.tD f n (dep + 1) (Rd.skip (Rd.behind l)) = r
          cases r with
          | bad l' => exact fun _ => trivial
          | ok d l' m =>
            rintro ⟨a, b⟩
            exact ⟨by simp [Rd.quoteD, okD, okL, okA, a], by simp only [Rd.quoteD, szD, szL]; omega⟩
        · split
          · rename_i hk
            have hl := Rd.next_lt (l := l) (by omega)
            have := h2 n (dep + 1) (Rd.skip (Rd.behind l))
            revert this
            generalize Rd.tL f n (dep + 1) (Rd.skip (Rd.behind l)) = r
            cases r with
            | bad l' => exact fun _ => trivial
            | ok ds l' m =>
              rintro ⟨a, b⟩
              simp only
              split
              · rename_i h3
                have hl2 := Rd.next_lt (l := l') (by omega)
                have := h1 n (dep + 1) (Rd.skip (Rd.behind l'))
                revert this
                generalize Rd.tD f n (dep + 1) (Rd.skip (Rd.behind l')) = r2
                cases r2 with
                | bad l'' => exact fun _ => trivial
                | ok t l'' m' =>
                  rintro ⟨a', b'⟩
                  unfold Rd.shutT
                  simp only
                  split
                  · rename_i h4
                    have hl3 := Rd.next_lt (l := l'') (by omega)
                    obtain ⟨tp, tds, ten⟩ := t
                    rw [okD] at a'
                    rw [szD] at b'
                    refine ⟨?_, ?_⟩
                    · show okD (.mk _ (ds ++ tds) ten)
                      rw [okD]
                      exact ⟨a'.1, okL_app _ _ a a'.2⟩
                    · show szD (.mk _ (ds ++ tds) ten) + _ ≤ _
                      rw [szD, szL_app]
                      omega
                  · trivial
              · unfold Rd.shutL
                split
                · rename_i h4
                  have hl3 := Rd.next_lt (l := l') (by omega)
                  refine ⟨by rw [okD]; exact ⟨trivial, a⟩, ?_⟩
                  rw [szD]
                  omega
                · trivial
          · trivial
    · rw [Rd.tL]
      split
      · have := h1 n dep l
        revert this
        generalize Rd.tD f n dep l = r
        cases r with
        | bad l' => exact fun _ => trivial
        | ok d l' m =>
          rintro ⟨a, b⟩
          simp only
          have := h2 n dep l'
          revert this
          generalize Rd.tL f n dep l' = r2
          cases r2 with
          | bad l'' => exact fun _ => trivial
          | ok ds l'' m' =>
            rintro ⟨a', b'⟩
            refine ⟨by rw [okL]; exact ⟨a, a'⟩, ?_⟩
            rw [szL]
            omega
      · exact ⟨by rw [okL]; trivial, by rw [szL]; omega⟩
theorem atom_okA (l : List UInt8) (a : Rd.A) (h : Rd.atomOf l = some a) : okA a := by
  cases a with
  | num n =>
    unfold Rd.atomOf at h
    split at h
    · cases h
    · split at h
      · cases h
      · split at h
        · cases h
        · split at h
          · cases h
          · split at h
            · split at h
              · rename_i v hv
                cases h
                have := Lib.parseIntB_bounds hv
                rw [show (2 ^ (64 - 1) : Nat) = 9223372036854775808 from rfl] at this
                exact ⟨by omega, by omega⟩
              · cases h
            · cases h
  | _ => trivial
theorem tL_small (f n dep : Nat) (l : List UInt8) : Small l okL szL (Rd.tL f n dep l) := (small_all atom_okA f).2 n dep l
/-- What a source reads as. -/
theorem readT_small (s : ByteArray) (ds : List Rd.D) (h : Rd.readT s = .ok ds) : okL ds ∧ szL ds ≤ 1000 := by
  unfold Rd.readT at h
  split at h
  · cases h
  · have hl : (Rd.skip s.data.toList).length ≤ s.size := by have := (Rd.skip_suffix s.data.toList).length_le; simpa using this
    have := tL_small 1002 s.size 0 (Rd.skip s.data.toList)
    revert h this
    generalize Rd.tL 1002 s.size 0 (Rd.skip s.data.toList) = r
    cases r with
    | bad l' => intro h; cases h
    | ok ds' l' m =>
      rw [Rd.readOf]
      intro h hs
      split at h
      · split at h
        · cases h
        · cases h
          exact ⟨hs.1, by have := hs.2; omega⟩
      · cases h
end Go.Proofs.YtodeeegbajgafaaGreatDoor

namespace Go.Proofs.YtodeeegbajgafaaGreatDoor
open Mc
def fnA : Rd.A → Prop := Kc.fineA
mutual
def fnD : Rd.D → Prop
  | .mk _ ds en => fnA en ∧ fnL ds
def fnL : List Rd.D → Prop
  | [] => True
  | d :: ds => fnD d ∧ fnL ds
end
theorem fnL_app : ∀ (a b : List Rd.D), fnL a → fnL b → fnL (a ++ b)
  | [], b, _, h => h
  | d :: a, b, h, k => by
    rw [fnL] at h
    rw [List.cons_append, fnL]
    exact ⟨h.1, fnL_app a b h.2 k⟩
theorem fine_list {e : Kc.V} (he : Kc.fine e) : ∀ {vs : List Kc.V}, (∀ v, v ∈ vs → Kc.fine v) → Kc.fine (Kc.listE e vs)
  | [], _ => he
  | v :: _, h => by
    rw [Kc.listE, Kc.fine]
    exact ⟨h v List.mem_cons_self, fine_list he fun u hu => h u (List.mem_cons_of_mem _ hu)⟩
mutual
theorem fine_ofD : ∀ (d : Rd.D), fnD d → Kc.fine (Kc.valD d)
  | .mk _ ds en, h => by
    rw [fnD] at h
    rw [Kc.valD]
    exact fine_list (e := .atom en) h.1 (fine_ofL ds h.2)
theorem fine_ofL : ∀ (ds : List Rd.D), fnL ds → ∀ v, v ∈ Kc.valL ds → Kc.fine v
  | [], _, v, h => by rw [Kc.valL] at h; cases h
  | d :: ds, hf, v, h => by
    rw [fnL] at hf
    rw [Kc.valL] at h
    rcases List.mem_cons.1 h with rfl | h
    · exact fine_ofD d hf.1
    · exact fine_ofL ds hf.2 v h
end
theorem text_le (l : List UInt8) : (Rd.textOf l).length ≤ l.length := by have := Rd.text_len l; omega
theorem fine_all (hA : ∀ l a, l.length ≤ 500 → Rd.atomOf l = some a → fnA a) : ∀ (f : Nat), (∀ n dep l, l.length ≤ 500 → Small l fnD szD (Rd.tD f n dep l)) ∧ (∀ n dep l, l.length ≤ 500 → Small l fnL szL (Rd.tL f n dep l))
  | 0 => ⟨fun _ _ l _ => by rw [Rd.tD]; trivial, fun _ _ l _ => by rw [Rd.tL]; trivial⟩
  | f + 1 => by
    obtain ⟨h1, h2⟩ := fine_all hA f
    refine ⟨fun n dep l hl0 => ?_, fun n dep l hl0 => ?_⟩
    · rw [Rd.tD]
      split
      · rename_i hk
        have hl := Rd.next_lt (l := l) (by omega)
        split
        · rename_i a ha
          exact ⟨by rw [fnD, fnL]; exact ⟨hA _ _ (Nat.le_trans (text_le l) hl0) ha, trivial⟩, by rw [szD, szL]; omega⟩
        · trivial
      · split
        · rename_i hk
          have hl := Rd.next_lt (l := l) (by omega)
          have := h1 n (dep + 1) (Rd.skip (Rd.behind l)) (by omega)
          revert this
          generalize Rd.tD f n (dep + 1) (Rd.skip (Rd.behind l)) = r
          cases r with
          | bad l' => exact fun _ => trivial
          | ok d l' m =>
            rintro ⟨a, b⟩
            exact ⟨by simp [Rd.quoteD, fnD, fnL, fnA, Kc.fineA, Rd.kwQuote, a], by simp only [Rd.quoteD, szD, szL]; omega⟩
        · split
          · rename_i hk
            have hl := Rd.next_lt (l := l) (by omega)
            have := h2 n (dep + 1) (Rd.skip (Rd.behind l)) (by omega)
            revert this
            generalize Rd.tL f n (dep + 1) (Rd.skip (Rd.behind l)) = r
            cases r with
            | bad l' => exact fun _ => trivial
            | ok ds l' m =>
              rintro ⟨a, b⟩
              simp only
              split
              · rename_i h3
                have hl2 := Rd.next_lt (l := l') (by omega)
                have := h1 n (dep + 1) (Rd.skip (Rd.behind l')) (by omega)
                revert this
                generalize Rd.tD f n (dep + 1) (Rd.skip (Rd.behind l')) = r2
                cases r2 with
                | bad l'' => exact fun _ => trivial
                | ok t l'' m' =>
                  rintro ⟨a', b'⟩
                  unfold Rd.shutT
                  simp only
                  split
                  · rename_i h4
                    have hl3 := Rd.next_lt (l := l'') (by omega)
                    obtain ⟨tp, tds, ten⟩ := t
                    rw [fnD] at a'
                    rw [szD] at b'
                    refine ⟨?_, ?_⟩
                    · show fnD (.mk _ (ds ++ tds) ten)
                      rw [fnD]
                      exact ⟨a'.1, fnL_app _ _ a a'.2⟩
                    · show szD (.mk _ (ds ++ tds) ten) + _ ≤ _
                      rw [szD, szL_app]
                      omega
                  · trivial
              · unfold Rd.shutL
                split
                · rename_i h4
                  have hl3 := Rd.next_lt (l := l') (by omega)
                  refine ⟨by rw [fnD]; exact ⟨trivial, a⟩, ?_⟩
                  rw [szD]
                  omega
                · trivial
          · trivial
    · rw [Rd.tL]
      split
      · have := h1 n dep l hl0
        revert this
        generalize Rd.tD f n dep l = r
        cases r with
        | bad l' => exact fun _ => trivial
        | ok d l' m =>
          rintro ⟨a, b⟩
          simp only
          have := h2 n dep l' (by omega)
          revert this
          generalize Rd.tL f n dep l' = r2
          cases r2 with
          | bad l'' => exact fun _ => trivial
          | ok ds l'' m' =>
            rintro ⟨a', b'⟩
            refine ⟨by rw [fnL]; exact ⟨a, a'⟩, ?_⟩
            rw [szL]
            omega
      · exact ⟨by rw [fnL]; trivial, by rw [szL]; omega⟩
theorem atom_fnA (l : List UInt8) (a : Rd.A) (hl : l.length ≤ 500) (h : Rd.atomOf l = some a) : fnA a := by
  have hk := atom_okA l a h
  cases a with
  | num n => exact hk
  | sym m =>
    show m.length ≤ 500
    unfold Rd.atomOf at h
    repeat' split at h
    all_goals first | (cases h; done) | (cases h; exact hl)
  | _ => trivial
theorem readT_fine (s : ByteArray) (ds : List Rd.D) (h : Rd.readT s = .ok ds) : ∀ d, d ∈ ds → Kc.fine (Kc.valD d) := by
  unfold Rd.readT at h
  split at h
  · cases h
  · rename_i hsz
    have hl : (Rd.skip s.data.toList).length ≤ s.size := by have := (Rd.skip_suffix s.data.toList).length_le; simpa using this
    have := (fine_all atom_fnA 1002).2 s.size 0 (Rd.skip s.data.toList) (by omega)
    revert h this
    generalize Rd.tL 1002 s.size 0 (Rd.skip s.data.toList) = r
    cases r with
    | bad l' => intro h; cases h
    | ok ds' l' m =>
      rw [Rd.readOf]
      intro h hs
      split at h
      · split at h
        · cases h
        · cases h
          exact fun d hd => fine_ofL _ hs.1 _ (Kc.valL_mem hd)
      · cases h
end Go.Proofs.YtodeeegbajgafaaGreatDoor
