/- What a source reads as is no longer than the source, and its numbers fit. -/
import Derived.Lib.ParseIntBTie
import Derived.Test.YtodeeegbajgafaaGreatDoorQ35
namespace Go.Proofs.YtodeeegbajgafaaGreatDoor
open Mc
theorem szL_app : ∀ (a b : List Rd.D), szL (a ++ b) = szL a + szL b
  | [], b => by rw [List.nil_append, szL]; omega
  | d :: a, b => by rw [List.cons_append, szL, szL_app a b, szL]; omega
theorem okL_app : ∀ (a b : List Rd.D), okL a → okL b → okL (a ++ b)
  | [], b, _, h => h
  | d :: a, b, h, k => by
    rw [okL] at h
    rw [List.cons_append, okL]
    exact ⟨h.1, okL_app a b h.2 k⟩
/-- What is read is small. -/
def Small {α : Type} (l : List UInt8) (ok : α → Prop) (sz : α → Nat) : Rd.RR α → Prop
  | .ok a l' _ => ok a ∧ sz a + 2 * l'.length ≤ 2 * l.length
  | .bad _ => True
theorem small_all (hA : ∀ l a, Rd.atomOf l = some a → okA a) : ∀ (f : Nat), (∀ n dep l, Small l okD szD (Rd.tD f n dep l)) ∧ (∀ n dep l, Small l okL szL (Rd.tL f n dep l))
  | 0 => ⟨fun _ _ l => by rw [Rd.tD]; trivial, fun _ _ l => by rw [Rd.tL]; trivial⟩
  | f + 1 => by
    obtain ⟨h1, h2⟩ := small_all hA f
    refine ⟨fun n dep l => ?_, fun n dep l => ?_⟩
    · rw [Rd.tD]
      split
      · rename_i hk
        have hl := Rd.next_lt (l := l) (by omega)
        split
        · rename_i a ha
          exact ⟨by rw [okD, okL]; exact ⟨hA _ _ ha, trivial⟩, by rw [szD, szL]; omega⟩
        · trivial
      · split
        · rename_i hk
          have hl := Rd.next_lt (l := l) (by omega)
          have := h1 n (dep + 1) (Rd.skip (Rd.behind l))
          revert this
          generalize Rd.tD f n (dep + 1) (Rd.skip (Rd.behind l)) = r
          cases r with
          | bad l' => exact fun _ => trivial
          | ok d l' m =>
            rintro ⟨a, b⟩
            exact ⟨by simp [Rd.quoteD, okD, okL, okA, a], by simp only [Rd.quoteD, szD, szL]; omega⟩
        · split
          · rename_i hk
            have hl := Rd.next_lt (l := l) (by omega)
            have := h2 n (dep + 1) (Rd.skip (Rd.behind l))
            revert this
            generalize Rd.tL f n (dep + 1) (Rd.skip (Rd.behind l)) = r
            cases r with
            | bad l' => exact fun _ => trivial
            | ok ds l' m =>
              rintro ⟨a, b⟩
              simp only
              split
              · rename_i h3
                have hl2 := Rd.next_lt (l := l') (by omega)
                have := h1 n (dep + 1) (Rd.skip (Rd.behind l'))
                revert this
                generalize Rd.tD f n (dep + 1) (Rd.skip (Rd.behind l')) = r2
                cases r2 with
                | bad l'' => exact fun _ => trivial
                | ok t l'' m' =>
                  rintro ⟨a', b'⟩
                  unfold Rd.shutT
                  simp only
                  split
                  · rename_i h4
                    have hl3 := Rd.next_lt (l := l'') (by omega)
                    obtain ⟨tp, tds, ten⟩ := t
                    rw [okD] at a'
                    rw [szD] at b'
                    refine ⟨?_, ?_⟩
                    · show okD (.mk _ (ds ++ tds) ten)
                      rw [okD]
                      exact ⟨a'.1, okL_app _ _ a a'.2⟩
                    · show szD (.mk _ (ds ++ tds) ten) + _ ≤ _
                      rw [szD, szL_app]
                      omega
                  · trivial
              · unfold Rd.shutL
                split
                · rename_i h4
                  have hl3 := Rd.next_lt (l := l') (by omega)
                  refine ⟨by rw [okD]; exact ⟨trivial, a⟩, ?_⟩
                  rw [szD]
                  omega
                · trivial
          · trivial
    · rw [Rd.tL]
      split
      · have := h1 n dep l
        revert this
        generalize Rd.tD f n dep l = r
        cases r with
        | bad l' => exact fun _ => trivial
        | ok d l' m =>
          rintro ⟨a, b⟩
          simp only
          have := h2 n dep l'
          revert this
          generalize Rd.tL f n dep l' = r2
          cases r2 with
          | bad l'' => exact fun _ => trivial
          | ok ds l'' m' =>
            rintro ⟨a', b'⟩
            refine ⟨by rw [okL]; exact ⟨a, a'⟩, ?_⟩
            rw [szL]
            omega
      · exact ⟨by rw [okL]; trivial, by rw [szL]; omega⟩
theorem atom_okA (l : List UInt8) (a : Rd.A) (h : Rd.atomOf l = some a) : okA a := by
  cases a with
  | num n =>
    unfold Rd.atomOf at h
    split at h
    · cases h
    · split at h
      · cases h
      · split at h
        · cases h
        · split at h
          · cases h
          · split at h
            · split at h
              · rename_i v hv
                cases h
                have := Lib.parseIntB_bounds hv
                rw [show (2 ^ (64 - 1) : Nat) = 9223372036854775808 from rfl] at this
                exact ⟨by omega, by omega⟩
              · cases h
            · cases h
  | _ => trivial
theorem tL_small (f n dep : Nat) (l : List UInt8) : Small l okL szL (Rd.tL f n dep l) := (small_all atom_okA f).2 n dep l
/-- What a source reads as. -/
theorem readT_small (s : ByteArray) (ds : List Rd.D) (h : Rd.readT s = .ok ds) : okL ds ∧ szL ds ≤ 1000 := by
  unfold Rd.readT at h
  split at h
  · cases h
  · have hl : (Rd.skip s.data.toList).length ≤ s.size := by have := (Rd.skip_suffix s.data.toList).length_le; simpa using this
    have := tL_small 1002 s.size 0 (Rd.skip s.data.toList)
    revert h this
    generalize Rd.tL 1002 s.size 0 (Rd.skip s.data.toList) = r
    cases r with
    | bad l' => intro h; cases h
    | ok ds' l' m =>
      rw [Rd.readOf]
      intro h hs
      split at h
      · split at h
        · cases h
        · cases h
          exact ⟨hs.1, by have := hs.2; omega⟩
      · cases h
end Go.Proofs.YtodeeegbajgafaaGreatDoor
