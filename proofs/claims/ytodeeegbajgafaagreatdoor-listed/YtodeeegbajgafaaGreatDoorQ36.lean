/- Sources that are run as they stand. -/
import Derived.Test.YtodeeegbajgafaaGreatDoorQ33
import Derived.Test.YtodeeegbajgafaaGreatDoorQ35
namespace Go.Proofs.YtodeeegbajgafaaGreatDoor
open Go.RowKit
open Mc

def dsOf (l : List UInt8) : List Rd.D := match Rd.rdList 300 l.length 0 (Rd.skip l) with
  | some (ds, _, _) => ds
  | none => []
def fsOf (l : List UInt8) : List Rd.F := (Rd.pTops 300 (dsOf l)).getD []
def isSrc (l : List UInt8) : Bool := decide (l.length ≤ 500) && (match Rd.rdList 300 l.length 0 (Rd.skip l) with
  | some (ds, l', m) => decide (Rd.kindAt l' = 0) && decide (m ≤ 20) && decide (ds.length ≤ 4000) && !ds.isEmpty
  | none => false) && (Rd.pTops 300 (dsOf l)).isSome
theorem Forms.of {l : List UInt8} (h : isSrc l = true) : Forms l (fsOf l) := by
  simp only [isSrc, Bool.and_eq_true, decide_eq_true_eq] at h
  obtain ⟨⟨h1, h2⟩, h3⟩ := h
  split at h2
  · rename_i ds l' m hr
    simp only [Bool.and_eq_true, decide_eq_true_eq, Bool.not_eq_true'] at h2
    obtain ⟨⟨⟨h4, h5⟩, h6⟩, h7⟩ := h2
    have hd : dsOf l = ds := by unfold dsOf; rw [hr]
    obtain ⟨fs, hfs⟩ := Option.isSome_iff_exists.1 h3
    have hsz : (⟨l.toArray⟩ : ByteArray).size = l.length := by show l.toArray.size = _; simp
    refine ⟨h1, ds, 300, ⟨by rw [hsz]; exact h1, 300, l', m, by omega, ?_, h4, h5⟩, by omega, ?_, h6, ?_⟩
    · rw [hsz]
      exact hr
    · unfold fsOf
      rw [hfs]
      rw [hd] at hfs
      exact hfs
    · rintro rfl
      cases h7
  · cases h2

def iter (F : Nat) (sh : V → Option (List UInt8)) : Nat → St → St
  | 0, s => s
  | n + 1, s => match s.round F sh with
    | some s' => iter F sh n s'
    | none => s
theorem iter_runs (F : Nat) (sh : V → Option (List UInt8)) : ∀ (n : Nat) (s : St), ∃ k, Runs F sh k s (iter F sh n s)
  | 0, s => ⟨0, .nil _⟩
  | n + 1, s => by
    rw [iter]
    split
    · rename_i s' h
      obtain ⟨k, hk⟩ := iter_runs F sh n s'
      exact ⟨k + 1, .cons h hk⟩
    · exact ⟨0, .nil _⟩
def endedB (t : St) : Bool := t.kind != 0 || ((match t.ctl with | .val _ => true | .ev _ _ => false) && t.todo.isEmpty && t.beyond.isEmpty)
theorem endedB_ended {t : St} (h : endedB t = true) : t.ended := by
  obtain ⟨ctl, todo, beyond, steps, kind, why, G, shown⟩ := t
  simp only [endedB, Bool.or_eq_true, Bool.and_eq_true, bne_iff_ne, List.isEmpty_iff] at h
  rcases h with h | ⟨⟨h1, h2⟩, h3⟩
  · exact Or.inl h
  · refine Or.inr ⟨?_, h2, h3⟩
    cases ctl with
    | ev => cases h1
    | val v => exact ⟨v, rfl⟩
/-- Forms in turn. -/
def endsAt (F : Nat) (sh : V → Option (List UInt8)) (s : St) : List Rd.F → Option St
  | [] => none
  | [f] => if endedB (iter F sh 200 (s.eval f [])) then some (iter F sh 200 (s.eval f [])) else none
  | f :: f' :: fs => if endedB (iter F sh 200 (s.eval f [])) && (iter F sh 200 (s.eval f [])).kind == 0 then endsAt F sh (iter F sh 200 (s.eval f [])) (f' :: fs) else none
theorem endsAt_ends {F : Nat} {sh : V → Option (List UInt8)} : ∀ {fs : List Rd.F} {s t : St}, endsAt F sh s fs = some t → Mc.Ends F sh s fs t
  | [], _, _, h => by cases h
  | [f], s, t, h => by
    rw [endsAt] at h
    split at h
    · rename_i he
      cases h
      obtain ⟨k, hk⟩ := iter_runs F sh 200 (s.eval f [])
      exact .one hk (endedB_ended he)
    · cases h
  | f :: f' :: fs, s, t, h => by
    rw [endsAt] at h
    split at h
    · rename_i he
      simp only [Bool.and_eq_true, beq_iff_eq] at he
      obtain ⟨k, hk⟩ := iter_runs F sh 200 (s.eval f [])
      exact .more hk (endedB_ended he.1) he.2 (endsAt_ends h)
    · cases h
def shN : V → Option (List UInt8) := fun _ => none
theorem callN : CallC shN := callC_any shN showC_none

theorem ShowsAs.num {n : Int} (h0 : -9223372036854775808 ≤ n) (h1 : n ≤ 9223372036854775807) (hne : Lib.itoa n ≠ []) : ShowsAs (.atom (.num n)) (Lib.itoa n) := fun mb ok w x h ht => by
  obtain rfl := h.atom_inv
  exact show_num n h0 h1 hne w ht
theorem ShowsAs.sym {s : List UInt8} (hne : s ≠ []) (hl : s.length ≤ 1000) : ShowsAs (.atom (.sym s)) s := fun mb ok w x h ht => by
  obtain rfl := h.atom_inv
  exact show_sym s hne hl w
theorem ShowsAs.empty : ShowsAs (.atom .empty) [40, 41] := fun mb ok w x h ht => by
  obtain rfl := h.atom_inv
  exact show_empty w
theorem ShowsAs.nums {m : Int} {ns : List Int} (hns : ∀ k ∈ m :: ns, -100 < k ∧ k < 1000) (hl : ns.length ≤ 100) : ShowsAs (listV ((m :: ns).map numV)) (40 :: (Lib.itoa m ++ (Rd.numsT ns ++ [41]))) := fun mb ok w x h ht => show_nums mb ok m ns hns hl w ht x h

def src1 : List UInt8 := [40, 100, 101, 102, 105, 110, 101, 32, 107, 32, 48, 41, 32, 40, 114, 101, 115, 101, 116, 32, 40, 43, 32, 49, 32, 40, 115, 104, 105, 102, 116, 32, 99, 32, 40, 98, 101, 103, 105, 110, 32, 40, 115, 101, 116, 33, 32, 107, 32, 99, 41, 32, 48, 41, 41, 41, 41, 32, 40, 107, 32, 49, 48, 41]
def src2 : List UInt8 := [40, 99, 97, 114, 32, 49, 41]
theorem isSrc1 : isSrc src1 = true := by decide +kernel
theorem isSrc2 : isSrc src2 = true := by decide +kernel
noncomputable def st1 : St := (endsAt 20000 shN (begin_ G0) (fsOf src1)).getD (begin_ G0)
noncomputable def st2 : St := (endsAt 20000 shN (begin_ st1.G) (fsOf src2)).getD (begin_ G0)
set_option maxRecDepth 100000 in
theorem ends1 : endsAt 20000 shN (begin_ G0) (fsOf src1) = some st1 := rfl
set_option maxRecDepth 100000 in
theorem ends2 : endsAt 20000 shN (begin_ st1.G) (fsOf src2) = some st2 := rfl
set_option maxRecDepth 100000 in
theorem st1_ctl : st1.ctl = .val (.atom (.num 11)) ∧ st1.kind = 0 := ⟨rfl, rfl⟩
set_option maxRecDepth 100000 in
theorem st2_kind : st2.kind = 2 ∧ st2.why = 2 := ⟨rfl, rfl⟩
set_option maxRecDepth 100000 in
theorem src_ne : fsOf src1 ≠ [] ∧ fsOf src2 ≠ [] := ⟨(fun e => by cases e), (fun e => by cases e)⟩
end Go.Proofs.YtodeeegbajgafaaGreatDoor
