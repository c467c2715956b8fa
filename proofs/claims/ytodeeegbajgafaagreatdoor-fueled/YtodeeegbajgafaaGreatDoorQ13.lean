/- A scope is entered, and left. A scope is left. -/
import Derived.Test.YtodeeegbajgafaaGreatDoorQ10
import Derived.Deep.LoopGhost
namespace Go.Proofs.YtodeeegbajgafaaGreatDoor
open Go.RowKit
/-- The slice holds these names. -/
def RepN (ok : Nat → Prop) (w : World) (sl : Value) (ns : List Rd.Sym) : Prop :=
  (sl = .slice none 0 0 ∧ ns = []) ∨ ∃ g cap c T, sl = .slice (some ⟨g, 0, none⟩) ns.length cap ∧ ok g ∧ w.heap[g]? = some (.cells c T (0, 0)) ∧ ns.length ≤ cap ∧ ∀ i (h : i < ns.length), c[i]? = some (symV ns[i])
theorem RepN.mono {ok ok' : Nat → Prop} {w w' : World} {v : Value} {ns : List Rd.Sym} (h : RepN ok w v ns) (hk : ∀ k, k < w.heap.size → ok k → ok' k ∧ w'.heap[k]? = w.heap[k]?) : RepN ok' w' v ns := by
  rcases h with h | ⟨g, cap, c, T, h1, hg, hh, hn, hc⟩
  · exact Or.inl h
  · obtain ⟨k1, k2⟩ := hk g (lt_of_at hh) hg
    exact Or.inr ⟨g, cap, c, T, h1, k1, k2.trans hh, hn, hc⟩
theorem RepN.shape {ok : Nat → Prop} {w : World} {v : Value} {ns : List Rd.Sym} (h : RepN ok w v ns) : ∃ b cap, v = .slice b ns.length cap ∧ ns.length ≤ cap := by
  rcases h with ⟨rfl, rfl⟩ | ⟨g, cap, c, T, rfl, _, _, hn, _⟩
  · exact ⟨none, 0, rfl, Nat.le_refl _⟩
  · exact ⟨_, cap, rfl, hn⟩
theorem RepN.cell {ok : Nat → Prop} {w : World} {v : Value} {ns : List Rd.Sym} (h : RepN ok w v ns) (i : Nat) (hi : i < ns.length) : ∃ g cap, v = .slice (some ⟨g, 0, none⟩) ns.length cap ∧ ok g ∧ ns.length ≤ cap ∧ w.cell? ⟨g, i, none⟩ = some (symV ns[i]) := by
  rcases h with ⟨rfl, rfl⟩ | ⟨g, cap, c, T, rfl, hg, hh, hn, hc⟩
  · exact absurd hi (Nat.not_lt_zero _)
  · exact ⟨g, cap, rfl, hg, hn, (cell_of_at hh i).trans (hc i hi)⟩
/-- Names all different. -/
def Differ (ns : List Rd.Sym) : Prop := ∀ i j (hi : i < ns.length) (hj : j < ns.length), i < j → ns[i] ≠ ns[j]
theorem level_append (d : Nat) : ∀ (ns ms : List Rd.Sym) (i : Nat), level d (ns ++ ms) i = level d ns i ++ level d ms (i + ns.length)
  | [], ms, i => rfl
  | n :: ns, ms, i => by
    simp only [List.cons_append, level, level_append d ns ms (i + 1), List.length_cons]
    rw [show i + 1 + ns.length = i + (ns.length + 1) by omega]
theorem spotIx_level_none (d : Nat) (n : Rd.Sym) : ∀ (ns : List Rd.Sym) (i j : Nat), (∀ m ∈ ns, m ≠ n) → spotIx d n (level d ns i) j = none
  | [], _, _, _ => rfl
  | m :: ns, i, j, h => by
    have h1 : (n == m) = false := by
      have := h m (by simp)
      simpa using fun e => this e.symm
    simp only [level, spotIx, beq_self_eq_true, Bool.true_and, h1, Bool.false_eq_true, if_false]
    exact spotIx_level_none d n ns (i + 1) (j + 1) fun x hx => h x (by simp [hx])
/-- The slots of a scope that has been entered as far as its first k names. -/
def slotsTo (env : List (List Rd.Sym)) (ns : List Rd.Sym) (k : Nat) : List (Nat × List UInt8 × Nat) := slotsOf env ++ level (env.length + 1) (ns.take k) 0
theorem slotsTo_none (env : List (List Rd.Sym)) (ns : List Rd.Sym) (k : Nat) (hk : k < ns.length) (hd : Differ ns) : spotIx (env.length + 1) ns[k] (slotsTo env ns k) 0 = none := by
  unfold slotsTo
  rw [spotIx_append]
  rw [spotIx_none_of _ _ _ _ (fun x hx => by have := slots_depth env x hx; omega)]
  refine spotIx_level_none _ _ _ _ _ ?_
  intro m hm
  obtain ⟨i, hi, rfl⟩ := List.getElem_of_mem hm
  simp only [List.length_take] at hi
  rw [List.getElem_take]
  exact hd i k (by omega) hk (by omega)
theorem slotsTo_succ (env : List (List Rd.Sym)) (ns : List Rd.Sym) (k : Nat) (hk : k < ns.length) : slotsTo env ns k ++ [(env.length + 1, ns[k], k)] = slotsTo env ns (k + 1) := by
  unfold slotsTo
  rw [List.take_succ_eq_append_getElem hk, level_append, List.append_assoc]
  simp [level]
  omega
end Go.Proofs.YtodeeegbajgafaaGreatDoor

namespace Go.Proofs.YtodeeegbajgafaaGreatDoor
open Go.RowKit
/-- The slots of a scope that has been left as far as its first k names. -/
def slotsFrom (env : List (List Rd.Sym)) (ns : List Rd.Sym) (k : Nat) : List (Nat × List UInt8 × Nat) := slotsOf env ++ level (env.length + 1) (ns.drop k) k
theorem slotsFrom_ix (env : List (List Rd.Sym)) (ns : List Rd.Sym) (k : Nat) (hk : k < ns.length) : spotIx (env.length + 1) ns[k] (slotsFrom env ns k) 0 = some ((slotsOf env).length, k) := by
  unfold slotsFrom
  rw [spotIx_append, spotIx_none_of _ _ _ _ (fun x hx => by have := slots_depth env x hx; omega), List.drop_eq_getElem_cons hk]
  simp [level, spotIx]
theorem slotsFrom_erase (env : List (List Rd.Sym)) (ns : List Rd.Sym) (k : Nat) (hk : k < ns.length) : (slotsFrom env ns k).eraseIdx (slotsOf env).length = slotsFrom env ns (k + 1) := by
  unfold slotsFrom
  rw [List.drop_eq_getElem_cons hk]
  simp only [level]
  rw [List.eraseIdx_append_of_length_le (Nat.le_refl _), Nat.sub_self, List.eraseIdx_cons_zero]
end Go.Proofs.YtodeeegbajgafaaGreatDoor
