/- The reader reads data one behind the other. -/
import Derived.Test.YtodeeegbajgafaaGreatDoorQ17
import Derived.Deep.LoopGhost
import Derived.Maps.AppendAt
namespace Go.Proofs.YtodeeegbajgafaaGreatDoor
open Go.RowKit
/-- The own row of a slice: what its three cells an element are. -/
def el3 (xs : List Value) (i : Nat) : Value := .agg #[xs.getD (3 * i) undef, xs.getD (3 * i + 1) undef, xs.getD (3 * i + 2) undef]
/-- The loop's relation: 'v' holds the data that are read, 'lc' is what is left. -/
theorem ownsRow_kept {B : Nat} {e size n : Nat} {v : Value} {xs : List Value} {M : Nat → Prop} {w w' : World} (h : w.ownsRow B e size v n xs) (hk : Kept M w w') (hm : ∀ g, B ≤ g → ¬ M g) : w'.ownsRow B e size v n xs := by
  obtain ⟨h1, h2 | ⟨g, cap, cur, hv, hg, hh, r⟩⟩ := h
  · exact ⟨h1, Or.inl h2⟩
  · exact ⟨h1, Or.inr ⟨g, cap, cur, hv, hg, hk.at (hm g hg) hh, r⟩⟩
theorem ownBlock_of {B : Nat} {e size n : Nat} {v : Value} {xs : List Value} {w : World} (h : w.ownsRow B e size v n xs) : ∀ g, v.ownBlock = some g → B ≤ g ∧ g < w.heap.size := by
  intro g hg
  obtain ⟨_, ⟨rfl, _⟩ | ⟨g', cap, cur, rfl, hB, hh, _⟩⟩ := h
  · cases hg
  · cases hg; exact ⟨hB, lt_of_at hh⟩
theorem Tryz.info62 : (Tryz.prog.info? 62).map (fun i => (i.zero, i.size, i.bytes)) = some (some (.agg #[.int .i64 0, .slice none 0 0, .nilIface]), 3, 48) := by kernel_rfl
/-- The end: the own row is a slice of data. -/
theorem own_reps {B : Nat} {w : World} {v : Value} {ds : List Rd.D} {xs : List Value} (ho : w.ownsRow B 62 3 v ds.length xs) (hs : ∀ i (hi : i < ds.length), RepD (fun k => B ≤ k ∧ some k ≠ v.ownBlock) w (el3 xs i) ds[i]) :
    RepS (fun k => B ≤ k) w v ds := by
  obtain ⟨hx, h | ⟨g, cap, cur, rfl, hg, hh, hn, hcap, hcs, htk⟩⟩ := ho
  · obtain ⟨rfl, h0⟩ := h
    exact Or.inl ⟨rfl, List.length_eq_zero_iff.1 h0⟩
  · refine Or.inr ⟨g, 0, cap, cur, 62, fun i => xs.getD (3 * i) undef, fun i => xs.getD (3 * i + 1) undef, fun i => xs.getD (3 * i + 2) undef, rfl, hg, hh, hn, ?_, fun i hi => (hs i hi).mono fun k _ h => ⟨h.1, rfl⟩⟩
    intro i hi
    have key : ∀ j, j < ds.length * 3 → cur[j]? = some (xs.getD j undef) := by
      intro j hj
      have h1 : (cur.toList.take (ds.length * 3))[j]? = xs[j]? := by rw [htk]
      rw [List.getElem?_take, if_pos hj] at h1
      rw [← Array.getElem?_toList, h1, List.getD_eq_getElem?_getD, List.getElem?_eq_getElem (by omega)]
      rfl
    refine ⟨?_, ?_, ?_⟩
    · rw [Nat.zero_add]; exact key _ (by omega)
    · rw [Nat.zero_add]; exact key _ (by omega)
    · rw [Nat.zero_add]; exact key _ (by omega)
theorem cell_three {W : World} {k : Nat} {a b c : Value} {T : TypeId} (h : W.heap[k]? = some (.cells #[a, b, c] T (0, 0))) :
    ∀ j u, [a, b, c][j]? = some u → W.cell? ((⟨k, 0, none⟩ : Addr).add j) = some u := by
  intro j u hj
  have : W.cell? ⟨k, 0 + j, none⟩ = #[a, b, c][0 + j]? := cell_of_at h _
  rw [Nat.zero_add] at this
  have e : (⟨k, 0, none⟩ : Addr).add j = ⟨k, j, none⟩ := by
    unfold Addr.add
    split
    · rename_i h0; subst h0; rfl
    · simp
  rw [e, this]
  simpa using hj
end Go.Proofs.YtodeeegbajgafaaGreatDoor
