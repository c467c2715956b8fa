/- The rule of let. -/
import Derived.Test.YtodeeegbajgafaaGreatDoorQ42
import Derived.Test.YtodeeegbajgafaaGreatDoorQ18
namespace Go.Proofs.YtodeeegbajgafaaGreatDoor
open Go.RowKit
/-- An own row whose elements are data is a slice of data. -/
theorem own_reps2 {B : Nat} {ok : Nat → Prop} {w : World} {v : Value} {ds : List Rd.D} {xs : List Value} (ho : w.ownsRow B 62 3 v ds.length xs) (hB : ∀ g, B ≤ g → ok g) (hs : ∀ i (hi : i < ds.length), RepD ok w (el3 xs i) ds[i]) :
    RepS ok w v ds := by
  obtain ⟨hx, h | ⟨g, cap, cur, rfl, hg, hh, hn, hcap, hcs, htk⟩⟩ := ho
  · obtain ⟨rfl, h0⟩ := h
    exact Or.inl ⟨rfl, List.length_eq_zero_iff.1 h0⟩
  · refine Or.inr ⟨g, 0, cap, cur, 62, fun i => xs.getD (3 * i) undef, fun i => xs.getD (3 * i + 1) undef, fun i => xs.getD (3 * i + 2) undef, rfl, hB g hg, hh, hn, ?_, fun i hi => hs i hi⟩
    intro i hi
    have key : ∀ j, j < ds.length * 3 → cur[j]? = some (xs.getD j undef) := by
      intro j hj
      have h1 : (cur.toList.take (ds.length * 3))[j]? = xs[j]? := by rw [htk]
      rw [List.getElem?_take, if_pos hj] at h1
      rw [← Array.getElem?_toList, h1, List.getD_eq_getElem?_getD, List.getElem?_eq_getElem (by omega)]
      rfl
    refine ⟨?_, ?_, ?_⟩
    · rw [Nat.zero_add]; exact key _ (by omega)
    · rw [Nat.zero_add]; exact key _ (by omega)
    · rw [Nat.zero_add]; exact key _ (by omega)
theorem el3_old {xs : List Value} {a b c : Value} {i n : Nat} (hx : xs.length = n * 3) (hi : i < n) : el3 (xs ++ [a, b, c]) i = el3 xs i := by
  unfold el3
  simp only [List.getD_eq_getElem?_getD]
  rw [List.getElem?_append_left (by omega), List.getElem?_append_left (by omega), List.getElem?_append_left (by omega)]
theorem el3_new {xs : List Value} {a b c : Value} {n : Nat} (hx : xs.length = n * 3) : el3 (xs ++ [a, b, c]) n = .agg #[a, b, c] := by
  unfold el3
  simp only [List.getD_eq_getElem?_getD]
  rw [List.getElem?_append_right (by omega), List.getElem?_append_right (by omega), List.getElem?_append_right (by omega)]
  rw [show 3 * n - xs.length = 0 by omega, show 3 * n + 1 - xs.length = 1 by omega, show 3 * n + 2 - xs.length = 2 by omega]
  rfl
/-- Rows of data behind one more. -/
theorem row_push {ok : Nat → Prop} {w w' : World} {ds : List Rd.D} {xs : List Value} {a b c : Value} {d : Rd.D} (hx : xs.length = ds.length * 3) (hs : ∀ i (hi : i < ds.length), RepD ok w (el3 xs i) ds[i]) (hd : RepD ok w (.agg #[a, b, c]) d)
    (hk : ∀ k, k < w.heap.size → ok k → w'.heap[k]? = w.heap[k]?) : ∀ i (hi : i < (ds ++ [d]).length), RepD ok w' (el3 (xs ++ [a, b, c]) i) (ds ++ [d])[i] := by
  intro i hi
  simp only [List.length_append, List.length_cons, List.length_nil] at hi
  by_cases h : i < ds.length
  · rw [el3_old hx h, List.getElem_append_left h]
    exact (hs i h).mono fun k h1 h2 => ⟨h2, hk k h1 h2⟩
  · have : i = ds.length := by omega
    subst this
    rw [el3_new hx]
    simp only [List.getElem_append_right (Nat.le_refl _), Nat.sub_self, List.getElem_cons_zero]
    exact hd.mono fun k h1 h2 => ⟨h2, hk k h1 h2⟩
theorem ownsRow_grown {B : Nat} {e size n : Nat} {v : Value} {xs : List Value} {w w' : World} {row : Option Nat} (h : w.ownsRow B e size v n xs) (hg : w.grownBy w' row) (hr : ∀ g, v.ownBlock = some g → row ≠ some g) : w'.ownsRow B e size v n xs := by
  obtain ⟨h1, h2 | ⟨g, cap, cur, hv, hB, hh, r⟩⟩ := h
  · exact ⟨h1, Or.inl h2⟩
  · refine ⟨h1, Or.inr ⟨g, cap, cur, hv, hB, ?_, r⟩⟩
    rw [hg.block g (lt_of_at hh) (fun e => hr g (by rw [hv]; rfl) e.symm)]
    exact hh
end Go.Proofs.YtodeeegbajgafaaGreatDoor
