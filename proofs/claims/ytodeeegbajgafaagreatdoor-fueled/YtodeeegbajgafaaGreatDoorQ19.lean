/- A machine and a run in memory. Methods that are promoted from an Arity. -/
import Derived.Test.YtodeeegbajgafaaGreatDoorQ12
import Derived.Test.YtodeeegbajgafaaGreatDoorQ05
import Derived.Test.YtodeeegbajgafaaGreatDoorQ15
import Derived.Test.YtodeeegbajgafaaGreatDoorQ18
import Derived.Deep.DeepFit
namespace Go.Proofs.YtodeeegbajgafaaGreatDoor
open Go.RowKit
open Mc
def strV (t : List UInt8) : Value := .string ⟨t.toArray⟩
/-- Where a machine lies: itself, the map, the values of names, what was shown. -/
structure Gh where
  mb : Nat
  db : Nat
  xs : List Nat
  sh : Value
/-- What of it changes. -/
def Gh.mut (g : Gh) (k : Nat) : Prop := k = g.mb ∨ k = g.db ∨ k ∈ g.xs ∨ g.sh.ownBlock = some k
/-- Where things lie that don't change. -/
def Gh.ok (g : Gh) (N : Nat → Prop) (k : Nat) : Prop := ¬ N k ∧ ¬ g.mut k
/-- A machine that has these names and has shown this. -/
structure MachAt (N : Nat → Prop) (g : Gh) (G : List (Rd.Sym × V)) (shown : List (List UInt8)) (w : World) : Prop where
  mach : ∃ T, w.heap[g.mb]? = some (.cells #[.map (some g.db), g.sh] T (0, 0))
  glob : SymsAt g.db ((G.map (·.1)).zip (g.xs.map ptrV)) w
  len : g.xs.length = G.length
  boxes : ∀ i (hi : i < G.length), ∃ b x T, g.xs[i]? = some b ∧ w.heap[b]? = some (.cells #[x] T (0, 0)) ∧ RepM g.mb (g.ok N) w x (.val G[i].2)
  own : ∃ B, w.ownsRow B 9 1 g.sh shown.length (shown.map strV)
  apart : g.mb ≠ g.db ∧ g.mb ∉ g.xs ∧ g.db ∉ g.xs ∧ g.xs.Nodup
  apart' : ∀ k, g.sh.ownBlock = some k → k ≠ g.mb ∧ k ≠ g.db ∧ k ∉ g.xs
  low : ∀ k, N k → k < w.heap.size
  disj : ∀ k, g.mut k → ¬ N k
theorem Gh.low {N : Nat → Prop} {g : Gh} {G : List (Rd.Sym × V)} {shown : List (List UInt8)} {w : World} (h : MachAt N g G shown w) : ∀ k, g.mut k → k < w.heap.size := by
  intro k hk
  rcases hk with rfl | rfl | hk | hk
  · obtain ⟨T, h1⟩ := h.mach; exact lt_of_at h1
  · obtain ⟨es, c, h1, _⟩ := h.glob; exact lt_of_at h1
  · obtain ⟨i, hi, rfl⟩ := List.getElem_of_mem hk
    obtain ⟨b, x, T, h1, h2, _⟩ := h.boxes i (by rw [← h.len]; exact hi)
    rw [List.getElem?_eq_getElem hi] at h1
    cases h1
    exact lt_of_at h2
  · obtain ⟨B, hB⟩ := h.own
    exact (ownBlock_of hB k hk).2
/-- A machine is kept where its blocks are. -/
theorem MachAt.kept {N N' : Nat → Prop} {g : Gh} {G : List (Rd.Sym × V)} {shown : List (List UInt8)} {w w' : World} (h : MachAt N g G shown w) (hm : ∀ k, g.mut k → w'.heap[k]? = w.heap[k]?) (hk : ∀ k, k < w.heap.size → g.ok N k → g.ok N' k ∧ w'.heap[k]? = w.heap[k]?)
    (hl : ∀ k, N' k → k < w'.heap.size) (hd : ∀ k, g.mut k → ¬ N' k) : MachAt N' g G shown w' := by
  obtain ⟨⟨T, h1⟩, ⟨es, c, h2, h3⟩, h4, h5, ⟨B, h6⟩, h7, h8, h9, h10⟩ := h
  refine ⟨⟨T, (hm _ (Or.inl rfl)).trans h1⟩, ⟨es, c, (hm _ (Or.inr (Or.inl rfl))).trans h2, h3⟩, h4, ?_, ⟨B, ?_⟩, h7, h8, hl, hd⟩
  · intro i hi
    obtain ⟨b, x, T, e1, e2, e3⟩ := h5 i hi
    exact ⟨b, x, T, e1, (hm _ (Or.inr (Or.inr (Or.inl (List.mem_of_getElem? e1))))).trans e2, e3.mono hk⟩
  · obtain ⟨a, b | ⟨gb, cap, cur, hv, hB, hh, r⟩⟩ := h6
    · exact ⟨a, Or.inl b⟩
    · exact ⟨a, Or.inr ⟨gb, cap, cur, hv, hB, (hm _ (Or.inr (Or.inr (Or.inr (by rw [hv]; rfl))))).trans hh, r⟩⟩
end Go.Proofs.YtodeeegbajgafaaGreatDoor

namespace Go.Proofs.YtodeeegbajgafaaGreatDoor
open Go.RowKit
theorem load114 (b : Nat) (l m : Value) (w : World) (h0 : w.cell? ⟨b, 0, none⟩ = some l) (h1 : w.cell? ⟨b, 1, none⟩ = some m) : (loadVar 114 ⟨b, 0, none⟩).run Tryz.prog w = .ok (.agg #[l, m]) w := by
  simp [loadVar, go_sem, Tryz.isAgg114, Tryz.sizeOf114, loadCells, h0, h1]
theorem meth258 (b : Nat) (l m : Value) (w : World) (h0 : w.cell? ⟨b, 0, none⟩ = some l) (h1 : w.cell? ⟨b, 1, none⟩ = some m) : Sem.run Tryz.prog (method 400 258 (.pointer (some ⟨b, 0, none⟩)) "Takes") w = .ok (205, .agg #[l, m]) w := by
  have h : Sem.run Tryz.prog (method 400 258 (.pointer (some ⟨b, 0, none⟩)) "Takes") w = Sem.run Tryz.prog (loadVar 114 ⟨b, 0, none⟩ >>= fun v => pure (205, v)) w := by kernel_rfl
  rw [h, Sem.run_bind, load114 b l m w h0 h1]
  rfl
theorem meth226 (b : Nat) (l m : Value) (w : World) (h0 : w.cell? ⟨b, 0, none⟩ = some l) (h1 : w.cell? ⟨b, 1, none⟩ = some m) : Sem.run Tryz.prog (method 400 226 (.pointer (some ⟨b, 0, none⟩)) "Takes") w = .ok (205, .agg #[l, m]) w := by
  have h : Sem.run Tryz.prog (method 400 226 (.pointer (some ⟨b, 0, none⟩)) "Takes") w = Sem.run Tryz.prog (loadVar 114 ⟨b, 0, none⟩ >>= fun v => pure (205, v)) w := by kernel_rfl
  rw [h, Sem.run_bind, load114 b l m w h0 h1]
  rfl
theorem meth111 (b : Nat) (l m : Value) (w : World) (h0 : w.cell? ⟨b, 0, none⟩ = some l) (h1 : w.cell? ⟨b, 1, none⟩ = some m) : Sem.run Tryz.prog (method 400 111 (.pointer (some ⟨b, 0, none⟩)) "Takes") w = .ok (205, .agg #[l, m]) w := by
  have h : Sem.run Tryz.prog (method 400 111 (.pointer (some ⟨b, 0, none⟩)) "Takes") w = Sem.run Tryz.prog (loadVar 114 ⟨b, 0, none⟩ >>= fun v => pure (205, v)) w := by kernel_rfl
  rw [h, Sem.run_bind, load114 b l m w h0 h1]
  rfl
end Go.Proofs.YtodeeegbajgafaaGreatDoor
