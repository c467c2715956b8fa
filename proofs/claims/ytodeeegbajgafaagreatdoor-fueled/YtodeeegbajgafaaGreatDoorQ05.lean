/- What a call keeps of the memory that was there: every block but those of a set M. More on frames: three cells written one behind the other. -/
import Derived.WalkKit
import Derived.WalkSpells
import Derived.WalkLawsBesides
namespace Go.Proofs.YtodeeegbajgafaaGreatDoor
open Go.RowKit
/-- Of the blocks that were there all but those of M are as they were; the streams are as they were. -/
structure Kept (M : Nat → Prop) (w w' : World) : Prop where
  os : w'.os = w.os
  tape : w'.tape = w.tape
  output : w'.output = w.output
  size : w.heap.size ≤ w'.heap.size
  block : ∀ k, k < w.heap.size → ¬ M k → w'.heap[k]? = w.heap[k]?
theorem Kept.refl (M : Nat → Prop) (w : World) : Kept M w w := ⟨rfl, rfl, rfl, Nat.le_refl _, fun _ _ _ => rfl⟩
theorem Kept.trans {M : Nat → Prop} {a b c : World} (h : Kept M a b) (k : Kept M b c) : Kept M a c :=
  ⟨k.os.trans h.os, k.tape.trans h.tape, k.output.trans h.output, Nat.le_trans h.size k.size, fun i hi hm => (k.block i (Nat.lt_of_lt_of_le hi h.size) hm).trans (h.block i hi hm)⟩
theorem Kept.mono {M N : Nat → Prop} {a b : World} (h : Kept M a b) (hm : ∀ k, k < a.heap.size → M k → N k) : Kept N a b :=
  ⟨h.os, h.tape, h.output, h.size, fun i hi hn => h.block i hi fun m => hn (hm i hi m)⟩
theorem Kept.drew {M : Nat → Prop} {a b : World} (h : Kept M a b) : Kept M a b.drew := ⟨h.os, h.tape, h.output, h.size, h.block⟩
theorem Kept.alloc {M : Nat → Prop} {a b : World} (h : Kept M a b) (o : Obj) : Kept M a (b.alloc o) :=
  ⟨h.os, h.tape, h.output, by have := h.size; simp; omega, fun k hk hm => by rw [Below.heap_alloc _ _ _ (Nat.lt_of_lt_of_le hk h.size)]; exact h.block k hk hm⟩
theorem Kept.setCell {M : Nat → Prop} {a b : World} (h : Kept M a b) {p : Addr} (hp : p.block < a.heap.size → M p.block) (u : Value) : Kept M a (b.setCell p u) :=
  ⟨h.os, h.tape, h.output, by have := h.size; simpa [World.setCell] using this, fun k hk hm => by
    rw [Below.heap_setCell _ _ _ _ (fun e => hm (by subst e; exact hp hk))]; exact h.block k hk hm⟩
theorem Kept.of_below {w w' : World} (h : Below w.heap.size w w') (M : Nat → Prop) : Kept M w w' :=
  ⟨h.os, h.tape, h.output, h.size, fun k hk _ => h.block k hk⟩
theorem Kept.below {B : Nat} {M : Nat → Prop} {w w' : World} (h : Kept M w w') (hB : B ≤ w.heap.size) (hm : ∀ k, M k → B ≤ k) : Below B w w' :=
  ⟨h.os, h.tape, h.output, h.size, fun k hk => h.block k (by omega) (fun m => by have := hm k m; omega)⟩
theorem Kept.grown {M : Nat → Prop} {a w w' : World} {row : Option Nat} (h : Kept M a w) (hg : w.grownBy w' row) (hr : ∀ k, row = some k → k < a.heap.size → M k) : Kept M a w' :=
  ⟨hg.os.trans h.os, hg.tape.trans h.tape, hg.output.trans h.output, Nat.le_trans h.size hg.size, fun k hk hm =>
    (hg.block k (Nat.lt_of_lt_of_le hk h.size) (fun e => hm (hr k e.symm hk))).trans (h.block k hk hm)⟩
theorem Kept.at {M : Nat → Prop} {w w' : World} (h : Kept M w w') {k : Nat} {o : Obj} (hm : ¬ M k) (hk : w.heap[k]? = some o) : w'.heap[k]? = some o := by
  have hlt : k < w.heap.size := by
    by_cases hlt : k < w.heap.size
    · exact hlt
    · rw [Array.getElem?_eq_none (by omega)] at hk; cases hk
  rw [h.block k hlt hm]; exact hk
theorem lt_of_at {w : World} {k : Nat} {o : Obj} (hk : w.heap[k]? = some o) : k < w.heap.size := by
  by_cases hlt : k < w.heap.size
  · exact hlt
  · rw [Array.getElem?_eq_none (by omega)] at hk; cases hk
theorem cell_of_at {w : World} {k : Nat} {c : Array Value} {T : TypeId} {f : Nat × Nat} (hk : w.heap[k]? = some (.cells c T f)) (o : Nat) : w.cell? ⟨k, o, none⟩ = c[o]? := by
  simp [World.cell?, hk]
theorem free_of_at {w : World} {k : Nat} {c : Array Value} {T : TypeId} (hk : w.heap[k]? = some (.cells c T (0, 0))) (o : Nat) : w.frozen? ⟨k, o, none⟩ = false := by
  simp [World.frozen?, hk]
theorem at_alloc {w : World} {k : Nat} {o : Obj} (hk : w.heap[k]? = some o) (p : Obj) : (w.alloc p).heap[k]? = some o := by
  rw [Below.heap_alloc _ _ _ (lt_of_at hk)]; exact hk
theorem at_new (w : World) (o : Obj) : (w.alloc o).heap[w.heap.size]? = some o := by
  show (w.heap.push o)[w.heap.size]? = _
  simp
theorem at_setCell {w : World} {k : Nat} {c : Array Value} {T : TypeId} {f : Nat × Nat} (hk : w.heap[k]? = some (.cells c T f)) (o : Nat) (v : Value) :
    (w.setCell ⟨k, o, none⟩ v).heap[k]? = some (.cells (c.setIfInBounds o v) T f) := by
  simp [World.setCell, Array.getElem?_modify, hk]
theorem at_setCell_ne {w : World} {k : Nat} {o : Obj} (hk : w.heap[k]? = some o) (p : Addr) (hp : k ≠ p.block) (v : Value) : (w.setCell p v).heap[k]? = some o := by
  rw [Below.heap_setCell _ _ _ _ hp]; exact hk
theorem at_drew {w : World} {k : Nat} {o : Obj} (hk : w.heap[k]? = some o) : w.drew.heap[k]? = some o := hk
theorem cells1 {w : World} {k : Nat} {a : Value} {T : TypeId} (hk : w.heap[k]? = some (.cells #[a] T (0, 0))) :
    w.cell? ⟨k, 0, none⟩ = some a ∧ w.frozen? ⟨k, 0, none⟩ = false :=
  ⟨cell_of_at hk 0, free_of_at hk 0⟩
theorem cells2 {w : World} {k : Nat} {a b : Value} {T : TypeId} (hk : w.heap[k]? = some (.cells #[a, b] T (0, 0))) :
    w.cell? ⟨k, 0, none⟩ = some a ∧ w.cell? ⟨k, 1, none⟩ = some b ∧ w.frozen? ⟨k, 0, none⟩ = false ∧ w.frozen? ⟨k, 1, none⟩ = false :=
  ⟨cell_of_at hk 0, cell_of_at hk 1, free_of_at hk 0, free_of_at hk 1⟩
theorem cells3 {w : World} {k : Nat} {a b c : Value} {T : TypeId} (hk : w.heap[k]? = some (.cells #[a, b, c] T (0, 0))) :
    w.cell? ⟨k, 0, none⟩ = some a ∧ w.cell? ⟨k, 1, none⟩ = some b ∧ w.cell? ⟨k, 2, none⟩ = some c ∧ w.frozen? ⟨k, 0, none⟩ = false ∧ w.frozen? ⟨k, 1, none⟩ = false ∧ w.frozen? ⟨k, 2, none⟩ = false :=
  ⟨cell_of_at hk 0, cell_of_at hk 1, cell_of_at hk 2, free_of_at hk 0, free_of_at hk 1, free_of_at hk 2⟩
theorem Below.at {w w' : World} (h : Below w.heap.size w w') {k : Nat} {o : Obj} (hk : w.heap[k]? = some o) : w'.heap[k]? = some o :=
  (Kept.of_below h (fun _ => False)).at id hk
/-- The block that a call's result lies in, laid first: it is there behind what the call goes on to do. -/
theorem res_after {rb : Nat} {w w1 w2 : World} {o : Obj} (hb : Below (w.alloc o).heap.size (w.alloc o) w1) (hk : Kept (· = rb) w1 w2) (hlt : rb < w.heap.size) : w2.heap[w.heap.size]? = some o :=
  hk.at (by intro e; subst e; exact Nat.lt_irrefl _ hlt) (Below.at hb (at_new w o))
theorem i64_in (n : Int) (h : -9223372036854775808 ≤ n) (h' : n ≤ 9223372036854775807) : IntKind.i64.wrap n = n := by
  rw [IntKind.wrap_i64]; omega
end Go.Proofs.YtodeeegbajgafaaGreatDoor

namespace Go.Proofs.YtodeeegbajgafaaGreatDoor
open Go.RowKit
theorem stored3 {w : World} {k : Nat} {a b c : Value} {T : TypeId} (hk : w.heap[k]? = some (.cells #[a, b, c] T (0, 0))) (a' b' c' : Value) :
    (((w.setCell ⟨k, 0, none⟩ a').setCell ⟨k, 1, none⟩ b').setCell ⟨k, 2, none⟩ c').heap[k]? = some (.cells #[a', b', c'] T (0, 0)) := by
  rw [at_setCell (at_setCell (at_setCell hk 0 _) 1 _) 2 _]
  simp
theorem kept_stored3 {M : Nat → Prop} {w w' : World} (h : Kept M w w') {k : Nat} (hm : k < w.heap.size → M k) (a b c : Value) :
    Kept M w (((w'.setCell ⟨k, 0, none⟩ a).setCell ⟨k, 1, none⟩ b).setCell ⟨k, 2, none⟩ c) := by
  have h1 := h.setCell (p := ⟨k, 0, none⟩) hm a
  have h2 := h1.setCell (p := ⟨k, 1, none⟩) hm b
  exact h2.setCell (p := ⟨k, 2, none⟩) hm c
theorem at_stored3 {w : World} {k j : Nat} {o : Obj} (hk : w.heap[k]? = some o) (hne : k ≠ j) (a b c : Value) :
    (((w.setCell ⟨j, 0, none⟩ a).setCell ⟨j, 1, none⟩ b).setCell ⟨j, 2, none⟩ c).heap[k]? = some o :=
  at_setCell_ne (at_setCell_ne (at_setCell_ne hk ⟨j, 0, none⟩ hne a) ⟨j, 1, none⟩ hne b) ⟨j, 2, none⟩ hne c
theorem cell_stored3_ne (w : World) (a b c : Value) {j k : Nat} (h : k ≠ j) (o : Nat) :
    (((w.setCell ⟨j, 0, none⟩ a).setCell ⟨j, 1, none⟩ b).setCell ⟨j, 2, none⟩ c).cell? ⟨k, o, none⟩ = w.cell? ⟨k, o, none⟩ := by
  apply World.cell?_of_block
  show (((w.setCell ⟨j, 0, none⟩ a).setCell ⟨j, 1, none⟩ b).setCell ⟨j, 2, none⟩ c).heap[k]? = w.heap[k]?
  rw [Below.heap_setCell _ _ _ _ h, Below.heap_setCell _ _ _ _ h, Below.heap_setCell _ _ _ _ h]
end Go.Proofs.YtodeeegbajgafaaGreatDoor
