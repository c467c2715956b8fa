/- machine.New, New. -/
import Derived.Test.YtodeeegbajgafaaGreatDoorQ28
import Derived.Carry
namespace Go.Proofs.YtodeeegbajgafaaGreatDoor
open Go.RowKit
open Mc

/-- Where the loop of New stands. -/
structure NewG (N : Nat → Prop) (n : Nat) (w W : World) (k : Nat) (v : Value) (wr : World) (i : Nat) (g : Gh) : Prop where
  sum : i + k = 21
  idx : v = .int .i64 (i : Nat)
  m : MachAt N g (G0.take i) [] wr
  mb : g.mb = n + 1
  db : g.db = n
  sh : g.sh = .slice none 0 0
  xs : ∀ b ∈ g.xs, n + 56 ≤ b
  kept : Kept (· = n) W wr
  size : n + 56 ≤ wr.heap.size
theorem NewG.ok {N : Nat → Prop} {n : Nat} {w W : World} {k : Nat} {v : Value} {wr : World} {i : Nat} {g : Gh} (h : NewG N n w W k v wr i g) (hN : ∀ k, N k → k < n) : ∀ b, n + 2 ≤ b ∧ b < n + 2 + 54 → g.ok N b := by
  intro b hb
  refine ⟨fun e => by have := hN b e; omega, ?_⟩
  rintro (e | e | e | e)
  · rw [h.mb] at e; omega
  · rw [h.db] at e; omega
  · have := h.xs b e; omega
  · rw [h.sh] at e; cases e
/-- A new machine. -/
def NewR (N : Nat → Prop) (w : World) : Ending → World → Prop := fun e w' => ∃ g, e = .returned (ptrV g.mb) ∧ MachAt N g G0 [] w' ∧ Below w.heap.size w w' ∧ ∀ k, g.mut k → w.heap.size ≤ k

set_option maxHeartbeats 8000000 in
set_option maxRecDepth 20000 in
theorem new29 (N : Nat → Prop) (w : World) (hN : ∀ k, N k → k < w.heap.size) : Calls Tryz.prog 29 #[] w (NewR N w) := by
  have hmm := @run_makeMap Tryz.prog
  have hmf : ∀ fn first cap w, (Instr.makeFunc fn first cap).run Tryz.prog w = .ok (.func fn first cap) w := fun _ _ _ _ => rfl
  have HALL := all38 (w.heap.size + 1) ((w.alloc (.map #[] 0)).alloc (.cells #[.map (some w.heap.size), .slice none 0 0] 107))
  generalize hW2 : (w.alloc (.map #[] 0)).alloc (.cells #[.map (some w.heap.size), .slice none 0 0] 107) = w2 at *
  have hs2 : w2.heap.size = w.heap.size + 2 := by rw [← hW2]; simp
  rw [hs2] at HALL
  go_enter Tryz.func29, Tryz.ntmps29
  go_wp2_with (first | (go_at_call 38; refine HALL.mono ?_; rintro e3 w3 ⟨rfl, rfl⟩))
  have hB3 : Below w2.heap.size w2 (allocs w2 (allObjs (w.heap.size + 1) (w.heap.size + 2))) := allocs_below _ _ _ (Nat.le_refl _)
  have hbas := bas_at (w.heap.size + 1) w2
  rw [hs2] at hbas
  have hs3 : w.heap.size + 56 ≤ (allocs w2 (allObjs (w.heap.size + 1) (w.heap.size + 2))).heap.size := by
    have := lt_of_at (allocs_at (allObjs (w.heap.size + 1) (w.heap.size + 2)) w2 53 _ rfl)
    omega
  generalize hW : allocs w2 (allObjs (w.heap.size + 1) (w.heap.size + 2)) = W at *
  have hB : Below w.heap.size w W := (by rw [← hW2]; exact ((Below.refl _ w).alloc (Nat.le_refl _) _).alloc (by simp) _ : Below w.heap.size w w2).trans (hB3.mono (by omega))
  have hm0 : W.heap[w.heap.size + 1]? = some (.cells #[.map (some w.heap.size), .slice none 0 0] 107 (0, 0)) := (hB3.block _ (by omega)).trans (by rw [← hW2]; simpa using at_new (w.alloc (.map #[] 0)) (.cells #[.map (some w.heap.size), .slice none 0 0] 107))
  have hd0 : W.heap[w.heap.size]? = some (.map #[] 0) := (hB3.block _ (by omega)).trans (by rw [← hW2]; exact at_alloc (at_new w _) _)
  have h0 : NewG N w.heap.size w W 21 (.int .i64 0) W 0 ⟨w.heap.size + 1, w.heap.size, [], .slice none 0 0⟩ := by
    refine ⟨rfl, rfl, ?_, rfl, rfl, rfl, (fun b e => by cases e), Kept.refl _ _, hs3⟩
    refine ⟨⟨107, hm0⟩, ⟨#[], 0, hd0, rfl⟩, rfl, (fun i hi => by cases hi), ⟨0, rfl, Or.inl ⟨rfl, rfl⟩⟩, ⟨by simp, by simp, by simp, by simp⟩, (fun k e => by cases e), fun k e => by have := hN k e; omega, ?_⟩
    rintro k (e | e | e | e) hk
    · have := hN k hk; simp only at e; omega
    · have := hN k hk; simp only at e; omega
    · cases e
    · cases e
  have HBAS := (show Hid _ from hbas)
  have H0 := (show Hid _ from h0)
  have HB := (show Hid _ from hB)
  clear hbas h0 hB hm0 hd0 hB3 HALL hW hW2
  go_loopg [11] 21 (fun k v wr => ∃ i g, NewG N w.heap.size w W k v wr i g)
  case atStart => exact ⟨0, _, H0.out⟩
  case round =>
    obtain ⟨i, g, hG⟩ := hrel
    have HG := (show Hid _ from hG)
    obtain rfl := hG.idx
    cases gk with
    | zero =>
      obtain rfl : i = 21 := by have := hG.sum; omega
      have HF : Hid (NewR N w (.returned (.pointer (some ⟨w.heap.size + 1, 0, none⟩))) wr) := by
        refine ⟨g, by rw [hG.mb]; rfl, ?_, ⟨hG.kept.os.trans HB.out.os, hG.kept.tape.trans HB.out.tape, hG.kept.output.trans HB.out.output, Nat.le_trans HB.out.size hG.kept.size, fun k hk => (hG.kept.block k (Nat.lt_of_lt_of_le hk HB.out.size) (fun e => by omega)).trans (HB.out.block k hk)⟩, ?_⟩
        · have := hG.m
          rw [show G0.take 21 = G0 from rfl] at this
          exact this
        · rintro k (e | e | e | e)
          · rw [hG.mb] at e; omega
          · rw [hG.db] at e; omega
          · have := hG.xs k e; omega
          · rw [hG.sh] at e; cases e
      clear hG HG HBAS H0 HB
      go_wp2
      go_ret
      exact HF.out
    | succ k =>
      have hi : i < 21 := by have := hG.sum; omega
      obtain ⟨hcell, ⟨l, kk, fv, hblk⟩, hrep⟩ := HBAS.out i hi
      have hlt := basicAt_lt i
      have hcell' := hG.kept.cell (k := w.heap.size + 2 + 53) (by omega) hcell
      have hblk' := hG.kept.at (k := w.heap.size + 2 + basicAt i) (by omega) hblk
      have hnm := cell_of_at hblk' 2
      simp only [List.getElem?_toArray, List.getElem?_cons_zero, List.getElem?_cons_succ] at hnm
      have hrep' : RepM g.mb (g.ok N) wr (.iface 111 (.pointer (some ⟨w.heap.size + 2 + basicAt i, 0, none⟩))) (.val (.basic i)) := by
        rw [hG.mb]
        exact hrep.mono fun b hb ho => ⟨hG.ok hN b ho, hG.kept.block b hb (fun e => by omega)⟩
      have hfn : find? (nameAt i) (G0.take i) = none := by
        have := find_take ⟨i, hi⟩
        simpa using this
      have HD : Hid (Calls Tryz.prog 40 #[.pointer (some ⟨w.heap.size + 1, 0, none⟩), .string ⟨(nameAt i).toArray⟩, .iface 111 (.pointer (some ⟨w.heap.size + 2 + basicAt i, 0, none⟩))] wr fun e w' => e = .returned (.tuple #[]) ∧ ∃ j g', NewG N w.heap.size w W k (.int .i64 ((i : Int) + 1)) w' j g') := by
        have := define40 N g (G0.take i) [] wr hG.m (nameAt i) _ (.basic i) hrep' hfn
        rw [hG.mb] at this
        refine this.mono ?_
        rintro e w' ⟨rfl, es, c, hes, hkv, rfl⟩
        refine ⟨rfl, i + 1, g.more wr.heap.size, by have := hG.sum; omega, by simp, ?_, hG.mb, hG.db, hG.sh, ?_, ?_, ?_⟩
        · have := hG.m.define (nameAt i) _ (.basic i) hrep' es c hes hkv
          rw [G0_take i hi] at this
          exact this
        · intro b hb
          rcases List.mem_append.1 hb with e | e
          · exact hG.xs b e
          · have := hG.size
            simp only [List.mem_singleton] at e
            omega
        · have h1 : Kept (· = w.heap.size) wr (defined wr g.db es c (nameAt i) (.iface 111 (.pointer (some ⟨w.heap.size + 2 + basicAt i, 0, none⟩)))) := by
            unfold defined
            exact ((Kept.refl _ wr).alloc _).trans ((putObj_kept _ _ _).mono fun k _ e => by rw [hG.db] at e; exact e)
          exact hG.kept.trans h1
        · have := hG.size
          unfold defined
          have h2 := (putObj_kept (wr.alloc (.cells #[.iface 111 (.pointer (some ⟨w.heap.size + 2 + basicAt i, 0, none⟩))] 60)) g.db (.map (es.push { key := .string ⟨(nameAt i).toArray⟩, val := .pointer (some ⟨wr.heap.size, 0, none⟩), born := c }) (c + 1))).size
          simp at h2
          omega
      have i1 : (i : Int) < 21 := by omega
      have i2 : -9223372036854775808 ≤ (i : Int) + 1 := by omega
      have i3 : (i : Int) + 1 ≤ 9223372036854775807 := by omega
      clear hG HG HBAS H0 HB hrep hrep' hblk hblk' hcell hfn
      go_wp2_with (first | (go_at_call 40; refine HD.out.mono ?_; rintro e4 w4 ⟨rfl, hr4⟩; have HR4 := (show Hid _ from hr4); clear hr4))
      go_roundg k
      case measure => omega
      case rel => exact HR4.out
end Go.Proofs.YtodeeegbajgafaaGreatDoor
