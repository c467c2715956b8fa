/- machine.New, New. New and Eval. display: a number is shown. A text is added to what was shown. Written by gen_kdisp.py. -/
import Derived.Test.YtodeeegbajgafaaGreatDoorQ39
import Derived.Test.YtodeeegbajgafaaGreatDoorQ23
import Derived.Test.YtodeeegbajgafaaGreatDoorQ43
import Derived.Test.YtodeeegbajgafaaGreatDoorQ24
import Derived.Test.YtodeeegbajgafaaGreatDoorQ29
import Derived.Test.YtodeeegbajgafaaGreatDoorQ26
import Derived.Test.YtodeeegbajgafaaGreatDoorQ34
import Derived.Carry
import Derived.Deep.RegionHeld3
namespace Go.Proofs.YtodeeegbajgafaaGreatDoor
open Go.RowKit
open Mc
/-- Where the loop of New stands. -/
structure NewG (N : Nat → Prop) (n : Nat) (w W : World) (k : Nat) (v : Value) (wr : World) (i : Nat) (g : Gh) : Prop where
  sum : i + k = 21
  idx : v = .int .i64 (i : Nat)
  m : MachAt N g (G0.take i) [] wr
  mb : g.mb = n + 1
  db : g.db = n
  sh : g.sh = .slice none 0 0
  xs : ∀ b ∈ g.xs, n + 56 ≤ b
  kept : Kept (· = n) W wr
  size : n + 56 ≤ wr.heap.size
theorem NewG.ok {N : Nat → Prop} {n : Nat} {w W : World} {k : Nat} {v : Value} {wr : World} {i : Nat} {g : Gh} (h : NewG N n w W k v wr i g) (hN : ∀ k, N k → k < n) (hNt : ¬ N tabBlock) (htl : tabBlock < n) : ∀ b, (n + 2 ≤ b ∧ b < n + 2 + 54) ∨ b = tabBlock → g.ok N b := by
  intro b hb
  rcases hb with hb | rfl
  rotate_left
  · refine ⟨hNt, ?_⟩
    rintro (e | e | e | e)
    · rw [h.mb] at e; omega
    · rw [h.db] at e; omega
    · have := h.xs _ e; omega
    · rw [h.sh] at e; cases e
  refine ⟨fun e => by have := hN b e; omega, ?_⟩
  rintro (e | e | e | e)
  · rw [h.mb] at e; omega
  · rw [h.db] at e; omega
  · have := h.xs b e; omega
  · rw [h.sh] at e; cases e
/-- A new machine. -/
def NewR (N : Nat → Prop) (w : World) : Ending → World → Prop := fun e w' => ∃ g, e = .returned (ptrV g.mb) ∧ MachAt N g G0 [] w' ∧ Below w.heap.size w w' ∧ ∀ k, g.mut k → w.heap.size ≤ k
set_option maxHeartbeats 8000000 in
set_option maxRecDepth 20000 in
theorem new29 (N : Nat → Prop) (w : World) (hN : ∀ k, N k → k < w.heap.size) (hNt : ¬ N tabBlock) (htab : TabOk w) : Calls Tryz.prog 29 #[] w (NewR N w) := by
  have hmm := @run_makeMap Tryz.prog
  have hmf : ∀ fn first cap w, (Instr.makeFunc fn first cap).run Tryz.prog w = .ok (.func fn first cap) w := fun _ _ _ _ => rfl
  have HALL := all38 (w.heap.size + 1) ((w.alloc (.map #[] 0)).alloc (.cells #[.map (some w.heap.size), .slice none 0 0] 107))
  generalize hW2 : (w.alloc (.map #[] 0)).alloc (.cells #[.map (some w.heap.size), .slice none 0 0] 107) = w2 at *
  have hs2 : w2.heap.size = w.heap.size + 2 := by rw [← hW2]; simp
  have htl := htab.lt
  have ht2 : TabOk w2 := by rw [← hW2]; exact htab.on ((((Below.refl _ w).alloc (Nat.le_refl _) _).alloc (by simp) _).block _ htl)
  rw [hs2] at HALL
  go_enter Tryz.func29, Tryz.ntmps29
  go_wp2_with (first | (go_at_call 38; refine HALL.mono ?_; rintro e3 w3 ⟨rfl, rfl⟩))
  have hB3 : Below w2.heap.size w2 (allocs w2 (allObjs (w.heap.size + 1) (w.heap.size + 2))) := allocs_below _ _ _ (Nat.le_refl _)
  have hbas := bas_at (w.heap.size + 1) w2 ht2
  rw [hs2] at hbas
  have hs3 : w.heap.size + 56 ≤ (allocs w2 (allObjs (w.heap.size + 1) (w.heap.size + 2))).heap.size := by
    have := lt_of_at (allocs_at (allObjs (w.heap.size + 1) (w.heap.size + 2)) w2 53 _ rfl)
    omega
  generalize hW : allocs w2 (allObjs (w.heap.size + 1) (w.heap.size + 2)) = W at *
  have hB : Below w.heap.size w W := (by rw [← hW2]; exact ((Below.refl _ w).alloc (Nat.le_refl _) _).alloc (by simp) _ : Below w.heap.size w w2).trans (hB3.mono (by omega))
  have hm0 : W.heap[w.heap.size + 1]? = some (.cells #[.map (some w.heap.size), .slice none 0 0] 107 (0, 0)) := (hB3.block _ (by omega)).trans (by rw [← hW2]; simpa using at_new (w.alloc (.map #[] 0)) (.cells #[.map (some w.heap.size), .slice none 0 0] 107))
  have hd0 : W.heap[w.heap.size]? = some (.map #[] 0) := (hB3.block _ (by omega)).trans (by rw [← hW2]; exact at_alloc (at_new w _) _)
  have h0 : NewG N w.heap.size w W 21 (.int .i64 0) W 0 ⟨w.heap.size + 1, w.heap.size, [], .slice none 0 0⟩ := by
    refine ⟨rfl, rfl, ?_, rfl, rfl, rfl, (fun b e => by cases e), Kept.refl _ _, hs3⟩
    refine ⟨⟨107, hm0⟩, ⟨#[], 0, hd0, rfl⟩, rfl, (fun i hi => by cases hi), ⟨0, rfl, Or.inl ⟨rfl, rfl⟩⟩, ⟨by simp, by simp, by simp, by simp⟩, (fun k e => by cases e), fun k e => by have := hN k e; omega, ?_⟩
    rintro k (e | e | e | e) hk
    · have := hN k hk; simp only at e; omega
    · have := hN k hk; simp only at e; omega
    · cases e
    · cases e
  have HBAS := (show Hid _ from hbas)
  have H0 := (show Hid _ from h0)
  have HB := (show Hid _ from hB)
  clear hbas h0 hB hm0 hd0 hB3 HALL hW hW2
  go_loopg [11] 21 (fun k v wr => ∃ i g, NewG N w.heap.size w W k v wr i g)
  case atStart => exact ⟨0, _, H0.out⟩
  case round =>
    obtain ⟨i, g, hG⟩ := hrel
    have HG := (show Hid _ from hG)
    obtain rfl := hG.idx
    cases gk with
    | zero =>
      obtain rfl : i = 21 := by have := hG.sum; omega
      have HF : Hid (NewR N w (.returned (.pointer (some ⟨w.heap.size + 1, 0, none⟩))) wr) := by
        refine ⟨g, by rw [hG.mb]; rfl, ?_, ⟨hG.kept.os.trans HB.out.os, hG.kept.tape.trans HB.out.tape, hG.kept.output.trans HB.out.output, Nat.le_trans HB.out.size hG.kept.size, fun k hk => (hG.kept.block k (Nat.lt_of_lt_of_le hk HB.out.size) (fun e => by omega)).trans (HB.out.block k hk)⟩, ?_⟩
        · have := hG.m
          rw [show G0.take 21 = G0 from rfl] at this
          exact this
        · rintro k (e | e | e | e)
          · rw [hG.mb] at e; omega
          · rw [hG.db] at e; omega
          · have := hG.xs k e; omega
          · rw [hG.sh] at e; cases e
      clear hG HG HBAS H0 HB
      go_wp2
      go_ret
      exact HF.out
    | succ k =>
      have hi : i < 21 := by have := hG.sum; omega
      obtain ⟨hcell, ⟨l, kk, fv, hblk⟩, hrep⟩ := HBAS.out i hi
      have hlt := basicAt_lt i
      have hcell' := hG.kept.cell (k := w.heap.size + 2 + 53) (by omega) hcell
      have hblk' := hG.kept.at (k := w.heap.size + 2 + basicAt i) (by omega) hblk
      have hnm := cell_of_at hblk' 2
      simp only [List.getElem?_toArray, List.getElem?_cons_zero, List.getElem?_cons_succ] at hnm
      have hrep' : RepM g.mb (g.ok N) wr (.iface 111 (.pointer (some ⟨w.heap.size + 2 + basicAt i, 0, none⟩))) (.val (.basic i)) := by
        rw [hG.mb]
        exact hrep.mono fun b hb ho => ⟨hG.ok hN hNt htl b ho, hG.kept.block b hb (fun e => by rcases ho with ho | ho <;> omega)⟩
      have hfn : find? (nameAt i) (G0.take i) = none := by
        have := find_take ⟨i, hi⟩
        simpa using this
      have HD : Hid (Calls Tryz.prog 40 #[.pointer (some ⟨w.heap.size + 1, 0, none⟩), .string ⟨(nameAt i).toArray⟩, .iface 111 (.pointer (some ⟨w.heap.size + 2 + basicAt i, 0, none⟩))] wr fun e w' => e = .returned (.tuple #[]) ∧ ∃ j g', NewG N w.heap.size w W k (.int .i64 ((i : Int) + 1)) w' j g') := by
        have := define40 N g (G0.take i) [] wr hG.m (nameAt i) _ (.basic i) hrep' hfn
        rw [hG.mb] at this
        refine this.mono ?_
        rintro e w' ⟨rfl, es, c, hes, hkv, rfl⟩
        refine ⟨rfl, i + 1, g.more wr.heap.size, by have := hG.sum; omega, by simp, ?_, hG.mb, hG.db, hG.sh, ?_, ?_, ?_⟩
        · have := hG.m.define (nameAt i) _ (.basic i) hrep' es c hes hkv
          rw [G0_take i hi] at this
          exact this
        · intro b hb
          rcases List.mem_append.1 hb with e | e
          · exact hG.xs b e
          · have := hG.size
            simp only [List.mem_singleton] at e
            omega
        · have h1 : Kept (· = w.heap.size) wr (defined wr g.db es c (nameAt i) (.iface 111 (.pointer (some ⟨w.heap.size + 2 + basicAt i, 0, none⟩)))) := by
            unfold defined
            exact ((Kept.refl _ wr).alloc _).trans ((putObj_kept _ _ _).mono fun k _ e => by rw [hG.db] at e; exact e)
          exact hG.kept.trans h1
        · have := hG.size
          unfold defined
          have h2 := (putObj_kept (wr.alloc (.cells #[.iface 111 (.pointer (some ⟨w.heap.size + 2 + basicAt i, 0, none⟩))] 60)) g.db (.map (es.push { key := .string ⟨(nameAt i).toArray⟩, val := .pointer (some ⟨wr.heap.size, 0, none⟩), born := c }) (c + 1))).size
          simp at h2
          omega
      have i1 : (i : Int) < 21 := by omega
      have i2 : -9223372036854775808 ≤ (i : Int) + 1 := by omega
      have i3 : (i : Int) + 1 ≤ 9223372036854775807 := by omega
      clear hG HG HBAS H0 HB hrep hrep' hblk hblk' hcell hfn
      go_wp2_with (first | (go_at_call 40; refine HD.out.mono ?_; rintro e4 w4 ⟨rfl, hr4⟩; have HR4 := (show Hid _ from hr4); clear hr4))
      go_roundg k
      case measure => omega
      case rel => exact HR4.out
end Go.Proofs.YtodeeegbajgafaaGreatDoor

namespace Go.Proofs.YtodeeegbajgafaaGreatDoor
open Go.RowKit
open Mc
theorem MachAt.other {N N' : Nat → Prop} {g : Gh} {G : List (Rd.Sym × V)} {sh : List (List UInt8)} {w w' : World} (h : MachAt N g G sh w) (hs : w.heap.size ≤ w'.heap.size) (hw : ∀ k, k < w.heap.size → ¬ N k → w'.heap[k]? = w.heap[k]?) (hN : ∀ k, N' k → N k) : MachAt N' g G sh w' :=
  h.kept (fun k hm => hw k (Gh.low h k hm) (h.disj k hm)) (fun k hk ho => ⟨⟨fun e => ho.1 (hN k e), ho.2⟩, hw k hk ho.1⟩) (fun k e => Nat.lt_of_lt_of_le (h.low k (hN k e)) hs) (fun k hm e => h.disj k hm (hN k e))
theorem MachAt.below {N : Nat → Prop} {g : Gh} {G : List (Rd.Sym × V)} {sh : List (List UInt8)} {w w' : World} (h : MachAt N g G sh w) (hb : Below w.heap.size w w') : MachAt N g G sh w' := h.other hb.size (fun k hk _ => hb.block k hk) (fun _ e => e)
/-- A rondo.Machine. -/
structure Mach (N : Nat → Prop) (B ob : Nat) (G : List (Rd.Sym × V)) (w : World) (g : Gh) : Prop where
  box : w.heap[ob]? = some (.cells #[ptrV g.mb] 70 (0, 0))
  low : B ≤ ob
  fix : ¬ g.mut ob
  m : MachAt N g G [] w
  high : ∀ k, g.mut k → B ≤ k
theorem Mach.below {N : Nat → Prop} {B ob : Nat} {G : List (Rd.Sym × V)} {w w' : World} {g : Gh} (h : Mach N B ob G w g) (hb : Below w.heap.size w w') : Mach N B ob G w' g := ⟨Below.at hb h.box, h.low, h.fix, h.m.below hb, h.high⟩
set_option maxHeartbeats 1000000 in
theorem new23 (N : Nat → Prop) (w : World) (hN : ∀ k, N k → k < w.heap.size) (hNt : ¬ N tabBlock) (htab : TabOk w) : Calls Tryz.prog 23 #[] w fun e w' => ∃ ob g, e = .returned (ptrV ob) ∧ Mach N w.heap.size ob G0 w' g ∧ Below w.heap.size w w' := by
  have HN : Hid (Calls Tryz.prog 29 #[] w (NewR N w)) := new29 N w hN hNt htab
  clear hN hNt htab
  go_enter Tryz.func23, Tryz.ntmps23
  go_wp2_with (first | (go_at_call 29; refine HN.out.mono ?_; rintro e2 w2 ⟨g, rfl, hm, hb, hh⟩; have HM := (show Hid _ from hm); have HB := (show Hid _ from hb); have HH := (show Hid _ from hh); clear hm hb hh; simp only [ptrV]))
  go_ret
  have hB2 : Below w2.heap.size w2 (w2.alloc (.cells #[.pointer (some ⟨g.mb, 0, none⟩)] 70)) := (Below.refl _ w2).alloc (Nat.le_refl _) _
  refine ⟨w2.heap.size, g, rfl, ⟨at_new w2 _, HB.out.size, fun e => Nat.lt_irrefl _ (Gh.low HM.out _ e), HM.out.below hB2, HH.out⟩, HB.out.trans (hB2.mono HB.out.size)⟩
theorem own_kept' {M : Nat → Prop} {B e z n : Nat} {v : Value} {xs : List Value} {w w' : World} (h : w.ownsRow B e z v n xs) (hk : Kept M w w') (hM : ∀ k, v.ownBlock = some k → ¬ M k) : w'.ownsRow B e z v n xs := by
  obtain ⟨a, b | ⟨gb, cap, cur, rfl, hB, hh, r⟩⟩ := h
  · exact ⟨a, Or.inl b⟩
  · exact ⟨a, Or.inr ⟨gb, cap, cur, rfl, hB, hk.at (hM gb rfl) hh, r⟩⟩
theorem RepS.slice {ok : Nat → Prop} {w : World} {sl : Value} {ds : List Rd.D} (h : RepS ok w sl ds) : ∃ a n c, sl = .slice a n c := by
  rcases h with ⟨rfl, _⟩ | ⟨g, o, cap, c, T, va, vb, vc, rfl, _⟩
  · exact ⟨_, _, _, rfl⟩
  · exact ⟨_, _, _, rfl⟩
end Go.Proofs.YtodeeegbajgafaaGreatDoor

namespace Go.Proofs.YtodeeegbajgafaaGreatDoor
open Go.RowKit
open Mc
theorem own_low {B B' e z n : Nat} {v : Value} {xs : List Value} {w : World} (h : w.ownsRow B e z v n xs) (hb : B' ≤ B) : w.ownsRow B' e z v n xs := by
  obtain ⟨a, b | ⟨gb, cap, cur, hv, hB, r⟩⟩ := h
  · exact ⟨a, Or.inl b⟩
  · exact ⟨a, Or.inr ⟨gb, cap, cur, hv, Nat.le_trans hb hB, r⟩⟩
theorem Tryz.info9 : (Tryz.prog.info? 9).map (fun i => (i.zero, i.size, i.bytes)) = some (some (.string ⟨#[]⟩), 1, 16) := by kernel_rfl
end Go.Proofs.YtodeeegbajgafaaGreatDoor

namespace Go.Proofs.YtodeeegbajgafaaGreatDoor
namespace Kc
open Go.RowKit
def Gh.with_ (g : Gh) (v : Value) : Gh := { g with sh := v }
theorem MachAt.more {N : Nat → Prop} {g : Gh} {G : List (Rd.Sym × V)} {sc : List (List V)} {shown : List (List UInt8)} {w w' : World} (h : MachAt N g G sc shown w) {v' : Value} {t : List UInt8} (hs : w.heap.size ≤ w'.heap.size) (hw : ∀ k, k < w.heap.size → k ≠ g.mb → g.sh.ownBlock ≠ some k → w'.heap[k]? = w.heap[k]?)
    (hm : ∃ T, w'.heap[g.mb]? = some (.cells #[.map (some g.db), v'] T (0, 0))) (ho : ∃ B, w'.ownsRow B 9 1 v' (shown ++ [t]).length ((shown ++ [t]).map strV)) (hb : ∀ k, v'.ownBlock = some k → g.sh.ownBlock = some k ∨ w.heap.size ≤ k) :
    MachAt N (g.with_ v') G sc (shown ++ [t]) w' ∧ ∀ k, k < w.heap.size → g.ok N k → (g.with_ v').ok N k ∧ w'.heap[k]? = w.heap[k]? := by
  have hmut : ∀ k, (g.with_ v').mut k → g.mut k ∨ w.heap.size ≤ k := fun k e => by
    rcases e with e | e | e | e | e
    · exact Or.inl (Or.inl e)
    · exact Or.inl (Or.inr (Or.inl e))
    · exact Or.inl (Or.inr (Or.inr (Or.inl e)))
    · rcases hb k e with e | e
      · exact Or.inl (Or.inr (Or.inr (Or.inr (Or.inl e))))
      · exact Or.inr e
    · exact Or.inl (Or.inr (Or.inr (Or.inr (Or.inr e))))
  have hok : ∀ k, k < w.heap.size → g.ok N k → (g.with_ v').ok N k ∧ w'.heap[k]? = w.heap[k]? := fun k hk o => ⟨⟨o.1, fun e => by rcases hmut k e with e | e; exact o.2 e; omega⟩, hw k hk (fun e => o.2 (Or.inl e)) (fun e => o.2 (Or.inr (Or.inr (Or.inr (Or.inl e)))))⟩
  refine ⟨?_, hok⟩
  obtain ⟨es, c, g1, g2⟩ := h.glob
  have hdb := lt_of_at g1
  have hmbl := Gh.low h g.mb (Or.inl rfl)
  refine ⟨hm, ⟨es, c, (hw _ hdb (Ne.symm h.apart.1) (fun e => (h.apart' _ e).2.1 rfl)).trans g1, g2⟩, h.len, ?_, ho, h.apart, ?_, ⟨h.scs.1, fun i sv vs e1 e2 => ?_⟩, fun i sv k e1 e2 => ?_, fun k e => Nat.lt_of_lt_of_le (h.low k e) hs, ?_⟩
  · intro i hi
    obtain ⟨b, x, T, e1, e2, e3⟩ := h.boxes i hi
    have hbx : b ∈ g.xs := List.mem_of_getElem? e1
    exact ⟨b, x, T, e1, (hw b (lt_of_at e2) (fun e => h.apart.2.1 (e ▸ hbx)) (fun e => (h.apart' _ e).2.2 hbx)).trans e2, e3.mono hok⟩
  · intro k e
    rcases hb k e with e | e
    · exact h.apart' k e
    · refine ⟨?_, ?_, fun hx => ?_⟩
      · show k ≠ g.mb
        omega
      · show k ≠ g.db
        omega
      · have := Gh.low h k (Or.inr (Or.inr (Or.inl hx)))
        omega
  · refine (h.scs.2 i sv vs e1 e2).mono rfl (fun _ _ h => h) (fun k hk => ?_) hok
    obtain ⟨a1, a2, a3, a4, a5⟩ := h.apartS i sv k e1 hk
    exact hw k (Gh.low h k (Or.inr (Or.inr (Or.inr (Or.inr ⟨sv, List.mem_of_getElem? e1, hk⟩))))) a1 a4
  · obtain ⟨a1, a2, a3, a4, a5⟩ := h.apartS i sv k e1 e2
    refine ⟨a1, a2, a3, fun e => ?_, a5⟩
    rcases hb k e with e | e
    · exact a4 e
    · have := Gh.low h k (Or.inr (Or.inr (Or.inr (Or.inr ⟨sv, List.mem_of_getElem? e1, e2⟩))))
      omega
  · intro k e n
    rcases hmut k e with e | e
    · exact h.disj k e n
    · have := h.low k n; omega
theorem RunAt.more {N : Nat → Prop} {g : Gh} {rb fuel : Nat} {s : St} {w w' : World} (h : RunAt N g rb fuel s w) {v' : Value} {t : List UInt8} (hos : w'.os = w.os) (htp : w'.tape = w.tape) (hout : w'.output = w.output) (hs : w.heap.size ≤ w'.heap.size) (hw : ∀ k, k < w.heap.size → k ≠ g.mb → g.sh.ownBlock ≠ some k → w'.heap[k]? = w.heap[k]?)
    (hm : ∃ T, w'.heap[g.mb]? = some (.cells #[.map (some g.db), v'] T (0, 0))) (ho : ∃ B, w'.ownsRow B 9 1 v' (s.shown ++ [t]).length ((s.shown ++ [t]).map strV)) (hb : ∀ k, v'.ownBlock = some k → g.sh.ownBlock = some k ∨ w.heap.size ≤ k) :
    ∃ g', Gh.Next w g g' ∧ g'.mb = g.mb ∧ RunAt N g' rb fuel { s with shown := s.shown ++ [t] } w' ∧ Kept (RM g rb) w w' := by
  obtain ⟨hM, hok⟩ := h.m.more hs hw hm ho hb
  obtain ⟨T, vf, va, vv, vt, vb, hbk, hc, ht, hy⟩ := h.blk
  have hrm : rb ≠ g.mb := fun e => h.m.disj g.mb (Or.inl rfl) (e ▸ h.inN)
  have hro : g.sh.ownBlock ≠ some rb := fun e => h.m.disj rb (Or.inr (Or.inr (Or.inr (Or.inl e)))) h.inN
  refine ⟨g.with_ v', ⟨rfl, rfl, fun _ _ h => h, fun k e hk => ?_⟩, rfl, ⟨h.inN, hM, ⟨T, vf, va, vv, vt, vb, (hw rb (lt_of_at hbk) hrm hro).trans hbk, hc.mono hok, ht.mono hok, hy.mono hok⟩, h.bound⟩, ⟨hos, htp, hout, hs, fun k hk hn => hw k hk (fun e => hn (Or.inr (Or.inl e))) (fun e => hn (Or.inr (Or.inr (Or.inr (Or.inr (Or.inl e))))))⟩⟩
  rcases e with e | e | e | e | e
  · exact Or.inl e
  · exact Or.inr (Or.inl e)
  · exact Or.inr (Or.inr (Or.inl e))
  · rcases hb k e with e | e
    · exact Or.inr (Or.inr (Or.inr (Or.inl e)))
    · omega
  · exact Or.inr (Or.inr (Or.inr (Or.inr e)))
def ShowMR (N : Nat → Prop) (g : Gh) (rb fuel : Nat) (s : St) (t : List UInt8) (w : World) : Ending → World → Prop := fun e w' => e = .returned (.tuple #[]) ∧ ∃ g', Gh.Next w g g' ∧ g'.mb = g.mb ∧ RunAt N g' rb fuel { s with shown := s.shown ++ [t] } w' ∧ Kept (RM g rb) w w'
set_option maxHeartbeats 4000000 in
set_option maxRecDepth 20000 in
theorem show39 (N : Nat → Prop) (g : Gh) (rb fuel : Nat) (s : St) (w : World) (h : RunAt N g rb fuel s w) (t : List UInt8) (hlen : s.shown.length < 1000000) :
    Calls Tryz.prog 39 #[.pointer (some ⟨g.mb, 0, none⟩), .string ⟨t.toArray⟩] w (ShowMR N g rb fuel s t w) := by
  obtain ⟨i0, hi, hz0, hz1, hz2⟩ := info_parts Tryz.info9
  obtain ⟨B, hown0⟩ := h.m.own
  have hown : w.ownsRow 0 9 1 g.sh s.shown.length (s.shown.map strV) := own_low hown0 (Nat.zero_le _)
  obtain ⟨T, hm⟩ := h.m.mach
  have hmbl := lt_of_at hm
  have hmb : g.sh.ownBlock ≠ some g.mb := fun e => (h.m.apart' _ e).1 rfl
  have HF : Hid (∀ (w9 : World) (v9 : Value), w9.ownsRow 0 9 1 v9 (s.shown.length + 1) (s.shown.map strV ++ [.string ⟨t.toArray⟩]) → (w.alloc (.cells #[.string ⟨t.toArray⟩] 9)).grownBy w9 g.sh.ownBlock → (v9.ownBlock = g.sh.ownBlock ∨ v9.ownBlock = some (w.heap.size + 1)) → w9.heap[g.mb]? = some (.cells #[.map (some g.db), g.sh] T (0, 0)) ∧ ∃ g', Gh.Next w g g' ∧ g'.mb = g.mb ∧ RunAt N g' rb fuel { s with shown := s.shown ++ [t] } (w9.setCell ⟨g.mb, 1, none⟩ v9) ∧ Kept (RM g rb) w (w9.setCell ⟨g.mb, 1, none⟩ v9)) := fun w9 v9 ho hg hat => by
    have hsz : (w.alloc (.cells #[.string ⟨t.toArray⟩] 9)).heap.size = w.heap.size + 1 := by simp
    have hgs := hg.size
    have hblk : ∀ k, k < w.heap.size → g.sh.ownBlock ≠ some k → w9.heap[k]? = w.heap[k]? := fun k hk hne => (hg.block k (by omega) (fun e => hne e.symm)).trans (Below.heap_alloc _ _ _ hk)
    have hm9 : w9.heap[g.mb]? = some (.cells #[.map (some g.db), g.sh] T (0, 0)) := (hblk _ hmbl hmb).trans hm
    have hvb : ∀ k, v9.ownBlock = some k → g.sh.ownBlock = some k ∨ w.heap.size ≤ k := fun k e => by
      rcases hat with e' | e'
      · exact Or.inl (e' ▸ e)
      · rw [e'] at e; cases e; exact Or.inr (by omega)
    have hvm : v9.ownBlock ≠ some g.mb := fun e => by
      rcases hvb _ e with e | e
      · exact hmb e
      · omega
    refine ⟨hm9, RunAt.more h (v' := v9) (t := t) hg.os hg.tape hg.output (by show w.heap.size ≤ (w9.setCell _ _).heap.size; simp [World.setCell]; omega) (fun k hk h1 h2 => ?_) ⟨T, ?_⟩ ⟨0, ?_⟩ hvb⟩
    · rw [Below.heap_setCell _ _ _ _ h1]; exact hblk k hk h2
    · rw [at_setCell hm9 1 _]; simp
    · have e : (s.shown ++ [t]).map strV = s.shown.map strV ++ [.string ⟨t.toArray⟩] := by simp [strV]
      have e2 : (s.shown ++ [t]).length = s.shown.length + 1 := by simp
      rw [e, e2]
      exact own_kept' (M := fun k => k = g.mb) ho ((Kept.refl (fun k => k = g.mb) w9).setCell (p := ⟨g.mb, 1, none⟩) (fun _ => rfl) _) (fun k e hk => hvm (hk ▸ e))
  have HOW : Hid ((w.alloc (.cells #[.string ⟨t.toArray⟩] 9)).ownsRow 0 9 1 g.sh s.shown.length (s.shown.map strV)) := hown.alloc _
  obtain ⟨sa, sn, sc, hsh⟩ := owns_slice hown
  rw [hsh] at HF HOW hm
  obtain ⟨c0, c1, f0, f1⟩ := cells2 hm
  clear h hown hown0 hm hmb hsh
  generalize (⟨t.toArray⟩ : ByteArray) = S at *
  go_enter Tryz.func39, Tryz.ntmps39
  go_wp2_with (at_builtin; refine wpList_append_own_at _ rfl _ _ 32 rfl 0 9 i0 (.string ⟨#[]⟩) 1 16 Tryz.underlying32 hi hz0 hz1 hz2 rfl (by decide) (.slice sa sn sc) s.shown.length (s.shown.map strV) rfl ?h1 ⟨w.heap.size, 0, none⟩ 1 1 [.string S] rfl rfl ?h2 ?h3 ?h4 ?h5 ?h6 ?_)
  case h1 => exact HOW.out
  case h4 => unfold maxLen; omega
  case h5 => omega
  case h6 => exact Nat.zero_le _
  case h3 => first | rfl | (intro u hu; simp at hu; subst hu; rfl)
  case h2 => first | done | exact cell_one_new _ _ _
  intro v9 w9 ho9 hg9 _ hat9
  obtain ⟨hm9, hfin⟩ := HF.out _ _ ho9 hg9 hat9
  have HFIN := (show Hid _ from hfin)
  obtain ⟨a9, k9, c9, rfl⟩ := owns_slice ho9
  obtain ⟨d0, d1, e0, e1⟩ := cells2 hm9
  have hl9 := lt_of_at hm9
  clear ho9 hg9 hat9 hfin hm9
  go_wp2
  go_end0
  exact ⟨rfl, HFIN.out⟩
end Kc
end Go.Proofs.YtodeeegbajgafaaGreatDoor
