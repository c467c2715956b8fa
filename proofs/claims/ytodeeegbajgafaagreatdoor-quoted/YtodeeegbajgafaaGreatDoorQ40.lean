/- machine.New, New. New and Eval. rondokeep's run. Sources that are run as they stand. -/
import Derived.Test.YtodeeegbajgafaaGreatDoorQ34
import Derived.Test.YtodeeegbajgafaaGreatDoorQ24
import Derived.Test.YtodeeegbajgafaaGreatDoorQ39
import Derived.Test.YtodeeegbajgafaaGreatDoorQ26
import Derived.Carry
namespace Go.Proofs.YtodeeegbajgafaaGreatDoor
open Go.RowKit
open Mc

/-- Where the loop of New stands. -/
structure NewG (N : Nat → Prop) (n : Nat) (w W : World) (k : Nat) (v : Value) (wr : World) (i : Nat) (g : Gh) : Prop where
  sum : i + k = 21
  idx : v = .int .i64 (i : Nat)
  m : MachAt N g (G0.take i) [] wr
  mb : g.mb = n + 1
  db : g.db = n
  sh : g.sh = .slice none 0 0
  xs : ∀ b ∈ g.xs, n + 56 ≤ b
  kept : Kept (· = n) W wr
  size : n + 56 ≤ wr.heap.size
theorem NewG.ok {N : Nat → Prop} {n : Nat} {w W : World} {k : Nat} {v : Value} {wr : World} {i : Nat} {g : Gh} (h : NewG N n w W k v wr i g) (hN : ∀ k, N k → k < n) (hNt : ¬ N tabBlock) (htl : tabBlock < n) : ∀ b, (n + 2 ≤ b ∧ b < n + 2 + 54) ∨ b = tabBlock → g.ok N b := by
  intro b hb
  rcases hb with hb | rfl
  rotate_left
  · refine ⟨hNt, ?_⟩
    rintro (e | e | e | e)
    · rw [h.mb] at e; omega
    · rw [h.db] at e; omega
    · have := h.xs _ e; omega
    · rw [h.sh] at e; cases e
  refine ⟨fun e => by have := hN b e; omega, ?_⟩
  rintro (e | e | e | e)
  · rw [h.mb] at e; omega
  · rw [h.db] at e; omega
  · have := h.xs b e; omega
  · rw [h.sh] at e; cases e
/-- A new machine. -/
def NewR (N : Nat → Prop) (w : World) : Ending → World → Prop := fun e w' => ∃ g, e = .returned (ptrV g.mb) ∧ MachAt N g G0 [] w' ∧ Below w.heap.size w w' ∧ ∀ k, g.mut k → w.heap.size ≤ k

set_option maxHeartbeats 8000000 in
set_option maxRecDepth 20000 in
theorem new29 (N : Nat → Prop) (w : World) (hN : ∀ k, N k → k < w.heap.size) (hNt : ¬ N tabBlock) (htab : TabOk w) : Calls Tryz.prog 29 #[] w (NewR N w) := by
  have hmm := @run_makeMap Tryz.prog
  have hmf : ∀ fn first cap w, (Instr.makeFunc fn first cap).run Tryz.prog w = .ok (.func fn first cap) w := fun _ _ _ _ => rfl
  have HALL := all38 (w.heap.size + 1) ((w.alloc (.map #[] 0)).alloc (.cells #[.map (some w.heap.size), .slice none 0 0] 107))
  generalize hW2 : (w.alloc (.map #[] 0)).alloc (.cells #[.map (some w.heap.size), .slice none 0 0] 107) = w2 at *
  have hs2 : w2.heap.size = w.heap.size + 2 := by rw [← hW2]; simp
  have htl := htab.lt
  have ht2 : TabOk w2 := by rw [← hW2]; exact htab.on ((((Below.refl _ w).alloc (Nat.le_refl _) _).alloc (by simp) _).block _ htl)
  rw [hs2] at HALL
  go_enter Tryz.func29, Tryz.ntmps29
  go_wp2_with (first | (go_at_call 38; refine HALL.mono ?_; rintro e3 w3 ⟨rfl, rfl⟩))
  have hB3 : Below w2.heap.size w2 (allocs w2 (allObjs (w.heap.size + 1) (w.heap.size + 2))) := allocs_below _ _ _ (Nat.le_refl _)
  have hbas := bas_at (w.heap.size + 1) w2 ht2
  rw [hs2] at hbas
  have hs3 : w.heap.size + 56 ≤ (allocs w2 (allObjs (w.heap.size + 1) (w.heap.size + 2))).heap.size := by
    have := lt_of_at (allocs_at (allObjs (w.heap.size + 1) (w.heap.size + 2)) w2 53 _ rfl)
    omega
  generalize hW : allocs w2 (allObjs (w.heap.size + 1) (w.heap.size + 2)) = W at *
  have hB : Below w.heap.size w W := (by rw [← hW2]; exact ((Below.refl _ w).alloc (Nat.le_refl _) _).alloc (by simp) _ : Below w.heap.size w w2).trans (hB3.mono (by omega))
  have hm0 : W.heap[w.heap.size + 1]? = some (.cells #[.map (some w.heap.size), .slice none 0 0] 107 (0, 0)) := (hB3.block _ (by omega)).trans (by rw [← hW2]; simpa using at_new (w.alloc (.map #[] 0)) (.cells #[.map (some w.heap.size), .slice none 0 0] 107))
  have hd0 : W.heap[w.heap.size]? = some (.map #[] 0) := (hB3.block _ (by omega)).trans (by rw [← hW2]; exact at_alloc (at_new w _) _)
  have h0 : NewG N w.heap.size w W 21 (.int .i64 0) W 0 ⟨w.heap.size + 1, w.heap.size, [], .slice none 0 0⟩ := by
    refine ⟨rfl, rfl, ?_, rfl, rfl, rfl, (fun b e => by cases e), Kept.refl _ _, hs3⟩
    refine ⟨⟨107, hm0⟩, ⟨#[], 0, hd0, rfl⟩, rfl, (fun i hi => by cases hi), ⟨0, rfl, Or.inl ⟨rfl, rfl⟩⟩, ⟨by simp, by simp, by simp, by simp⟩, (fun k e => by cases e), fun k e => by have := hN k e; omega, ?_⟩
    rintro k (e | e | e | e) hk
    · have := hN k hk; simp only at e; omega
    · have := hN k hk; simp only at e; omega
    · cases e
    · cases e
  have HBAS := (show Hid _ from hbas)
  have H0 := (show Hid _ from h0)
  have HB := (show Hid _ from hB)
  clear hbas h0 hB hm0 hd0 hB3 HALL hW hW2
  go_loopg [11] 21 (fun k v wr => ∃ i g, NewG N w.heap.size w W k v wr i g)
  case atStart => exact ⟨0, _, H0.out⟩
  case round =>
    obtain ⟨i, g, hG⟩ := hrel
    have HG := (show Hid _ from hG)
    obtain rfl := hG.idx
    cases gk with
    | zero =>
      obtain rfl : i = 21 := by have := hG.sum; omega
      have HF : Hid (NewR N w (.returned (.pointer (some ⟨w.heap.size + 1, 0, none⟩))) wr) := by
        refine ⟨g, by rw [hG.mb]; rfl, ?_, ⟨hG.kept.os.trans HB.out.os, hG.kept.tape.trans HB.out.tape, hG.kept.output.trans HB.out.output, Nat.le_trans HB.out.size hG.kept.size, fun k hk => (hG.kept.block k (Nat.lt_of_lt_of_le hk HB.out.size) (fun e => by omega)).trans (HB.out.block k hk)⟩, ?_⟩
        · have := hG.m
          rw [show G0.take 21 = G0 from rfl] at this
          exact this
        · rintro k (e | e | e | e)
          · rw [hG.mb] at e; omega
          · rw [hG.db] at e; omega
          · have := hG.xs k e; omega
          · rw [hG.sh] at e; cases e
      clear hG HG HBAS H0 HB
      go_wp2
      go_ret
      exact HF.out
    | succ k =>
      have hi : i < 21 := by have := hG.sum; omega
      obtain ⟨hcell, ⟨l, kk, fv, hblk⟩, hrep⟩ := HBAS.out i hi
      have hlt := basicAt_lt i
      have hcell' := hG.kept.cell (k := w.heap.size + 2 + 53) (by omega) hcell
      have hblk' := hG.kept.at (k := w.heap.size + 2 + basicAt i) (by omega) hblk
      have hnm := cell_of_at hblk' 2
      simp only [List.getElem?_toArray, List.getElem?_cons_zero, List.getElem?_cons_succ] at hnm
      have hrep' : RepM g.mb (g.ok N) wr (.iface 111 (.pointer (some ⟨w.heap.size + 2 + basicAt i, 0, none⟩))) (.val (.basic i)) := by
        rw [hG.mb]
        exact hrep.mono fun b hb ho => ⟨hG.ok hN hNt htl b ho, hG.kept.block b hb (fun e => by rcases ho with ho | ho <;> omega)⟩
      have hfn : find? (nameAt i) (G0.take i) = none := by
        have := find_take ⟨i, hi⟩
        simpa using this
      have HD : Hid (Calls Tryz.prog 40 #[.pointer (some ⟨w.heap.size + 1, 0, none⟩), .string ⟨(nameAt i).toArray⟩, .iface 111 (.pointer (some ⟨w.heap.size + 2 + basicAt i, 0, none⟩))] wr fun e w' => e = .returned (.tuple #[]) ∧ ∃ j g', NewG N w.heap.size w W k (.int .i64 ((i : Int) + 1)) w' j g') := by
        have := define40 N g (G0.take i) [] wr hG.m (nameAt i) _ (.basic i) hrep' hfn
        rw [hG.mb] at this
        refine this.mono ?_
        rintro e w' ⟨rfl, es, c, hes, hkv, rfl⟩
        refine ⟨rfl, i + 1, g.more wr.heap.size, by have := hG.sum; omega, by simp, ?_, hG.mb, hG.db, hG.sh, ?_, ?_, ?_⟩
        · have := hG.m.define (nameAt i) _ (.basic i) hrep' es c hes hkv
          rw [G0_take i hi] at this
          exact this
        · intro b hb
          rcases List.mem_append.1 hb with e | e
          · exact hG.xs b e
          · have := hG.size
            simp only [List.mem_singleton] at e
            omega
        · have h1 : Kept (· = w.heap.size) wr (defined wr g.db es c (nameAt i) (.iface 111 (.pointer (some ⟨w.heap.size + 2 + basicAt i, 0, none⟩)))) := by
            unfold defined
            exact ((Kept.refl _ wr).alloc _).trans ((putObj_kept _ _ _).mono fun k _ e => by rw [hG.db] at e; exact e)
          exact hG.kept.trans h1
        · have := hG.size
          unfold defined
          have h2 := (putObj_kept (wr.alloc (.cells #[.iface 111 (.pointer (some ⟨w.heap.size + 2 + basicAt i, 0, none⟩))] 60)) g.db (.map (es.push { key := .string ⟨(nameAt i).toArray⟩, val := .pointer (some ⟨wr.heap.size, 0, none⟩), born := c }) (c + 1))).size
          simp at h2
          omega
      have i1 : (i : Int) < 21 := by omega
      have i2 : -9223372036854775808 ≤ (i : Int) + 1 := by omega
      have i3 : (i : Int) + 1 ≤ 9223372036854775807 := by omega
      clear hG HG HBAS H0 HB hrep hrep' hblk hblk' hcell hfn
      go_wp2_with (first | (go_at_call 40; refine HD.out.mono ?_; rintro e4 w4 ⟨rfl, hr4⟩; have HR4 := (show Hid _ from hr4); clear hr4))
      go_roundg k
      case measure => omega
      case rel => exact HR4.out
end Go.Proofs.YtodeeegbajgafaaGreatDoor

namespace Go.Proofs.YtodeeegbajgafaaGreatDoor
open Go.RowKit
open Mc

theorem MachAt.aside {N : Nat → Prop} {g : Gh} {G : List (Rd.Sym × V)} {sh : List (List UInt8)} {w : World} (h : MachAt N g G sh w) (o : Obj) : MachAt (fun k => N k ∨ k = w.heap.size) g G sh (w.alloc o) := by
  refine h.kept (fun k hm => Below.heap_alloc _ _ _ (Gh.low h k hm)) (fun k hk ho => ⟨⟨fun e => by rcases e with e | e; exact ho.1 e; omega, ho.2⟩, Below.heap_alloc _ _ _ hk⟩) ?_ ?_
  · rintro k (e | rfl)
    · have := h.low k e; simp; omega
    · simp
  · rintro k hm (e | rfl)
    · exact h.disj k hm e
    · exact Nat.lt_irrefl _ (Gh.low h _ hm)
theorem MachAt.other {N N' : Nat → Prop} {g : Gh} {G : List (Rd.Sym × V)} {sh : List (List UInt8)} {w w' : World} (h : MachAt N g G sh w) (hs : w.heap.size ≤ w'.heap.size) (hw : ∀ k, k < w.heap.size → ¬ N k → w'.heap[k]? = w.heap[k]?) (hN : ∀ k, N' k → N k) : MachAt N' g G sh w' :=
  h.kept (fun k hm => hw k (Gh.low h k hm) (h.disj k hm)) (fun k hk ho => ⟨⟨fun e => ho.1 (hN k e), ho.2⟩, hw k hk ho.1⟩) (fun k e => Nat.lt_of_lt_of_le (h.low k (hN k e)) hs) (fun k hm e => h.disj k hm (hN k e))
theorem MachAt.below {N : Nat → Prop} {g : Gh} {G : List (Rd.Sym × V)} {sh : List (List UInt8)} {w w' : World} (h : MachAt N g G sh w) (hb : Below w.heap.size w w') : MachAt N g G sh w' := h.other hb.size (fun k hk _ => hb.block k hk) (fun _ e => e)

/-- A rondo.Machine. -/
structure Mach (N : Nat → Prop) (B ob : Nat) (G : List (Rd.Sym × V)) (w : World) (g : Gh) : Prop where
  box : w.heap[ob]? = some (.cells #[ptrV g.mb] 70 (0, 0))
  low : B ≤ ob
  fix : ¬ g.mut ob
  m : MachAt N g G [] w
  high : ∀ k, g.mut k → B ≤ k
theorem Mach.below {N : Nat → Prop} {B ob : Nat} {G : List (Rd.Sym × V)} {w w' : World} {g : Gh} (h : Mach N B ob G w g) (hb : Below w.heap.size w w') : Mach N B ob G w' g := ⟨Below.at hb h.box, h.low, h.fix, h.m.below hb, h.high⟩

set_option maxHeartbeats 1000000 in
theorem new23 (N : Nat → Prop) (w : World) (hN : ∀ k, N k → k < w.heap.size) (hNt : ¬ N tabBlock) (htab : TabOk w) : Calls Tryz.prog 23 #[] w fun e w' => ∃ ob g, e = .returned (ptrV ob) ∧ Mach N w.heap.size ob G0 w' g ∧ Below w.heap.size w w' := by
  have HN : Hid (Calls Tryz.prog 29 #[] w (NewR N w)) := new29 N w hN hNt htab
  clear hN hNt htab
  go_enter Tryz.func23, Tryz.ntmps23
  go_wp2_with (first | (go_at_call 29; refine HN.out.mono ?_; rintro e2 w2 ⟨g, rfl, hm, hb, hh⟩; have HM := (show Hid _ from hm); have HB := (show Hid _ from hb); have HH := (show Hid _ from hh); clear hm hb hh; simp only [ptrV]))
  go_ret
  have hB2 : Below w2.heap.size w2 (w2.alloc (.cells #[.pointer (some ⟨g.mb, 0, none⟩)] 70)) := (Below.refl _ w2).alloc (Nat.le_refl _) _
  refine ⟨w2.heap.size, g, rfl, ⟨at_new w2 _, HB.out.size, fun e => Nat.lt_irrefl _ (Gh.low HM.out _ e), HM.out.below hB2, HH.out⟩, HB.out.trans (hB2.mono HB.out.size)⟩

/-- What was shown, given away. -/
def ShownAt (N : Nat → Prop) (t : St) (w : World) (v : Value) : Prop := (∃ B, w.ownsRow B 9 1 v t.shown.length (t.shown.map strV)) ∧ ∀ k, v.ownBlock = some k → ¬ N k
theorem own_kept' {M : Nat → Prop} {B e z n : Nat} {v : Value} {xs : List Value} {w w' : World} (h : w.ownsRow B e z v n xs) (hk : Kept M w w') (hM : ∀ k, v.ownBlock = some k → ¬ M k) : w'.ownsRow B e z v n xs := by
  obtain ⟨a, b | ⟨gb, cap, cur, rfl, hB, hh, r⟩⟩ := h
  · exact ⟨a, Or.inl b⟩
  · exact ⟨a, Or.inr ⟨gb, cap, cur, rfl, hB, hk.at (hM gb rfl) hh, r⟩⟩
theorem ShownAt.kept {N N' M : Nat → Prop} {t : St} {w w' : World} {v : Value} (h : ShownAt N t w v) (hk : Kept M w w') (hM : ∀ k, M k → N k) (hN : ∀ k, N' k → N k) : ShownAt N' t w' v := by
  obtain ⟨⟨B, ho⟩, h2⟩ := h
  exact ⟨⟨B, own_kept' ho hk (fun k e m => h2 k e (hM k m))⟩, fun k e n => h2 k e (hN k n)⟩
/-- An evaluation came to this. -/
def EvalR (N : Nat → Prop) (B ob : Nat) (g : Gh) (t : St) (txt : List UInt8) (w : World) : Ending → World → Prop := fun e w' => ∃ g' sa sn sc, e = .returned (.tuple #[outcome t txt (.slice sa sn sc), .int .i64 0, .int .i64 0]) ∧ Mach N B ob t.G w' g' ∧ Kept g.mut w w' ∧ Gh.Next w g g' ∧ ShownAt N t w' (.slice sa sn sc)
/-- A source that is these forms. -/
def Forms (s : List UInt8) (fs : List Rd.F) : Prop := s.length ≤ 500 ∧ ∃ ds f, Reads ⟨s.toArray⟩ ds ∧ f + 1 ≤ 5000 ∧ Rd.pTops f ds = some fs ∧ ds.length ≤ 4000 ∧ ds ≠ []

theorem outcome_form (t : St) (txt : List UInt8) : ∃ (ka : Int) (tb : ByteArray) (wc : Int), ∀ sh, outcome t txt sh = .agg #[.int .i64 ka, .string tb, .int .i64 wc, .int .i64 t.steps, sh] := by
  unfold outcome
  by_cases hk : t.kind = 0
  · exact ⟨_, _, _, fun sh => if_pos hk⟩
  · exact ⟨_, _, _, fun sh => if_neg hk⟩

theorem RepS.slice {ok : Nat → Prop} {w : World} {sl : Value} {ds : List Rd.D} (h : RepS ok w sl ds) : ∃ a n c, sl = .slice a n c := by
  rcases h with ⟨rfl, _⟩ | ⟨g, o, cap, c, T, va, vb, vc, rfl, _⟩
  · exact ⟨_, _, _, rfl⟩
  · exact ⟨_, _, _, rfl⟩
/-- The facts behind the run that Eval makes. -/
theorem eval_ends {N : Nat → Prop} {B ob : Nat} {t : St} {txt : List UInt8} {G : List (Rd.Sym × V)} {w w1 w4 : World} {g g' : Gh} {sa : Option Addr} {sn sc : Nat} {a b c d : Value} (hM : Mach N B ob G w g) (hBw : B ≤ w.heap.size) (hB1 : Below w.heap.size w w1) (hl : w.heap.size < w1.heap.size) (h6 : w1.heap[w.heap.size]? = some zeroOut)
    (hn : Gh.Next w1 g g') (hm : MachAt (fun k => N k ∨ k = w.heap.size) g' t.G [] w4) (hk : Kept g.mut w1 w4) (hsw : ShownAt (fun k => N k ∨ k = w.heap.size) t w4 (.slice sa sn sc)) (ho : outcome t txt (.slice sa sn sc) = .agg #[a, b, c, d, .slice sa sn sc]) :
    w4.heap[w.heap.size]? = some zeroOut ∧ EvalR N B ob g t txt w (.returned (.tuple #[.agg #[a, b, c, d, .slice sa sn sc], .int .i64 0, .int .i64 0])) (set5 w4 w.heap.size a b c d (.slice sa sn sc)) := by
  have hm6 : ¬ g.mut w.heap.size := fun e => Nat.lt_irrefl _ (Gh.low hM.m _ e)
  have hat := hk.at hm6 h6
  refine ⟨hat, g', sa, sn, sc, by rw [ho], ⟨?_, hM.low, ?_, ?_, ?_⟩, ?_, ⟨hn.mb, hn.db, fun k e hk' => hn.mt k e (by omega)⟩, hsw.kept (set5_kept (Kept.refl (fun k => k = w.heap.size) w4) (k := w.heap.size) (fun _ => rfl) a b c d (.slice sa sn sc)) (fun k e => Or.inr e) (fun k e => Or.inl e)⟩
  · have hob : ob < w.heap.size := lt_of_at hM.box
    rw [set5_ne _ _ _ _ _ _ _ _ (by omega), hn.mb]
    exact hk.at hM.fix (Below.at hB1 hM.box)
  · intro e
    have hob : ob < w.heap.size := lt_of_at hM.box
    exact hM.fix (hn.mt ob e (by omega))
  · exact hm.other (by rw [set5_size]; exact Nat.le_refl _) (fun k _ hk => set5_ne _ _ _ _ _ _ _ _ (fun e => hk (Or.inr e))) (fun k e => Or.inl e)
  · intro k e
    by_cases hk' : k < w1.heap.size
    · exact hM.high k (hn.mt k e hk')
    · omega
  · have h1 : Kept g.mut w w4 := ⟨hk.os.trans hB1.os, hk.tape.trans hB1.tape, hk.output.trans hB1.output, Nat.le_trans hB1.size hk.size, fun k hk' hm' => (hk.block k (by omega) hm').trans (hB1.block k hk')⟩
    exact set5_kept h1 (k := w.heap.size) (fun e => absurd e (Nat.lt_irrefl _)) a b c d (.slice sa sn sc)

set_option maxHeartbeats 8000000 in
set_option maxRecDepth 20000 in
theorem eval17_gen (show_ : V → Option (List UInt8)) (HC : CallC show_) (N : Nat → Prop) (B ob : Nat) (G : List (Rd.Sym × V)) (g : Gh) (F : Nat) (hF : F ≤ 20000) (s : List UInt8) (ds : List Rd.D) (fs : List Rd.F) (t : St) (txt : List UInt8) (w : World) (hM : Mach N B ob G w g) (hBw : B ≤ w.heap.size) (hNt : tabBlock < B) (htab : TabOk w)
    (HR : Hid (Calls Tryz.prog 24 #[.string ⟨s.toArray⟩] (w.alloc zeroOut) fun e w' => ∃ sl, e = .returned (.tuple #[sl, .int .i64 0, .int .i64 0]) ∧ RepS (fun k => (w.alloc zeroOut).heap.size ≤ k) w' sl ds ∧ Below (w.alloc zeroOut).heap.size (w.alloc zeroOut) w'))
    (hps : ∀ W sl, RepS (fun _ => True) W sl ds → Calls Tryz.prog 27 #[sl] W fun e w' => ∃ fv, e = .returned (.tuple #[fv, .int .i64 0, .int .i64 0]) ∧ RepFs (fun k => W.heap.size ≤ k) w' fv fs ∧ Below W.heap.size W w') (hx : Mc.Ends F show_ (begin_ G) fs t) (hne : fs ≠ []) (hshow : t.kind = 0 → ∀ v, t.ctl = .val v → ShowsAs v txt) :
    Calls Tryz.prog 17 #[ptrV ob, .string ⟨s.toArray⟩, .int .i64 F] w (EvalR N B ob g t txt w) := by
  obtain ⟨ka, tb, wc, hout⟩ := outcome_form t txt
  have HP : Hid (∀ W sl, Below (w.alloc zeroOut).heap.size (w.alloc zeroOut) W → RepS (fun k => (w.alloc zeroOut).heap.size ≤ k) W sl ds → Calls Tryz.prog 27 #[sl] W fun e w' => ∃ ya yc, e = .returned (.tuple #[.slice (some ya) fs.length yc, .int .i64 0, .int .i64 0]) ∧ RepFs (fun k => (w.alloc zeroOut).heap.size ≤ k) w' (.slice (some ya) fs.length yc) fs ∧ Below (w.alloc zeroOut).heap.size (w.alloc zeroOut) w') := fun W sl hb h => (hps W sl (h.mono fun k _ _ => ⟨trivial, rfl⟩)).mono fun e w' ⟨fv, he, hr, hb'⟩ => by
    obtain ⟨ya, yc, rfl, _, _⟩ := hr.shape
    exact ⟨ya, yc, he, hr.mono fun k _ hk => ⟨Nat.le_trans hb.size hk, rfl⟩, hb.trans (hb'.mono hb.size)⟩
  have hm1 := hM.m.aside zeroOut
  have hB1 : Below w.heap.size w (w.alloc zeroOut) := (Below.refl _ w).alloc (Nat.le_refl _) _
  have HRUN : Hid (∀ W fv, Below (w.alloc zeroOut).heap.size (w.alloc zeroOut) W → RepFs (fun k => (w.alloc zeroOut).heap.size ≤ k) W fv fs → Calls Tryz.prog 28 #[.pointer (some ⟨g.mb, 0, none⟩), fv, .int .i64 F] W fun e w' => ∃ g' sa sn sc, e = .returned (.agg #[.int .i64 ka, .string tb, .int .i64 wc, .int .i64 t.steps, .slice sa sn sc]) ∧ Gh.Next W g g' ∧ MachAt (fun k => N k ∨ k = w.heap.size) g' t.G [] w' ∧ Kept g.mut W w' ∧ ShownAt (fun k => N k ∨ k = w.heap.size) t w' (.slice sa sn sc)) := fun W fv hb hfv => by
    have hmW := hm1.below hb
    refine Calls.mono (R := RunR (fun k => N k ∨ k = w.heap.size) g t txt W) ?_ ?_
    rotate_left
    · rintro e w' ⟨g', sh, rfl, hn, hm, hk, _, ⟨B', ho⟩, hnk⟩
      obtain ⟨sa, sn, sc, rfl⟩ := owns_slice ho
      exact ⟨g', sa, sn, sc, by rw [hout], hn, hm, hk, ⟨B', ho⟩, fun k e => (hnk k e).2⟩
    refine run28 show_ HC _ g F hF G t txt W hmW (fun e => by have := hM.high _ e; omega) ?_ fv fs (hfv.mono fun k _ hk => ⟨Gh.ok_new hm1 k hk, rfl⟩) hx hne hshow
    have hlt := htab.lt
    exact (htab.on (hB1.block _ hlt)).on (hb.block _ (by simp; omega))
  have hsz : (w.alloc zeroOut).heap.size = w.heap.size + 1 := by simp
  have h6 : (w.alloc zeroOut).heap[w.heap.size]? = some zeroOut := at_new w _
  have HE : Hid (∀ W W4 g' sa sn sc, Below (w.alloc zeroOut).heap.size (w.alloc zeroOut) W → Gh.Next W g g' → MachAt (fun k => N k ∨ k = w.heap.size) g' t.G [] W4 → Kept g.mut W W4 → ShownAt (fun k => N k ∨ k = w.heap.size) t W4 (.slice sa sn sc) → W4.heap[w.heap.size]? = some zeroOut ∧ EvalR N B ob g t txt w (.returned (.tuple #[.agg #[.int .i64 ka, .string tb, .int .i64 wc, .int .i64 t.steps, .slice sa sn sc], .int .i64 0, .int .i64 0])) (set5 W4 w.heap.size (.int .i64 ka) (.string tb) (.int .i64 wc) (.int .i64 t.steps) (.slice sa sn sc))) := fun W W4 g' sa sn sc hb hn hm hk hsw =>
    eval_ends hM hBw (hB1.trans (hb.mono (by omega))) (by have := hb.size; omega) (Below.at hb h6) hn hm hk hsw (hout _)
  obtain ⟨q0, _⟩ := cells1 hM.box
  have hob := lt_of_at hM.box
  have HQ : Hid (∀ W, Below (w.alloc zeroOut).heap.size (w.alloc zeroOut) W → W.cell? ⟨ob, 0, none⟩ = some (.pointer (some ⟨g.mb, 0, none⟩))) := fun W hb => (Kept.of_below (hB1.trans (hb.mono (by omega))) (fun _ => False)).cell id q0
  have HOUT := (show Hid _ from hout)
  have HB1 := (show Hid _ from hB1)
  have HZ : Hid (w.alloc (.cells #[.int .i64 0, .string ⟨#[]⟩, .int .i64 0, .int .i64 0, .slice none 0 0] 34) = w.alloc zeroOut) := rfl
  clear hps hM hx hshow HC hm1 hB1 hout h6 hsz htab q0
  generalize w.alloc zeroOut = w1 at *
  unfold ptrV
  go_enter Tryz.func17, Tryz.ntmps17
  go_wp2_with (first | (go_at_call 24; rw [HZ.out]; refine HR.out.mono ?_; rintro e2 w2 ⟨sl, rfl, hr2, hb2⟩; have HR2 := (show Hid _ from hr2); obtain ⟨xa, xn, xc, rfl⟩ := hr2.slice; clear hr2) | (go_at_call 27; refine (HP.out _ _ hb2 HR2.out).mono ?_; rintro e3 w3 ⟨ya, yc, rfl, hr3, hb13⟩; have HR3 := (show Hid _ from hr3); clear hr3; have q3 := HQ.out _ hb13) | (go_at_call 28; refine (HRUN.out _ _ hb13 HR3.out).mono ?_; rintro e4 w4 ⟨g', sa, sn, sc, rfl, hn4, hm4, hk4, hs4⟩; obtain ⟨hat4, hfin⟩ := HE.out _ _ _ sa sn sc hb13 hn4 hm4 hk4 hs4; have HFIN := (show Hid _ from hfin); clear hn4 hm4 hk4 hs4 hfin; obtain ⟨x0, x1, x2, x3, x4, d0, d1, d2, d3, d4⟩ := six_of hat4))
  have hcl := set5_at hat4 (.int .i64 ka) (.string tb) (.int .i64 wc) (.int .i64 t.steps) (.slice sa sn sc)
  have f0 := cell_of_at hcl 0
  have f1 := cell_of_at hcl 1
  have f2 := cell_of_at hcl 2
  have f3 := cell_of_at hcl 3
  have f4 := cell_of_at hcl 4
  simp only [List.getElem?_toArray, List.getElem?_cons_zero, List.getElem?_cons_succ] at f0 f1 f2 f3 f4
  have HWE : Hid (((((w4.setCell ⟨w.heap.size, 0, none⟩ (.int .i64 ka)).setCell ⟨w.heap.size, 1, none⟩ (.string tb)).setCell ⟨w.heap.size, 2, none⟩ (.int .i64 wc)).setCell ⟨w.heap.size, 3, none⟩ (.int .i64 t.steps)).setCell ⟨w.heap.size, 4, none⟩ (.slice sa sn sc) = set5 w4 w.heap.size (.int .i64 ka) (.string tb) (.int .i64 wc) (.int .i64 t.steps) (.slice sa sn sc)) := rfl
  rw [HWE.out]
  refine bodyPost_ret (v := .tuple #[.agg #[.int .i64 ka, .string tb, .int .i64 wc, .int .i64 t.steps, .slice sa sn sc], .int .i64 0, .int .i64 0]) ?_ rfl HFIN.out
  simp [results, Tryz.results17, go_sem, f0, f1, f2, f3, f4]
theorem eval17 (show_ : V → Option (List UInt8)) (HC : CallC show_) (N : Nat → Prop) (B ob : Nat) (G : List (Rd.Sym × V)) (g : Gh) (F : Nat) (hF : F ≤ 20000) (s : List UInt8) (fs : List Rd.F) (t : St) (txt : List UInt8) (w : World) (hM : Mach N B ob G w g) (hBw : B ≤ w.heap.size) (hNt : tabBlock < B) (htab : TabOk w) (hs : Forms s fs) (hx : Mc.Ends F show_ (begin_ G) fs t) (hne : fs ≠ []) (hshow : t.kind = 0 → ∀ v, t.ctl = .val v → ShowsAs v txt) :
    Calls Tryz.prog 17 #[ptrV ob, .string ⟨s.toArray⟩, .int .i64 F] w (EvalR N B ob g t txt w) := by
  obtain ⟨_, ds, f, hrd, hf, hp, hdl, hdne⟩ := hs
  exact eval17_gen show_ HC N B ob G g F hF s ds fs t txt w hM hBw hNt htab (read_any _ ds _ hrd) (fun W sl h => parse_done f W ds fs sl hf h hp hdl hdne) hx hne hshow
end Go.Proofs.YtodeeegbajgafaaGreatDoor

namespace Go.Proofs.YtodeeegbajgafaaGreatDoor
open Go.RowKit
open Mc

/-- A source was run. -/
def RunsR (N : Nat → Prop) (B ob : Nat) (g : Gh) (t : St) (txt : List UInt8) (w : World) : Ending → World → Prop := fun e w' => ∃ g' sa sn sc, e = .returned (.tuple #[outcome t txt (.slice sa sn sc), .bool true]) ∧ Mach N B ob t.G w' g' ∧ Kept g.mut w w' ∧ Gh.Next w g g' ∧ ShownAt N t w' (.slice sa sn sc)

theorem runs_ends {N : Nat → Prop} {B ob : Nat} {t : St} {txt : List UInt8} {G : List (Rd.Sym × V)} {w w2 : World} {g g' : Gh} {sa : Option Addr} {sn sc : Nat} {a b c d : Value} (hM : Mach N B ob G w g)
    (hM2 : Mach (fun k => N k ∨ k = w.heap.size) B ob t.G w2 g') (hk : Kept g.mut (w.alloc zeroOut) w2) (hn : Gh.Next (w.alloc zeroOut) g g') (hsw : ShownAt (fun k => N k ∨ k = w.heap.size) t w2 (.slice sa sn sc)) (ho : outcome t txt (.slice sa sn sc) = .agg #[a, b, c, d, .slice sa sn sc]) :
    w2.heap[w.heap.size]? = some zeroOut ∧ RunsR N B ob g t txt w (.returned (.tuple #[.agg #[a, b, c, d, .slice sa sn sc], .bool true])) ((set5 w2 w.heap.size a b c d (.slice sa sn sc)).alloc (.cells #[a, b, c, d, .slice sa sn sc] 34)) := by
  have hm6 : ¬ g.mut w.heap.size := fun e => Nat.lt_irrefl _ (Gh.low hM.m _ e)
  have hat := hk.at hm6 (at_new w zeroOut)
  have hob : ob < w.heap.size := lt_of_at hM.box
  have hk0 : Kept g.mut w (w.alloc zeroOut) := (Kept.refl _ w).alloc _
  refine ⟨hat, g', sa, sn, sc, by rw [ho], ⟨?_, hM.low, hM2.fix, ?_, hM2.high⟩, ?_, ⟨hn.mb, hn.db, fun k e hk' => hn.mt k e (by simp; omega)⟩, (hsw.kept (N' := N) (set5_kept (Kept.refl (fun k => k = w.heap.size) w2) (k := w.heap.size) (fun _ => rfl) a b c d (.slice sa sn sc)) (fun k e => Or.inr e) (fun k e => Or.inl e)).kept (M := fun _ => False) ((Kept.refl _ _).alloc _) (fun _ e => e.elim) (fun _ e => e)⟩
  · refine at_alloc ?_ _
    rw [set5_ne _ _ _ _ _ _ _ _ (by omega)]
    exact hM2.box
  · refine MachAt.below (hM2.m.other (by rw [set5_size]; exact Nat.le_refl _) (fun k _ hk => set5_ne _ _ _ _ _ _ _ _ (fun e => hk (Or.inr e))) (fun k e => Or.inl e)) ((Below.refl _ _).alloc (Nat.le_refl _) _)
  · exact (set5_kept (hk0.trans hk) (k := w.heap.size) (fun e => absurd e (Nat.lt_irrefl _)) a b c d (.slice sa sn sc)).alloc _

set_option maxHeartbeats 8000000 in
set_option maxRecDepth 20000 in
theorem run13_gen (N : Nat → Prop) (B ob : Nat) (G : List (Rd.Sym × V)) (g : Gh) (s : List UInt8) (t : St) (txt : List UInt8) (w : World) (hM : Mach N B ob G w g) (hlen : s.length ≤ 500) (HE : Mach (fun k => N k ∨ k = w.heap.size) B ob G (w.alloc zeroOut) g → Calls Tryz.prog 17 #[ptrV ob, .string ⟨s.toArray⟩, .int .i64 (20000 : Nat)] (w.alloc zeroOut) (EvalR (fun k => N k ∨ k = w.heap.size) B ob g t txt (w.alloc zeroOut))) :
    Calls Tryz.prog 13 #[ptrV ob, .string ⟨s.toArray⟩] w (RunsR N B ob g t txt w) := by
  have hM1 : Mach (fun k => N k ∨ k = w.heap.size) B ob G (w.alloc zeroOut) g := ⟨at_alloc hM.box _, hM.low, hM.fix, hM.m.aside zeroOut, hM.high⟩
  have HE := HE hM1
  obtain ⟨ka, tb, wc, hout⟩ := outcome_form t txt
  have HE2 : Hid (Calls Tryz.prog 17 #[.pointer (some ⟨ob, 0, none⟩), .string ⟨s.toArray⟩, .int .i64 20000] (w.alloc zeroOut) fun e w' => ∃ sa sn sc, e = .returned (.tuple #[.agg #[.int .i64 ka, .string tb, .int .i64 wc, .int .i64 t.steps, .slice sa sn sc], .int .i64 0, .int .i64 0]) ∧ w'.heap[w.heap.size]? = some zeroOut ∧ RunsR N B ob g t txt w (.returned (.tuple #[.agg #[.int .i64 ka, .string tb, .int .i64 wc, .int .i64 t.steps, .slice sa sn sc], .bool true])) ((set5 w' w.heap.size (.int .i64 ka) (.string tb) (.int .i64 wc) (.int .i64 t.steps) (.slice sa sn sc)).alloc (.cells #[.int .i64 ka, .string tb, .int .i64 wc, .int .i64 t.steps, .slice sa sn sc] 34))) := by
    refine HE.mono ?_
    rintro e w' ⟨g', sa, sn, sc, rfl, hM2, hk, hn, hsw⟩
    obtain ⟨h1, h2⟩ := runs_ends (txt := txt) hM hM2 hk hn hsw (hout _)
    exact ⟨sa, sn, sc, by rw [hout], h1, h2⟩
  have HZ : Hid (w.alloc (.cells #[.int .i64 0, .string ⟨#[]⟩, .int .i64 0, .int .i64 0, .slice none 0 0] 34) = w.alloc zeroOut) := rfl
  have hsz : (⟨s.toArray⟩ : ByteArray).size = s.length := by show s.toArray.size = _; simp
  have i1 : ¬ (500 : Int) < (s.length : Int) := by omega
  clear HE hM hM1 hout
  generalize w.alloc zeroOut = w1 at *
  unfold ptrV
  go_enter Tryz.func13, Tryz.ntmps13
  go_wp2_with (first | (go_at_call 17; rw [HZ.out]; refine HE2.out.mono ?_; rintro e4 w4 ⟨sa, sn, sc, rfl, hat4, hfin⟩; have HFIN := (show Hid _ from hfin); have l4 := lt_of_at hat4; have n4 : w4.heap.size ≠ w.heap.size := (by omega); obtain ⟨x0, x1, x2, x3, x4, d0, d1, d2, d3, d4⟩ := six_of hat4; clear hfin))
  have hcl := set5_at hat4 (.int .i64 ka) (.string tb) (.int .i64 wc) (.int .i64 t.steps) (.slice sa sn sc)
  have hcl2 := at_alloc hcl (.cells #[.int .i64 ka, .string tb, .int .i64 wc, .int .i64 t.steps, .slice sa sn sc] 34)
  have f0 := cell_of_at hcl2 0
  have f1 := cell_of_at hcl2 1
  have f2 := cell_of_at hcl2 2
  have f3 := cell_of_at hcl2 3
  have f4 := cell_of_at hcl2 4
  simp only [List.getElem?_toArray, List.getElem?_cons_zero, List.getElem?_cons_succ] at f0 f1 f2 f3 f4
  have HWE : Hid (((((w4.setCell ⟨w.heap.size, 0, none⟩ (.int .i64 ka)).setCell ⟨w.heap.size, 1, none⟩ (.string tb)).setCell ⟨w.heap.size, 2, none⟩ (.int .i64 wc)).setCell ⟨w.heap.size, 3, none⟩ (.int .i64 t.steps)).setCell ⟨w.heap.size, 4, none⟩ (.slice sa sn sc) = set5 w4 w.heap.size (.int .i64 ka) (.string tb) (.int .i64 wc) (.int .i64 t.steps) (.slice sa sn sc)) := rfl
  rw [HWE.out]
  refine bodyPost_ret (v := .tuple #[.agg #[.int .i64 ka, .string tb, .int .i64 wc, .int .i64 t.steps, .slice sa sn sc], .bool true]) ?_ rfl HFIN.out
  simp [results, Tryz.results13, go_sem, f0, f1, f2, f3, f4]
theorem run13 (show_ : V → Option (List UInt8)) (HC : CallC show_) (N : Nat → Prop) (B ob : Nat) (G : List (Rd.Sym × V)) (g : Gh) (s : List UInt8) (fs : List Rd.F) (t : St) (txt : List UInt8) (w : World) (hM : Mach N B ob G w g) (hBw : B ≤ w.heap.size) (hNt : tabBlock < B) (htab : TabOk w) (hs : Forms s fs) (hx : Mc.Ends 20000 show_ (begin_ G) fs t) (hne : fs ≠ []) (hshow : t.kind = 0 → ∀ v, t.ctl = .val v → ShowsAs v txt) :
    Calls Tryz.prog 13 #[ptrV ob, .string ⟨s.toArray⟩] w (RunsR N B ob g t txt w) := by
  have hlt := htab.lt
  exact run13_gen N B ob G g s t txt w hM hs.1 fun hM1 => eval17 show_ HC _ B ob G g 20000 (Nat.le_refl _) s fs t txt (w.alloc zeroOut) hM1 (by simp; omega) hNt (htab.on (Below.heap_alloc _ _ _ hlt)) hs hx hne hshow
end Go.Proofs.YtodeeegbajgafaaGreatDoor

namespace Go.Proofs.YtodeeegbajgafaaGreatDoor
open Go.RowKit
open Mc

def dsOf (l : List UInt8) : List Rd.D := match Rd.rdList 300 l.length 0 (Rd.skip l) with
  | some (ds, _, _) => ds
  | none => []
def fsOf (l : List UInt8) : List Rd.F := (Rd.pTops 300 (dsOf l)).getD []
def isSrc (l : List UInt8) : Bool := decide (l.length ≤ 500) && (match Rd.rdList 300 l.length 0 (Rd.skip l) with
  | some (ds, l', m) => decide (Rd.kindAt l' = 0) && decide (m ≤ 20) && decide (ds.length ≤ 4000) && !ds.isEmpty
  | none => false) && (Rd.pTops 300 (dsOf l)).isSome
theorem Forms.of {l : List UInt8} (h : isSrc l = true) : Forms l (fsOf l) := by
  simp only [isSrc, Bool.and_eq_true, decide_eq_true_eq] at h
  obtain ⟨⟨h1, h2⟩, h3⟩ := h
  split at h2
  · rename_i ds l' m hr
    simp only [Bool.and_eq_true, decide_eq_true_eq, Bool.not_eq_true'] at h2
    obtain ⟨⟨⟨h4, h5⟩, h6⟩, h7⟩ := h2
    have hd : dsOf l = ds := by unfold dsOf; rw [hr]
    obtain ⟨fs, hfs⟩ := Option.isSome_iff_exists.1 h3
    have hsz : (⟨l.toArray⟩ : ByteArray).size = l.length := by show l.toArray.size = _; simp
    refine ⟨h1, ds, 300, ⟨by rw [hsz]; exact h1, 300, l', m, by omega, ?_, h4, h5⟩, by omega, ?_, h6, ?_⟩
    · rw [hsz]
      exact hr
    · unfold fsOf
      rw [hfs]
      rw [hd] at hfs
      exact hfs
    · rintro rfl
      cases h7
  · cases h2

def iter (F : Nat) (sh : V → Option (List UInt8)) : Nat → St → St
  | 0, s => s
  | n + 1, s => match s.round F sh with
    | some s' => iter F sh n s'
    | none => s
theorem iter_runs (F : Nat) (sh : V → Option (List UInt8)) : ∀ (n : Nat) (s : St), ∃ k, Runs F sh k s (iter F sh n s)
  | 0, s => ⟨0, .nil _⟩
  | n + 1, s => by
    rw [iter]
    split
    · rename_i s' h
      obtain ⟨k, hk⟩ := iter_runs F sh n s'
      exact ⟨k + 1, .cons h hk⟩
    · exact ⟨0, .nil _⟩
def endedB (t : St) : Bool := t.kind != 0 || ((match t.ctl with | .val _ => true | .ev _ _ => false) && t.todo.isEmpty && t.beyond.isEmpty)
theorem endedB_ended {t : St} (h : endedB t = true) : t.ended := by
  obtain ⟨ctl, todo, beyond, steps, kind, why, G, shown⟩ := t
  simp only [endedB, Bool.or_eq_true, Bool.and_eq_true, bne_iff_ne, List.isEmpty_iff] at h
  rcases h with h | ⟨⟨h1, h2⟩, h3⟩
  · exact Or.inl h
  · refine Or.inr ⟨?_, h2, h3⟩
    cases ctl with
    | ev => cases h1
    | val v => exact ⟨v, rfl⟩
/-- Forms in turn. -/
def endsAt (F : Nat) (sh : V → Option (List UInt8)) (s : St) : List Rd.F → Option St
  | [] => none
  | [f] => if endedB (iter F sh 200 (s.eval f [])) then some (iter F sh 200 (s.eval f [])) else none
  | f :: f' :: fs => if endedB (iter F sh 200 (s.eval f [])) && (iter F sh 200 (s.eval f [])).kind == 0 then endsAt F sh (iter F sh 200 (s.eval f [])) (f' :: fs) else none
theorem endsAt_ends {F : Nat} {sh : V → Option (List UInt8)} : ∀ {fs : List Rd.F} {s t : St}, endsAt F sh s fs = some t → Mc.Ends F sh s fs t
  | [], _, _, h => by cases h
  | [f], s, t, h => by
    rw [endsAt] at h
    split at h
    · rename_i he
      cases h
      obtain ⟨k, hk⟩ := iter_runs F sh 200 (s.eval f [])
      exact .one hk (endedB_ended he)
    · cases h
  | f :: f' :: fs, s, t, h => by
    rw [endsAt] at h
    split at h
    · rename_i he
      simp only [Bool.and_eq_true, beq_iff_eq] at he
      obtain ⟨k, hk⟩ := iter_runs F sh 200 (s.eval f [])
      exact .more hk (endedB_ended he.1) he.2 (endsAt_ends h)
    · cases h
def shN : V → Option (List UInt8) := fun _ => none
theorem callN : CallC shN := callC_any shN showC_none

theorem ShowsAs.num {n : Int} (h0 : -9223372036854775808 ≤ n) (h1 : n ≤ 9223372036854775807) (hne : Lib.itoa n ≠ []) : ShowsAs (.atom (.num n)) (Lib.itoa n) := fun mb ok w x h ht => by
  obtain rfl := h.atom_inv
  exact show_num n h0 h1 hne w ht
theorem ShowsAs.sym {s : List UInt8} (hne : s ≠ []) (hl : s.length ≤ 1000) : ShowsAs (.atom (.sym s)) s := fun mb ok w x h ht => by
  obtain rfl := h.atom_inv
  exact show_sym s hne hl w
theorem ShowsAs.empty : ShowsAs (.atom .empty) [40, 41] := fun mb ok w x h ht => by
  obtain rfl := h.atom_inv
  exact show_empty w
theorem ShowsAs.nums {m : Int} {ns : List Int} (hns : ∀ k ∈ m :: ns, -100 < k ∧ k < 1000) (hl : ns.length ≤ 100) : ShowsAs (listV ((m :: ns).map numV)) (40 :: (Lib.itoa m ++ (Rd.numsT ns ++ [41]))) := fun mb ok w x h ht => show_nums mb ok m ns hns hl w ht x h

def src1 : List UInt8 := [40, 100, 101, 102, 105, 110, 101, 32, 107, 32, 48, 41, 32, 40, 114, 101, 115, 101, 116, 32, 40, 43, 32, 49, 32, 40, 115, 104, 105, 102, 116, 32, 99, 32, 40, 98, 101, 103, 105, 110, 32, 40, 115, 101, 116, 33, 32, 107, 32, 99, 41, 32, 48, 41, 41, 41, 41, 32, 40, 107, 32, 49, 48, 41]
def src2 : List UInt8 := [40, 99, 97, 114, 32, 49, 41]
theorem isSrc1 : isSrc src1 = true := by decide +kernel
theorem isSrc2 : isSrc src2 = true := by decide +kernel
noncomputable def st1 : St := (endsAt 20000 shN (begin_ G0) (fsOf src1)).getD (begin_ G0)
noncomputable def st2 : St := (endsAt 20000 shN (begin_ st1.G) (fsOf src2)).getD (begin_ G0)
set_option maxRecDepth 100000 in
theorem ends1 : endsAt 20000 shN (begin_ G0) (fsOf src1) = some st1 := rfl
set_option maxRecDepth 100000 in
theorem ends2 : endsAt 20000 shN (begin_ st1.G) (fsOf src2) = some st2 := rfl
set_option maxRecDepth 100000 in
theorem st1_ctl : st1.ctl = .val (.atom (.num 11)) ∧ st1.kind = 0 := ⟨rfl, rfl⟩
set_option maxRecDepth 100000 in
theorem st2_kind : st2.kind = 2 ∧ st2.why = 2 := ⟨rfl, rfl⟩
set_option maxRecDepth 100000 in
theorem src_ne : fsOf src1 ≠ [] ∧ fsOf src2 ≠ [] := ⟨(fun e => by cases e), (fun e => by cases e)⟩
end Go.Proofs.YtodeeegbajgafaaGreatDoor
