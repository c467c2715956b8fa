/- Eval, whatever the source. Written by gen_keval.py. The run's calls, whatever is called and with what. The first of the values is called with the others, whatever they are. display is called; and the contract of all calls. New machines evaluate any source: what comes of some fuel and of more. rondokeep's run, whatever the source. Written by gen_krun13.py. The two sources of fresh, run. -/
import Derived.Test.YtodeeegbajgafaaGreatDoorQ46
import Derived.Test.YtodeeegbajgafaaGreatDoorQ38
import Derived.Test.YtodeeegbajgafaaGreatDoorQ47
import Derived.Test.YtodeeegbajgafaaGreatDoorQ24
import Derived.Test.YtodeeegbajgafaaGreatDoorQ41
import Derived.Test.YtodeeegbajgafaaGreatDoorQ44
import Derived.Deep.RegionHeld3
namespace Go.Proofs.YtodeeegbajgafaaGreatDoor
namespace Kc
open Go.RowKit
theorem MachAt.aside {N : Nat → Prop} {g : Gh} {G : List (Rd.Sym × V)} {sc : List (List V)} {sh : List (List UInt8)} {w : World} (h : MachAt N g G sc sh w) (o : Obj) : MachAt (fun k => N k ∨ k = w.heap.size) g G sc sh (w.alloc o) := by
  refine h.kept (fun k hm => Below.heap_alloc _ _ _ (Gh.low h k hm)) (fun k hk ho => ⟨⟨fun e => by rcases e with e | e; exact ho.1 e; omega, ho.2⟩, Below.heap_alloc _ _ _ hk⟩) ?_ ?_
  · rintro k (e | rfl)
    · have := h.low k e; simp; omega
    · simp
  · rintro k hm (e | rfl)
    · exact h.disj k hm e
    · exact Nat.lt_irrefl _ (Gh.low h _ hm)
theorem MachAt.other {N N' : Nat → Prop} {g : Gh} {G : List (Rd.Sym × V)} {sc : List (List V)} {sh : List (List UInt8)} {w w' : World} (h : MachAt N g G sc sh w) (hs : w.heap.size ≤ w'.heap.size) (hw : ∀ k, k < w.heap.size → ¬ N k → w'.heap[k]? = w.heap[k]?) (hN : ∀ k, N' k → N k) : MachAt N' g G sc sh w' :=
  h.kept (fun k hm => hw k (Gh.low h k hm) (h.disj k hm)) (fun k hk ho => ⟨⟨fun e => ho.1 (hN k e), ho.2⟩, hw k hk ho.1⟩) (fun k e => Nat.lt_of_lt_of_le (h.low k (hN k e)) hs) (fun k hm e => h.disj k hm (hN k e))
theorem MachAt.below {N : Nat → Prop} {g : Gh} {G : List (Rd.Sym × V)} {sc : List (List V)} {sh : List (List UInt8)} {w w' : World} (h : MachAt N g G sc sh w) (hb : Below w.heap.size w w') : MachAt N g G sc sh w' := h.other hb.size (fun k hk _ => hb.block k hk) (fun _ e => e)
/-- A rondo.Machine. -/
structure MachK (N : Nat → Prop) (B ob : Nat) (G : List (Rd.Sym × V)) (C : List (List V)) (w : World) (g : Gh) : Prop where
  box : w.heap[ob]? = some (.cells #[ptrV g.mb] 70 (0, 0))
  fix : ¬ g.mut ob
  m : MachAt N g G C [] w
  high : ∀ k, g.mut k → B ≤ k
/-- What was shown, given away. -/
def ShownK (N : Nat → Prop) (l : List (List UInt8)) (w : World) (v : Value) : Prop := (∃ B, w.ownsRow B 9 1 v l.length (l.map strV)) ∧ ∀ k, v.ownBlock = some k → ¬ N k
theorem ShownK.kept {N N' M : Nat → Prop} {l : List (List UInt8)} {w w' : World} {v : Value} (h : ShownK N l w v) (hk : Kept M w w') (hM : ∀ k, M k → N k) (hN : ∀ k, N' k → N k) : ShownK N' l w' v := by
  obtain ⟨⟨B, ho⟩, h2⟩ := h
  exact ⟨⟨B, own_kept' ho hk (fun k e m => h2 k e (hM k m))⟩, fun k e n => h2 k e (hN k n)⟩
/-- An evaluation ran. -/
def EvalRK (N : Nat → Prop) (B ob : Nat) (g : Gh) (t : St) (em : Bool) (w : World) : Ending → World → Prop := fun e w' => ∃ g' sa sn sc, e = .returned (.tuple #[outcomeK t em (.slice sa sn sc), .int .i64 0, .int .i64 0]) ∧ MachK N B ob t.G t.sc w' g' ∧ Kept g.mut w w' ∧ Gh.Next w g g' ∧ ShownK N t.shown w' (.slice sa sn sc)
/-- It was refused. -/
def EvalNo (n p : Nat) (w : World) : Ending → World → Prop := fun e w' => e = .returned (.tuple #[.agg #[.int .i64 0, .string ⟨#[]⟩, .int .i64 0, .int .i64 0, .slice none 0 0], .int .i64 n, .int .i64 p]) ∧ Below w.heap.size w w'
/-- The facts behind the run that Eval makes. -/
theorem eval_ends {N : Nat → Prop} {B ob : Nat} {t : St} {em : Bool} {C : List (List V)} {G : List (Rd.Sym × V)} {w w1 w4 : World} {g g' : Gh} {sa : Option Addr} {sn sc : Nat} {a b c d : Value} (hM : MachK N B ob G C w g) (hBw : B ≤ w.heap.size) (hB1 : Below w.heap.size w w1) (hl : w.heap.size < w1.heap.size) (h6 : w1.heap[w.heap.size]? = some zeroOut)
    (hn : Gh.Next w1 g g') (hm : MachAt (fun k => N k ∨ k = w.heap.size) g' t.G t.sc [] w4) (hk : Kept g.mut w1 w4) (hsw : ShownK (fun k => N k ∨ k = w.heap.size) t.shown w4 (.slice sa sn sc)) (ho : outcomeK t em (.slice sa sn sc) = .agg #[a, b, c, d, .slice sa sn sc]) :
    w4.heap[w.heap.size]? = some zeroOut ∧ EvalRK N B ob g t em w (.returned (.tuple #[.agg #[a, b, c, d, .slice sa sn sc], .int .i64 0, .int .i64 0])) (set5 w4 w.heap.size a b c d (.slice sa sn sc)) := by
  have hm6 : ¬ g.mut w.heap.size := fun e => Nat.lt_irrefl _ (Gh.low hM.m _ e)
  have hat := hk.at hm6 h6
  refine ⟨hat, g', sa, sn, sc, by rw [ho], ⟨?_, ?_, ?_, ?_⟩, ?_, ⟨hn.mb, hn.db, hn.sp, fun k e hk' => hn.mt k e (by omega)⟩, hsw.kept (set5_kept (Kept.refl (fun k => k = w.heap.size) w4) (k := w.heap.size) (fun _ => rfl) a b c d (.slice sa sn sc)) (fun k e => Or.inr e) (fun k e => Or.inl e)⟩
  · have hob : ob < w.heap.size := lt_of_at hM.box
    rw [set5_ne _ _ _ _ _ _ _ _ (by omega), hn.mb]
    exact hk.at hM.fix (Below.at hB1 hM.box)
  · intro e
    have hob : ob < w.heap.size := lt_of_at hM.box
    exact hM.fix (hn.mt ob e (by omega))
  · exact hm.other (by rw [set5_size]; exact Nat.le_refl _) (fun k _ hk => set5_ne _ _ _ _ _ _ _ _ (fun e => hk (Or.inr e))) (fun k e => Or.inl e)
  · intro k e
    by_cases hk' : k < w1.heap.size
    · exact hM.high k (hn.mt k e hk')
    · omega
  · have h1 : Kept g.mut w w4 := ⟨hk.os.trans hB1.os, hk.tape.trans hB1.tape, hk.output.trans hB1.output, Nat.le_trans hB1.size hk.size, fun k hk' hm' => (hk.block k (by omega) hm').trans (hB1.block k hk')⟩
    exact set5_kept h1 (k := w.heap.size) (fun e => absurd e (Nat.lt_irrefl _)) a b c d (.slice sa sn sc)
set_option maxHeartbeats 8000000 in
set_option maxRecDepth 20000 in
theorem eval_run (HC : CallC) (C : List (List V)) (N : Nat → Prop) (B ob : Nat) (G : List (Rd.Sym × V)) (g : Gh) (F : Nat) (hF : F ≤ 20000) (s : ByteArray) (ds : List Rd.D) (fs : List Rd.F) (t : St) (w : World) (hM : MachK N B ob G C w g) (hBw : B ≤ w.heap.size) (hNt : tabBlock < B) (htab : TabOk w)
    (HR : Hid (Calls Tryz.prog 24 #[.string s] (w.alloc zeroOut) fun e w' => ∃ sl, e = .returned (.tuple #[sl, .int .i64 0, .int .i64 0]) ∧ RepS (fun k => (w.alloc zeroOut).heap.size ≤ k) w' sl ds ∧ Below (w.alloc zeroOut).heap.size (w.alloc zeroOut) w'))
    (hps : ∀ W sl, RepS (fun _ => True) W sl ds → Calls Tryz.prog 27 #[sl] W fun e w' => ∃ fv, e = .returned (.tuple #[fv, .int .i64 0, .int .i64 0]) ∧ RepFs (fun k => W.heap.size ≤ k) w' fv fs ∧ Below W.heap.size W w') (hx : EndsI F (begin_ G C) fs t) :
    Calls Tryz.prog 17 #[ptrV ob, .string s, .int .i64 F] w (EvalRK N B ob g t fs.isEmpty w) := by
  obtain ⟨ka, tb, wc, hout⟩ : ∃ (ka : Int) (tb : ByteArray) (wc : Int), ∀ sh, outcomeK t fs.isEmpty sh = .agg #[.int .i64 ka, .string tb, .int .i64 wc, .int .i64 t.steps, sh] := ⟨_, _, _, fun _ => rfl⟩
  have HP : Hid (∀ W sl, Below (w.alloc zeroOut).heap.size (w.alloc zeroOut) W → RepS (fun k => (w.alloc zeroOut).heap.size ≤ k) W sl ds → Calls Tryz.prog 27 #[sl] W fun e w' => ∃ ya yc, e = .returned (.tuple #[.slice (some ya) fs.length yc, .int .i64 0, .int .i64 0]) ∧ RepFs (fun k => (w.alloc zeroOut).heap.size ≤ k) w' (.slice (some ya) fs.length yc) fs ∧ Below (w.alloc zeroOut).heap.size (w.alloc zeroOut) w') := fun W sl hb h => (hps W sl (h.mono fun k _ _ => ⟨trivial, rfl⟩)).mono fun e w' ⟨fv, he, hr, hb'⟩ => by
    obtain ⟨ya, yc, rfl, _, _⟩ := hr.shape
    exact ⟨ya, yc, he, hr.mono fun k _ hk => ⟨Nat.le_trans hb.size hk, rfl⟩, hb.trans (hb'.mono hb.size)⟩
  have hm1 := hM.m.aside zeroOut
  have hB1 : Below w.heap.size w (w.alloc zeroOut) := (Below.refl _ w).alloc (Nat.le_refl _) _
  have HRUN : Hid (∀ W fv, Below (w.alloc zeroOut).heap.size (w.alloc zeroOut) W → RepFs (fun k => (w.alloc zeroOut).heap.size ≤ k) W fv fs → Calls Tryz.prog 28 #[.pointer (some ⟨g.mb, 0, none⟩), fv, .int .i64 F] W fun e w' => ∃ g' sa sn sc, e = .returned (.agg #[.int .i64 ka, .string tb, .int .i64 wc, .int .i64 t.steps, .slice sa sn sc]) ∧ Gh.Next W g g' ∧ MachAt (fun k => N k ∨ k = w.heap.size) g' t.G t.sc [] w' ∧ Kept g.mut W w' ∧ ShownK (fun k => N k ∨ k = w.heap.size) t.shown w' (.slice sa sn sc)) := fun W fv hb hfv => by
    have hmW := hm1.below hb
    refine Calls.mono (R := RunR (fun k => N k ∨ k = w.heap.size) g t fs.isEmpty W) ?_ ?_
    rotate_left
    · rintro e w' ⟨g', sh, rfl, hn, hm, hk, _, ⟨B', ho⟩, hnk⟩
      obtain ⟨sa, sn, sc, rfl⟩ := owns_slice ho
      exact ⟨g', sa, sn, sc, by rw [hout], hn, hm, hk, ⟨B', ho⟩, fun k e => (hnk k e).2⟩
    refine run_K HC _ g F hF G C t W hmW (fun e => by have := hM.high _ e; omega) ?_ fv fs (hfv.mono fun k _ hk => ⟨Gh.ok_new hm1 k hk, rfl⟩) hx
    have hlt := htab.lt
    exact (htab.on (hB1.block _ hlt)).on (hb.block _ (by simp; omega))
  have hsz : (w.alloc zeroOut).heap.size = w.heap.size + 1 := by simp
  have h6 : (w.alloc zeroOut).heap[w.heap.size]? = some zeroOut := at_new w _
  have HE : Hid (∀ W W4 g' sa sn sc, Below (w.alloc zeroOut).heap.size (w.alloc zeroOut) W → Gh.Next W g g' → MachAt (fun k => N k ∨ k = w.heap.size) g' t.G t.sc [] W4 → Kept g.mut W W4 → ShownK (fun k => N k ∨ k = w.heap.size) t.shown W4 (.slice sa sn sc) → W4.heap[w.heap.size]? = some zeroOut ∧ EvalRK N B ob g t fs.isEmpty w (.returned (.tuple #[.agg #[.int .i64 ka, .string tb, .int .i64 wc, .int .i64 t.steps, .slice sa sn sc], .int .i64 0, .int .i64 0])) (set5 W4 w.heap.size (.int .i64 ka) (.string tb) (.int .i64 wc) (.int .i64 t.steps) (.slice sa sn sc))) := fun W W4 g' sa sn sc hb hn hm hk hsw =>
    eval_ends hM hBw (hB1.trans (hb.mono (by omega))) (by have := hb.size; omega) (Below.at hb h6) hn hm hk hsw (hout _)
  obtain ⟨q0, _⟩ := cells1 hM.box
  have hob := lt_of_at hM.box
  have HQ : Hid (∀ W, Below (w.alloc zeroOut).heap.size (w.alloc zeroOut) W → W.cell? ⟨ob, 0, none⟩ = some (.pointer (some ⟨g.mb, 0, none⟩))) := fun W hb => (Kept.of_below (hB1.trans (hb.mono (by omega))) (fun _ => False)).cell id q0
  have HOUT := (show Hid _ from hout)
  have HB1 := (show Hid _ from hB1)
  have HZ : Hid (w.alloc (.cells #[.int .i64 0, .string ⟨#[]⟩, .int .i64 0, .int .i64 0, .slice none 0 0] 34) = w.alloc zeroOut) := rfl
  clear hps hM hx HC hm1 hB1 hout h6 hsz htab q0
  generalize w.alloc zeroOut = w1 at *
  unfold ptrV
  go_enter Tryz.func17, Tryz.ntmps17
  go_wp2_with (first | (go_at_call 24; rw [HZ.out]; refine HR.out.mono ?_; rintro e2 w2 ⟨sl, rfl, hr2, hb2⟩; have HR2 := (show Hid _ from hr2); obtain ⟨xa, xn, xc, rfl⟩ := hr2.slice; clear hr2) | (go_at_call 27; refine (HP.out _ _ hb2 HR2.out).mono ?_; rintro e3 w3 ⟨ya, yc, rfl, hr3, hb13⟩; have HR3 := (show Hid _ from hr3); clear hr3; have q3 := HQ.out _ hb13) | (go_at_call 28; refine (HRUN.out _ _ hb13 HR3.out).mono ?_; rintro e4 w4 ⟨g', sa, sn, sc, rfl, hn4, hm4, hk4, hs4⟩; obtain ⟨hat4, hfin⟩ := HE.out _ _ _ sa sn sc hb13 hn4 hm4 hk4 hs4; have HFIN := (show Hid _ from hfin); clear hn4 hm4 hk4 hs4 hfin; obtain ⟨x0, x1, x2, x3, x4, d0, d1, d2, d3, d4⟩ := six_of hat4))
  have hcl := set5_at hat4 (.int .i64 ka) (.string tb) (.int .i64 wc) (.int .i64 t.steps) (.slice sa sn sc)
  have f0 := cell_of_at hcl 0
  have f1 := cell_of_at hcl 1
  have f2 := cell_of_at hcl 2
  have f3 := cell_of_at hcl 3
  have f4 := cell_of_at hcl 4
  simp only [List.getElem?_toArray, List.getElem?_cons_zero, List.getElem?_cons_succ] at f0 f1 f2 f3 f4
  have HWE : Hid (((((w4.setCell ⟨w.heap.size, 0, none⟩ (.int .i64 ka)).setCell ⟨w.heap.size, 1, none⟩ (.string tb)).setCell ⟨w.heap.size, 2, none⟩ (.int .i64 wc)).setCell ⟨w.heap.size, 3, none⟩ (.int .i64 t.steps)).setCell ⟨w.heap.size, 4, none⟩ (.slice sa sn sc) = set5 w4 w.heap.size (.int .i64 ka) (.string tb) (.int .i64 wc) (.int .i64 t.steps) (.slice sa sn sc)) := rfl
  rw [HWE.out]
  refine bodyPost_ret (v := .tuple #[.agg #[.int .i64 ka, .string tb, .int .i64 wc, .int .i64 t.steps, .slice sa sn sc], .int .i64 0, .int .i64 0]) ?_ rfl HFIN.out
  simp [results, Tryz.results17, go_sem, f0, f1, f2, f3, f4]
set_option maxHeartbeats 8000000 in
set_option maxRecDepth 20000 in
theorem eval_no (ob F : Nat) (s : ByteArray) (n p : Nat) (hn : n ≠ 0) (w : World)
    (HR : Hid (Calls Tryz.prog 24 #[.string s] (w.alloc zeroOut) fun e w' => e = .returned (.tuple #[.slice none 0 0, .int .i64 n, .int .i64 p]) ∧ Below (w.alloc zeroOut).heap.size (w.alloc zeroOut) w')) :
    Calls Tryz.prog 17 #[ptrV ob, .string s, .int .i64 F] w (EvalNo n p w) := by
  have hB1 : Below w.heap.size w (w.alloc zeroOut) := (Below.refl _ w).alloc (Nat.le_refl _) _
  have hsz : (w.alloc zeroOut).heap.size = w.heap.size + 1 := by simp
  have h6 : (w.alloc zeroOut).heap[w.heap.size]? = some zeroOut := at_new w _
  have HE : Hid (∀ W, Below (w.alloc zeroOut).heap.size (w.alloc zeroOut) W → W.heap[w.heap.size]? = some zeroOut ∧ EvalNo n p w (.returned (.tuple #[.agg #[.int .i64 0, .string ⟨#[]⟩, .int .i64 0, .int .i64 0, .slice none 0 0], .int .i64 n, .int .i64 p])) (set5 W w.heap.size (.int .i64 0) (.string ⟨#[]⟩) (.int .i64 0) (.int .i64 0) (.slice none 0 0))) := fun W hb => by
    have hbW : Below w.heap.size w W := hB1.trans (hb.mono (by omega))
    refine ⟨Below.at hb h6, rfl, ?_⟩
    unfold set5
    exact ((((hbW.setCell (p := ⟨w.heap.size, 0, none⟩) (Nat.le_refl _) _).setCell (p := ⟨w.heap.size, 1, none⟩) (Nat.le_refl _) _).setCell (p := ⟨w.heap.size, 2, none⟩) (Nat.le_refl _) _).setCell (p := ⟨w.heap.size, 3, none⟩) (Nat.le_refl _) _).setCell (p := ⟨w.heap.size, 4, none⟩) (Nat.le_refl _) _
  have HZ : Hid (w.alloc (.cells #[.int .i64 0, .string ⟨#[]⟩, .int .i64 0, .int .i64 0, .slice none 0 0] 34) = w.alloc zeroOut) := rfl
  have hni : ¬ (n : Int) = 0 := by omega
  clear hB1 hsz h6
  generalize w.alloc zeroOut = w1 at *
  unfold ptrV
  go_enter Tryz.func17, Tryz.ntmps17
  go_wp2_with (first | (go_at_call 24; rw [HZ.out]; refine HR.out.mono ?_; rintro e2 w4 ⟨rfl, hb2⟩; obtain ⟨hat4, hfin⟩ := HE.out _ hb2; have HFIN := (show Hid _ from hfin); clear hfin; obtain ⟨x0, x1, x2, x3, x4, d0, d1, d2, d3, d4⟩ := six_of hat4))
  have hcl := set5_at hat4 (.int .i64 0) (.string ⟨#[]⟩) (.int .i64 0) (.int .i64 0) (.slice none 0 0)
  have f0 := cell_of_at hcl 0
  have f1 := cell_of_at hcl 1
  have f2 := cell_of_at hcl 2
  have f3 := cell_of_at hcl 3
  have f4 := cell_of_at hcl 4
  simp only [List.getElem?_toArray, List.getElem?_cons_zero, List.getElem?_cons_succ] at f0 f1 f2 f3 f4
  have HWE : Hid (((((w4.setCell ⟨w.heap.size, 0, none⟩ (.int .i64 0)).setCell ⟨w.heap.size, 1, none⟩ (.string ⟨#[]⟩)).setCell ⟨w.heap.size, 2, none⟩ (.int .i64 0)).setCell ⟨w.heap.size, 3, none⟩ (.int .i64 0)).setCell ⟨w.heap.size, 4, none⟩ (.slice none 0 0) = set5 w4 w.heap.size (.int .i64 0) (.string ⟨#[]⟩) (.int .i64 0) (.int .i64 0) (.slice none 0 0)) := rfl
  rw [HWE.out]
  refine bodyPost_ret (v := .tuple #[.agg #[.int .i64 0, .string ⟨#[]⟩, .int .i64 0, .int .i64 0, .slice none 0 0], .int .i64 n, .int .i64 p]) ?_ rfl (by first | exact HFIN.out | exact ⟨rfl, HFIN.out.2⟩)
  simp [results, Tryz.results17, go_sem, f0, f1, f2, f3, f4]
set_option maxHeartbeats 8000000 in
set_option maxRecDepth 20000 in
theorem eval_bad (ob F : Nat) (s : ByteArray) (ds : List Rd.D) (p : Nat) (w : World)
    (HR : Hid (Calls Tryz.prog 24 #[.string s] (w.alloc zeroOut) fun e w' => ∃ sl, e = .returned (.tuple #[sl, .int .i64 0, .int .i64 0]) ∧ RepS (fun k => (w.alloc zeroOut).heap.size ≤ k) w' sl ds ∧ Below (w.alloc zeroOut).heap.size (w.alloc zeroOut) w'))
    (hps : ∀ W sl, RepS (fun _ => True) W sl ds → Calls Tryz.prog 27 #[sl] W fun e w' => e = .returned (.tuple #[.slice none 0 0, .int .i64 4, .int .i64 p]) ∧ Below W.heap.size W w') :
    Calls Tryz.prog 17 #[ptrV ob, .string s, .int .i64 F] w (EvalNo 4 p w) := by
  have HP : Hid (∀ W sl, Below (w.alloc zeroOut).heap.size (w.alloc zeroOut) W → RepS (fun k => (w.alloc zeroOut).heap.size ≤ k) W sl ds → Calls Tryz.prog 27 #[sl] W fun e w' => e = .returned (.tuple #[.slice none 0 0, .int .i64 4, .int .i64 p]) ∧ Below (w.alloc zeroOut).heap.size (w.alloc zeroOut) w') := fun W sl hb h => (hps W sl (h.mono fun k _ _ => ⟨trivial, rfl⟩)).mono fun e w' ⟨he, hb'⟩ => ⟨he, hb.trans (hb'.mono hb.size)⟩
  have hB1 : Below w.heap.size w (w.alloc zeroOut) := (Below.refl _ w).alloc (Nat.le_refl _) _
  have hsz : (w.alloc zeroOut).heap.size = w.heap.size + 1 := by simp
  have h6 : (w.alloc zeroOut).heap[w.heap.size]? = some zeroOut := at_new w _
  have HE : Hid (∀ W, Below (w.alloc zeroOut).heap.size (w.alloc zeroOut) W → W.heap[w.heap.size]? = some zeroOut ∧ EvalNo 4 p w (.returned (.tuple #[.agg #[.int .i64 0, .string ⟨#[]⟩, .int .i64 0, .int .i64 0, .slice none 0 0], .int .i64 4, .int .i64 p])) (set5 W w.heap.size (.int .i64 0) (.string ⟨#[]⟩) (.int .i64 0) (.int .i64 0) (.slice none 0 0))) := fun W hb => by
    have hbW : Below w.heap.size w W := hB1.trans (hb.mono (by omega))
    refine ⟨Below.at hb h6, rfl, ?_⟩
    unfold set5
    exact ((((hbW.setCell (p := ⟨w.heap.size, 0, none⟩) (Nat.le_refl _) _).setCell (p := ⟨w.heap.size, 1, none⟩) (Nat.le_refl _) _).setCell (p := ⟨w.heap.size, 2, none⟩) (Nat.le_refl _) _).setCell (p := ⟨w.heap.size, 3, none⟩) (Nat.le_refl _) _).setCell (p := ⟨w.heap.size, 4, none⟩) (Nat.le_refl _) _
  have HZ : Hid (w.alloc (.cells #[.int .i64 0, .string ⟨#[]⟩, .int .i64 0, .int .i64 0, .slice none 0 0] 34) = w.alloc zeroOut) := rfl
  clear hB1 hsz h6 hps
  generalize w.alloc zeroOut = w1 at *
  unfold ptrV
  go_enter Tryz.func17, Tryz.ntmps17
  go_wp2_with (first | (go_at_call 24; rw [HZ.out]; refine HR.out.mono ?_; rintro e2 w2 ⟨sl, rfl, hr2, hb2⟩; have HR2 := (show Hid _ from hr2); obtain ⟨xa, xn, xc, rfl⟩ := hr2.slice; clear hr2) | (go_at_call 27; refine (HP.out _ _ hb2 HR2.out).mono ?_; rintro e3 w4 ⟨rfl, hb13⟩; obtain ⟨hat4, hfin⟩ := HE.out _ hb13; have HFIN := (show Hid _ from hfin); clear hfin; obtain ⟨x0, x1, x2, x3, x4, d0, d1, d2, d3, d4⟩ := six_of hat4))
  have hcl := set5_at hat4 (.int .i64 0) (.string ⟨#[]⟩) (.int .i64 0) (.int .i64 0) (.slice none 0 0)
  have f0 := cell_of_at hcl 0
  have f1 := cell_of_at hcl 1
  have f2 := cell_of_at hcl 2
  have f3 := cell_of_at hcl 3
  have f4 := cell_of_at hcl 4
  simp only [List.getElem?_toArray, List.getElem?_cons_zero, List.getElem?_cons_succ] at f0 f1 f2 f3 f4
  have HWE : Hid (((((w4.setCell ⟨w.heap.size, 0, none⟩ (.int .i64 0)).setCell ⟨w.heap.size, 1, none⟩ (.string ⟨#[]⟩)).setCell ⟨w.heap.size, 2, none⟩ (.int .i64 0)).setCell ⟨w.heap.size, 3, none⟩ (.int .i64 0)).setCell ⟨w.heap.size, 4, none⟩ (.slice none 0 0) = set5 w4 w.heap.size (.int .i64 0) (.string ⟨#[]⟩) (.int .i64 0) (.int .i64 0) (.slice none 0 0)) := rfl
  rw [HWE.out]
  refine bodyPost_ret (v := .tuple #[.agg #[.int .i64 0, .string ⟨#[]⟩, .int .i64 0, .int .i64 0, .slice none 0 0], .int .i64 4, .int .i64 p]) ?_ rfl (by first | exact HFIN.out | exact ⟨rfl, HFIN.out.2⟩)
  simp [results, Tryz.results17, go_sem, f0, f1, f2, f3, f4]
end Kc
end Go.Proofs.YtodeeegbajgafaaGreatDoor

namespace Go.Proofs.YtodeeegbajgafaaGreatDoor
namespace Kc
open Go.RowKit
/-- Nothing is answered, and this holds. -/
def EndP (P : World → Prop) : Ending → World → Prop := fun e w' => e = .returned (.tuple #[]) ∧ P w'
set_option maxHeartbeats 1000000 in
theorem takes_less (l m n : Int) (w : World) (h0 : ¬ l ≤ n) : Calls Tryz.prog 205 #[.agg #[.int .i64 l, .int .i64 m], .int .i64 n] w fun e w' => e = .returned (.bool false) ∧ Below w.heap.size w w' := by
  have hB : Below w.heap.size w (w.alloc (.cells #[.int .i64 l, .int .i64 m] 114)) := (Below.refl _ w).alloc (Nat.le_refl _) _
  go_enter Tryz.func205, Tryz.ntmps205
  go_wp2
  go_ret
  exact ⟨rfl, hB⟩
set_option maxHeartbeats 1000000 in
theorem takes_more (l m n : Int) (w : World) (h0 : l ≤ n) (h1 : ¬ n ≤ m) : Calls Tryz.prog 205 #[.agg #[.int .i64 l, .int .i64 m], .int .i64 n] w fun e w' => e = .returned (.bool false) ∧ Below w.heap.size w w' := by
  have hB : Below w.heap.size w (w.alloc (.cells #[.int .i64 l, .int .i64 m] 114)) := (Below.refl _ w).alloc (Nat.le_refl _) _
  go_enter Tryz.func205, Tryz.ntmps205
  go_wp2
  go_ret
  exact ⟨rfl, hB⟩
theorem takes_not (l m n : Int) (w : World) (h : ¬ (l ≤ n ∧ n ≤ m)) : Calls Tryz.prog 205 #[.agg #[.int .i64 l, .int .i64 m], .int .i64 n] w fun e w' => e = .returned (.bool false) ∧ Below w.heap.size w w' := by
  by_cases h0 : l ≤ n
  · exact takes_more l m n w h0 fun e => h ⟨h0, e⟩
  · exact takes_less l m n w h0
set_option maxHeartbeats 4000000 in
set_option maxRecDepth 20000 in
/-- Other arguments in number than must be. -/
theorem callWith_not (P : World → Prop) (rb : Nat) (w : World) (t : TypeId) (b : Nat) (l m : Int) (n : Nat) (a : Option Addr) (cap : Nat)
    (hmm : Sem.run Tryz.prog (method 400 t (.pointer (some ⟨b, 0, none⟩)) "Takes") w = .ok (205, .agg #[.int .i64 l, .int .i64 m]) w) (hn : ¬ (l ≤ n ∧ (n : Int) ≤ m))
    (HC : ∀ w2, Below w.heap.size w w2 → Calls Tryz.prog 159 #[ptrV rb, .int .i64 3] w2 (EndP P)) :
    Calls Tryz.prog 171 #[ptrV rb, .iface t (ptrV b), .slice a n cap] w (EndP P) := by
  have HT := takes_not l m n w hn
  have HR : Hid (∀ w2, Below w.heap.size w w2 → Calls Tryz.prog 159 #[.pointer (some ⟨rb, 0, none⟩), .int .i64 3] w2 (EndP P)) := HC
  clear HC hn
  unfold ptrV at *
  go_enter Tryz.func171, Tryz.ntmps171
  go_wp2_with (first | (go_at_call 205; refine HT.mono ?_; rintro e2 w2 ⟨rfl, hb2⟩) | (go_at_call 159; refine (HR.out _ hb2).mono ?_; rintro e3 w3 ⟨rfl, hr3⟩))
  go_end0
  exact ⟨rfl, hr3⟩
set_option maxHeartbeats 4000000 in
set_option maxRecDepth 20000 in
theorem callWith_basicK (P : World → Prop) (rb : Nat) (w : World) (b : Nat) (l m : Int) (n : Nat) (nm fv : Value) (a : Option Addr) (cap : Nat) (T : TypeId)
    (hh : w.heap[b]? = some (.cells #[.int .i64 l, .int .i64 m, nm, fv] T (0, 0))) (hl : l ≤ n) (hm : n ≤ m)
    (HC : ∀ w2, Below w.heap.size w w2 → Calls Tryz.prog 177 #[ptrV rb, ptrV b, .slice a n cap] w2 (EndP P)) :
    Calls Tryz.prog 171 #[ptrV rb, .iface 111 (ptrV b), .slice a n cap] w (EndP P) := by
  have q0 := cell_of_at hh 0
  have q1 := cell_of_at hh 1
  simp only [List.getElem?_toArray, List.getElem?_cons_zero, List.getElem?_cons_succ] at q0 q1
  have hmm := meth111 b _ _ w q0 q1
  have HT := takes_any l m n w hl hm
  have m111 := fun w => tp_hit111 (.pointer (some ⟨b, 0, none⟩)) w
  have HR : Hid (∀ w2, Below w.heap.size w w2 → Calls Tryz.prog 177 #[.pointer (some ⟨rb, 0, none⟩), .pointer (some ⟨b, 0, none⟩), .slice a n cap] w2 (EndP P)) := HC
  clear hh HC
  unfold ptrV at *
  go_enter Tryz.func171, Tryz.ntmps171
  go_wp2_with (first | (go_at_call 205; refine HT.mono ?_; rintro e2 w2 ⟨rfl, hb2⟩) | (go_at_call 177; refine (HR.out _ hb2).mono ?_; rintro e3 w3 ⟨rfl, hr3⟩))
  go_end0
  exact ⟨rfl, hr3⟩
/-- What becomes of the run. -/
def St.res (s : St) : Res → St
  | .val v => s.give v
  | .wrong y => s.fail y
  | .shows _ => s
set_option maxHeartbeats 4000000 in
theorem callBasicK (N : Nat → Prop) (g : Gh) (rb fuel : Nat) (s : St) (w : World) (h : RunAt N g rb fuel s w) (b : Nat) (l m nm fv x : Value) (T : TypeId) (r : Res)
    (hb : w.heap[b]? = some (.cells #[l, m, nm, fv] T (0, 0))) (hx : ∃ a n cap, x = .slice a n cap) (hs : ∀ v, r ≠ .shows v) (hw : ∀ y, r = .wrong y → y ≠ 0)
    (HF : FunK g.tb (g.ok N) w x fv r) :
    Calls Tryz.prog 177 #[ptrV rb, ptrV b, x] w (RunC N g rb fuel (s.res r) w) := by
  obtain ⟨xa, xn, xc, rfl⟩ := hx
  have q3 := cell_of_at hb 3
  simp only [List.getElem?_toArray, List.getElem?_cons_zero, List.getElem?_cons_succ] at q3
  have HG : Hid (∀ w2 y v, RepM g.tb (g.ok N) w2 y (.val v) → Below w.heap.size w w2 → Calls Tryz.prog 139 #[.pointer (some ⟨rb, 0, none⟩), y] w2 (RunC N g rb fuel (s.give v) w)) := fun w2 y v hv hB => (give_any N g rb fuel s w2 (h.below hB) y v hv).mono fun _ _ hr => RunC.after (Kept.of_below hB _) hr.c
  have HW : Hid (∀ w2 (y : Nat), Below w.heap.size w w2 → Calls Tryz.prog 159 #[.pointer (some ⟨rb, 0, none⟩), .int .i64 y] w2 (RunC N g rb fuel (s.fail y) w)) := fun w2 y hB => (fail_any N g rb fuel s w2 (h.below hB) y).mono fun _ _ hr => RunC.after (Kept.of_below hB _) hr.c
  clear h hb
  unfold ptrV at *
  cases r with
  | shows v => exact absurd rfl (hs v)
  | val v =>
    rcases HF with ⟨k, hent, rfl, HF⟩ | ⟨k, c, hent, rfl, HF⟩
    · unfold fnV at q3
      have HFH : Hid (Calls Tryz.prog k #[.slice xa xn xc] w (DoR g.tb (g.ok N) w v)) := HF
      clear HF
      unfold Ent at hent
      go_enter Tryz.func177, Tryz.ntmps177
      go_wp2_with fail
      refine HFH.out.mono ?_
      rintro e2 w2 ⟨y, rfl, hy2, hb2⟩
      have HY := (show Hid _ from hy2)
      obtain ⟨ty, zy, rfl⟩ := hy2.iface
      clear hy2
      go_wp2_with (first | (go_at_call 139; refine (HG.out _ _ _ HY.out hb2).mono ?_; rintro e3 w3 ⟨rfl, hr3⟩))
      go_end0
      exact ⟨rfl, hr3⟩
    · simp only [capFn, List.map_cons, List.map_nil, ptrV] at q3
      have HFH : Hid (Calls Tryz.prog k #[.slice xa xn xc, .pointer (some ⟨c, 0, none⟩)] w (DoR g.tb (g.ok N) w v)) := HF
      clear HF
      unfold Ent at hent
      go_enter Tryz.func177, Tryz.ntmps177
      go_wp2_with fail
      refine HFH.out.mono ?_
      rintro e2 w2 ⟨y, rfl, hy2, hb2⟩
      have HY := (show Hid _ from hy2)
      obtain ⟨ty, zy, rfl⟩ := hy2.iface
      clear hy2
      go_wp2_with (first | (go_at_call 139; refine (HG.out _ _ _ HY.out hb2).mono ?_; rintro e3 w3 ⟨rfl, hr3⟩))
      go_end0
      exact ⟨rfl, hr3⟩
  | wrong y =>
    have hy := hw y rfl
    have hyi : ¬ (y : Int) = 0 := by omega
    rcases HF with ⟨k, hent, rfl, HF⟩ | ⟨k, c, hent, rfl, HF⟩
    · unfold fnV at q3
      have HFH : Hid (Calls Tryz.prog k #[.slice xa xn xc] w fun e w' => e = .returned (.tuple #[.nilIface, .int .i64 y]) ∧ Below w.heap.size w w') := HF
      clear HF
      unfold Ent at hent
      go_enter Tryz.func177, Tryz.ntmps177
      go_wp2_with fail
      refine HFH.out.mono ?_
      rintro e2 w2 ⟨rfl, hb2⟩
      go_wp2_with (first | (go_at_call 159; refine (HW.out _ _ hb2).mono ?_; rintro e3 w3 ⟨rfl, hr3⟩))
      go_end0
      exact ⟨rfl, hr3⟩
    · simp only [capFn, List.map_cons, List.map_nil, ptrV] at q3
      have HFH : Hid (Calls Tryz.prog k #[.slice xa xn xc, .pointer (some ⟨c, 0, none⟩)] w fun e w' => e = .returned (.tuple #[.nilIface, .int .i64 y]) ∧ Below w.heap.size w w') := HF
      clear HF
      unfold Ent at hent
      go_enter Tryz.func177, Tryz.ntmps177
      go_wp2_with fail
      refine HFH.out.mono ?_
      rintro e2 w2 ⟨rfl, hb2⟩
      go_wp2_with (first | (go_at_call 159; refine (HW.out _ _ hb2).mono ?_; rintro e3 w3 ⟨rfl, hr3⟩))
      go_end0
      exact ⟨rfl, hr3⟩
end Kc
end Go.Proofs.YtodeeegbajgafaaGreatDoor

namespace Go.Proofs.YtodeeegbajgafaaGreatDoor
namespace Kc
open Go.RowKit
set_option maxHeartbeats 4000000 in
set_option maxRecDepth 20000 in
theorem callWith_contK (N : Nat → Prop) (g : Gh) (rb fuel : Nat) (s : St) (w : World) (h : RunAt N g rb fuel s w) (x : Value) (v : V) (hx : SlotAt g.tb (g.ok N) w x [v]) (b : Nat) (t : Value) (T : TypeId) (fs : List Fr) (hb : g.ok N b) (hh : w.heap[b]? = some (.cells #[.int .i64 1, .int .i64 1, t] T (0, 0))) (ht : RepM g.tb (g.ok N) w t (.todo fs)) :
    Calls Tryz.prog 171 #[ptrV rb, .iface 258 (ptrV b), x] w (RunC N g rb fuel (s.resume fuel fs v) w) := by
  obtain ⟨gx, o, cap, rfl, hn, hcap, hat⟩ := hx.atK
  obtain ⟨y0, c0, h0⟩ := hat 0 (by simp)
  simp only [List.length_nil, Nat.add_zero, Nat.zero_add, List.getElem_cons_zero] at *
  obtain ⟨q0, q1, q2, _, _, _⟩ := cells3 hh
  have hm := meth258 b _ _ w q0 q1
  have HT := takes_any 1 1 1 w (by omega) (by omega)
  have m111 := fun w => tp_miss111 258 (.pointer (some ⟨b, 0, none⟩)) w (by decide)
  have m226 := fun w => tp_miss226 258 (.pointer (some ⟨b, 0, none⟩)) w (by decide)
  have m258 := fun w => tp_hit258 (.pointer (some ⟨b, 0, none⟩)) w
  have HR : Hid (∀ w2, Below w.heap.size w w2 → w2.cell? ⟨gx, o, none⟩ = some y0 ∧ Calls Tryz.prog 178 #[.pointer (some ⟨rb, 0, none⟩), .pointer (some ⟨b, 0, none⟩), y0] w2 (RunC N g rb fuel (s.resume fuel fs v) w)) := fun w2 hB => ⟨(Kept.of_below hB (fun _ => False)).cell id c0, (resume_any N g rb fuel s w2 (h.below hB) y0 v (h0.mono (below_rep hB)) b t T fs hb (Below.at hB hh) (ht.mono (below_rep hB))).mono fun _ _ hr => RunC.after (Kept.of_below hB _) hr.c⟩
  obtain ⟨ty, zy, rfl⟩ := h0.iface
  clear hx hat h hh ht h0
  unfold ptrV at *
  go_enter Tryz.func171, Tryz.ntmps171
  go_wp2_with (first | (go_at_call 205; refine HT.mono ?_; rintro e2 w2 ⟨rfl, hb2⟩; obtain ⟨z0, HC⟩ := HR.out _ hb2) | (go_at_call 178; refine HC.mono ?_; rintro e3 w3 ⟨rfl, hr3⟩))
  go_end0
  exact ⟨rfl, hr3⟩
/-- A body in a new scope: what else is kept. -/
theorem body_scopeK (N : Nat → Prop) (g : Gh) (rb fuel : Nat) (s s' : St) (w0 w : World) (ga : Nat) (hk0 : Kept (RM g rb) w0 w) (hrb : N rb) (h : RunAt (NX N ga) g rb fuel s w) (sl a x : Value) (fs : List Rd.F) (e : Env) (vs : List V) (hs : RepFs (g.ok (NX N ga)) w sl fs) (ha : RepM g.tb (g.ok (NX N ga)) w a (.env e)) (hw0 : ∀ k, slotBlk x = some k → w0.heap.size ≤ k) (hv : HandAt N g ga w x vs) (hx : (s.scope vs).body fs (s.sc.length :: e) = some s') :
    Calls Tryz.prog 143 #[ptrV rb, sl, ptrV w.heap.size] (w.alloc (.cells #[x, a] 256)) (fun e w' => e = .returned (.tuple #[]) ∧ (∃ g', Gh.Next w0 g g' ∧ RunAt N g' rb fuel s' w' ∧ Kept (RM g rb) w0 w') ∧ Kept (RM (g.withS x) rb) w w') := by
  have hB : Below w.heap.size w (w.alloc (.cells #[x, a] 256)) := (Below.refl _ w).alloc (Nat.le_refl _) _
  have h1 := (h.scope hrb hv).below hB
  have hok : ∀ k, g.ok (NX N ga) k → (g.withS x).ok N k := fun k ho => ⟨fun e => ho.1 (Or.inl e), fun e => by
    rcases Gh.withS_mut.1 e with e | e
    · exact ho.2 e
    · exact ho.1 (Or.inr (hv.2 k e).1)⟩
  have hst : ∀ k, k < w.heap.size → g.ok (NX N ga) k → (g.withS x).ok N k ∧ (w.alloc (.cells #[x, a] 256)).heap[k]? = w.heap[k]? := fun k hk ho => ⟨hok k ho, hB.block k hk⟩
  have hnx : Gh.Next w0 g (g.withS x) := ⟨rfl, rfl, fun i s h => Gh.withS_sp i s h, fun k hk hl => by
    rcases Gh.withS_mut.1 hk with e | e
    · exact e
    · have := hw0 k e; omega⟩
  have hid : (g.withS x).tb.sp[s.sc.length]? = some x := by
    show (g.sp ++ [x])[s.sc.length]? = some x
    rw [← h.m.scs.1]
    simp
  refine (body_any N (g.withS x) rb fuel (s.scope vs) s' _ h1 _ _ fs (s.sc.length :: e) (hs.mono hst) (.env1 w.heap.size _ _ _ 256 _ (Gh.ok_new (h.scope hrb hv).m _ (Nat.le_refl _)) (at_new w _) hid (ha.monoT rfl Gh.withS_sp hst)) hx).mono ?_
  rintro r w2 ⟨rfl, hr, hk⟩
  exact ⟨rfl, ⟨_, hnx, hr, (hk0.trans (Kept.of_below hB _)).chain hk hnx.rm⟩, (Kept.of_below hB _).trans hk⟩
set_option maxHeartbeats 4000000 in
set_option maxRecDepth 20000 in
theorem callWith_cloK (N : Nat → Prop) (g : Gh) (rb fuel : Nat) (s s' : St) (w0 w : World) (ga : Nat) (hk0 : Kept (RM g rb) w0 w) (hrb : N rb) (h : RunAt (NX N ga) g rb fuel s w) (x : Value) (vs : List V) (hw0 : ∀ k, slotBlk x = some k → w0.heap.size ≤ k) (hx : HandAt N g ga w x vs) (b : Nat) (sl at' : Value) (T : TypeId) (body : List Rd.F) (e : Env) (hb : g.ok (NX N ga) b)
    (hh : w.heap[b]? = some (.cells #[.int .i64 vs.length, .int .i64 vs.length, sl, at'] T (0, 0))) (h1 : RepFs (g.ok (NX N ga)) w sl body) (h2 : RepM g.tb (g.ok (NX N ga)) w at' (.env e)) (hs : (s.scope vs).body body (s.sc.length :: e) = some s') :
    Calls Tryz.prog 171 #[ptrV rb, .iface 226 (ptrV b), x] w (RunC N g rb fuel s' w0) := by
  have q0 := cell_of_at hh 0
  have q1 := cell_of_at hh 1
  have q2 := cell_of_at hh 2
  have q3 := cell_of_at hh 3
  simp only [List.getElem?_toArray, List.getElem?_cons_zero, List.getElem?_cons_succ] at q0 q1 q2 q3
  have hmm := meth226 b _ _ w q0 q1
  have HT := takes_any vs.length vs.length vs.length w (Int.le_refl _) (Int.le_refl _)
  have m111 := fun w => tp_miss111 226 (.pointer (some ⟨b, 0, none⟩)) w (by decide)
  have m226 := fun w => tp_hit226 (.pointer (some ⟨b, 0, none⟩)) w
  have hbn : ¬ RM (g.withS x) rb b := fun e => by
    rcases e with e | e
    · exact hb.1 (Or.inl (e ▸ hrb))
    · rcases Gh.withS_mut.1 e with e | e
      · exact hb.2 e
      · exact hb.1 (Or.inr (hx.2 b e).1)
  have HR : Hid (∀ w2, Below w.heap.size w w2 → w2.cell? ⟨b, 2, none⟩ = some sl ∧ w2.cell? ⟨b, 3, none⟩ = some at' ∧ Calls Tryz.prog 143 #[.pointer (some ⟨rb, 0, none⟩), sl, .pointer (some ⟨w2.drew.heap.size, 0, none⟩)] (w2.drew.alloc (.cells #[x, at'] 256)) (fun e w' => e = .returned (.tuple #[]) ∧ Hid (∃ g', Gh.Next w0 g g' ∧ RunAt N g' rb fuel s' w' ∧ Kept (RM g rb) w0 w') ∧ w'.cell? ⟨b, 2, none⟩ = some sl ∧ w'.cell? ⟨b, 3, none⟩ = some at')) := fun w2 hB => by
    have hD : Below w.heap.size w w2.drew := hB.drew
    have d2 := (Kept.of_below hD (fun _ => False)).cell id q2
    have d3 := (Kept.of_below hD (fun _ => False)).cell id q3
    refine ⟨(Kept.of_below hB (fun _ => False)).cell id q2, (Kept.of_below hB (fun _ => False)).cell id q3, ?_⟩
    refine (body_scopeK N g rb fuel s s' w0 w2.drew ga (hk0.trans (Kept.of_below hD _)) hrb (h.below hD) sl at' x body e vs (h1.mono (below_rep hD)) (h2.mono (below_rep hD)) hw0 ⟨hx.1.mono rfl (fun _ _ h => h) (fun k hk => hD.block k (hx.1.lt hk)) (below_rep hD), hx.2⟩ hs).mono ?_
    rintro r w3 ⟨rfl, h5, h6⟩
    exact ⟨rfl, h5, h6.cell hbn d2, h6.cell hbn d3⟩
  obtain ⟨p, rfl⟩ := RepM.ptr h2
  obtain ⟨xa, xc, rfl, _, _⟩ := hx.1.shape
  obtain ⟨fa, fc, rfl, _, _⟩ := RepFs.shape h1
  clear h hh h1 h2 hx hs hw0 hbn hk0
  unfold ptrV at *
  go_enter Tryz.func171, Tryz.ntmps171
  go_wp2_with (first | (go_at_call 205; refine HT.mono ?_; rintro e2 w2 ⟨rfl, hb2⟩; obtain ⟨z2, z3, HC⟩ := HR.out _ hb2))
  go_region_held3 (fun X => X.cell? ⟨b, 2, none⟩ = some (.slice (some fa) body.length fc) ∧ X.cell? ⟨b, 3, none⟩ = some (.pointer p)) (go_keep) (first | (go_at_call 143; refine HC.mono ?_; rintro e3 w3 ⟨rfl, hr3, y2, y3⟩))
  all_goals
    go_wp2
    go_end0
    exact ⟨rfl, hr3.out⟩
set_option maxHeartbeats 4000000 in
set_option maxRecDepth 20000 in
theorem call_toK (P : World → Prop) (rb : Nat) (w : World) (t : TypeId) (ht : t = 111 ∨ t = 226 ∨ t = 258) (p : Value) (gx o n cap : Nat) (hc : w.cell? ⟨gx, o, none⟩ = some (.iface t p)) (hn : n + 1 ≤ cap) (hcap : cap ≤ maxLen)
    (HW : ∀ o', (¬ cap = 1 → o' = o + 1) → Calls Tryz.prog 171 #[ptrV rb, .iface t p, .slice (some ⟨gx, o', none⟩) n (cap - 1)] w (EndP P)) :
    Calls Tryz.prog 151 #[ptrV rb, .slice (some ⟨gx, o, none⟩) (n + 1) cap] w (EndP P) := by
  have HH := (show Hid _ from HW)
  have hm : cap ≤ 9223372036854775807 := by unfold maxLen at hcap; omega
  have hta : ∀ W, (Instr.typeAssert (.iface t p) 60 149 true).run Tryz.prog W = .ok (.tuple #[.iface t p, .bool true]) W := by
    rcases ht with rfl | rfl | rfl
    · exact fun W => tp_111 p W
    · exact fun W => tp_226 p W
    · exact fun W => tp_258 p W
  have i1 : (1 : Int) ≤ (n : Int) + 1 := by omega
  have i2 : (n : Int) + 1 ≤ (cap : Int) := by omega
  have i3 : (0 : Int) < (n : Int) + 1 := by omega
  clear HW ht
  unfold ptrV at *
  by_cases h1 : cap = 1
  · obtain rfl : n = 0 := by omega
    subst h1
    have H2 := HH.out o (fun e => absurd rfl e)
    have H3 := HH.out (o + 1) (fun e => absurd rfl e)
    go_enter Tryz.func151, Tryz.ntmps151
    go_wp2_with (first | (go_at_call 171; first | (refine H2.mono ?_; rintro e3 w3 ⟨rfl, hr3⟩) | (refine H3.mono ?_; rintro e3 w3 ⟨rfl, hr3⟩)))
    go_end0
    exact ⟨rfl, hr3⟩
  · have H2 := HH.out (o + 1) (fun _ => rfl)
    go_enter Tryz.func151, Tryz.ntmps151
    go_wp2_with (first | (go_at_call 171; refine H2.mono ?_; rintro e3 w3 ⟨rfl, hr3⟩))
    go_end0
    exact ⟨rfl, hr3⟩
set_option maxHeartbeats 4000000 in
set_option maxRecDepth 20000 in
theorem call_noK (P : World → Prop) (rb : Nat) (w : World) (t : TypeId) (p u : Value) (gx o n cap : Nat) (hc : w.cell? ⟨gx, o, none⟩ = some (.iface t p)) (hta : ∀ W, (Instr.typeAssert (.iface t p) 60 149 true).run Tryz.prog W = .ok (.tuple #[u, .bool false]) W) (hn : n + 1 ≤ cap) (hcap : cap ≤ maxLen)
    (HW : Calls Tryz.prog 159 #[ptrV rb, .int .i64 4] w (EndP P)) :
    Calls Tryz.prog 151 #[ptrV rb, .slice (some ⟨gx, o, none⟩) (n + 1) cap] w (EndP P) := by
  have HH : Hid (Calls Tryz.prog 159 #[.pointer (some ⟨rb, 0, none⟩), .int .i64 4] w (EndP P)) := HW
  have hm : cap ≤ 9223372036854775807 := by unfold maxLen at hcap; omega
  have i1 : (1 : Int) ≤ (n : Int) + 1 := by omega
  have i2 : (n : Int) + 1 ≤ (cap : Int) := by omega
  have i3 : (0 : Int) < (n : Int) + 1 := by omega
  clear HW
  unfold ptrV at *
  go_enter Tryz.func151, Tryz.ntmps151
  go_wp2_with (first | (go_at_call 159; refine HH.out.mono ?_; rintro e3 w3 ⟨rfl, hr3⟩))
  go_end0
  exact ⟨rfl, hr3⟩
/-- All but the first of the values. -/
theorem SlotAt.tail {t : Gt} {ok : Nat → Prop} {w : World} {x : Value} {v : V} {vs : List V} (h : SlotAt t ok w x (v :: vs)) :
    ∃ g o cap y, x = .slice (some ⟨g, o, none⟩) (vs.length + 1) cap ∧ vs.length + 1 ≤ cap ∧ cap ≤ maxLen ∧ w.cell? ⟨g, o, none⟩ = some y ∧ RepM t ok w y (.val v) ∧ ∀ o', (¬ cap = 1 → o' = o + 1) → SlotAt t ok w (.slice (some ⟨g, o', none⟩) vs.length (cap - 1)) vs := by
  rcases h with ⟨_, h⟩ | ⟨g, o, cap, c, T, vf, rfl, hh, hn, hcap, hc, hs⟩
  · cases h
  · simp only [List.length_cons] at hn
    refine ⟨g, o, cap, vf 0, rfl, hn, hcap, by rw [cell_of_at hh]; exact hc 0 (by simp), hs 0 (by simp), fun o' ho => ?_⟩
    refine .inr ⟨g, o', cap - 1, c, T, fun i => vf (i + 1), rfl, hh, by omega, by omega, ?_, ?_⟩
    · intro i hi
      rw [ho (by omega), Nat.add_assoc, Nat.add_comm 1 i]
      exact hc (i + 1) (by simpa using hi)
    · intro i hi
      exact hs (i + 1) (by simpa using hi)
theorem RepM.clo_inv {mb : Gt} {ok : Nat → Prop} {w : World} {x : Value} {k : Nat} {body : List Rd.F} {e : Env} (h : RepM mb ok w x (.val (.clo k body e))) :
    ∃ b s at' T, x = .iface 226 (ptrV b) ∧ ok b ∧ w.heap[b]? = some (.cells #[.int .i64 k, .int .i64 k, s, at'] T (0, 0)) ∧ RepFs ok w s body ∧ RepM mb ok w at' (.env e) := by
  cases h with
  | clo b k s at' T _ _ hb hh h1 h2 => exact ⟨b, s, at', T, rfl, hb, hh, h1, h2⟩
theorem RepM.cont_inv {mb : Gt} {ok : Nat → Prop} {w : World} {x : Value} {fs : List Fr} (h : RepM mb ok w x (.val (.cont fs))) :
    ∃ b t T, x = .iface 258 (ptrV b) ∧ ok b ∧ w.heap[b]? = some (.cells #[.int .i64 1, .int .i64 1, t] T (0, 0)) ∧ RepM mb ok w t (.todo fs) := by
  cases h with
  | cont b t T _ hb hh h1 => exact ⟨b, t, T, rfl, hb, hh, h1⟩
theorem RepM.basic_inv {mb : Gt} {ok : Nat → Prop} {w : World} {x : Value} {i : Nat} (h : RepM mb ok w x (.val (.basic i))) :
    ∃ b nm T fv, x = .iface 111 (ptrV b) ∧ ok b ∧ w.heap[b]? = some (.cells #[.int .i64 (basicTab mb.m i).1, .int .i64 (basicTab mb.m i).2.1, nm, fv] T (0, 0)) ∧ FvAt mb ok w i fv ∧ (20 ≤ i → ok tabBlock ∧ TabOk w) := by
  cases h with
  | basic0 _ b nm T hb hn hh => exact ⟨b, nm, T, _, rfl, hb, hh, Or.inl ⟨hn, rfl⟩, fun e => by obtain ⟨j, rfl⟩ : ∃ j, i = j + 20 := ⟨i - 20, by omega⟩; cases hn⟩
  | basic1 _ b c nm y T T' hb hc hx hh hh' ht => exact ⟨b, nm, T, _, rfl, hb, hh, Or.inr ⟨c, y, T', hx, rfl, hc, hh'⟩, ht⟩
theorem takes_iff (mb i n : Nat) (hn : n ≤ 100000) : takesB i n = true ↔ (basicTab mb i).1 ≤ (n : Int) ∧ (n : Int) ≤ (basicTab mb i).2.1 := by
  match i with
  | 0 => simp [takesB, arity, basicTab]; omega
  | 1 => simp [takesB, arity, basicTab]; omega
  | 2 => simp [takesB, arity, basicTab]; omega
  | 3 => simp [takesB, arity, basicTab]; omega
  | 4 => simp [takesB, arity, basicTab]; omega
  | 5 => simp [takesB, arity, basicTab]; omega
  | 6 => simp [takesB, arity, basicTab]; omega
  | 7 => simp [takesB, arity, basicTab]; omega
  | 8 => simp [takesB, arity, basicTab]; omega
  | 9 => simp [takesB, arity, basicTab]; omega
  | 10 => simp [takesB, arity, basicTab]; omega
  | 11 => simp [takesB, arity, basicTab]; omega
  | 12 => simp [takesB, arity, basicTab]; omega
  | 13 => simp [takesB, arity, basicTab]; omega
  | 14 => simp [takesB, arity, basicTab]; omega
  | 15 => simp [takesB, arity, basicTab]; omega
  | 16 => simp [takesB, arity, basicTab]; omega
  | 17 => simp [takesB, arity, basicTab]; omega
  | 18 => simp [takesB, arity, basicTab]; omega
  | 19 => simp [takesB, arity, basicTab]; omega
  | k + 20 => simp [takesB, arity, basicTab]; omega
end Kc
end Go.Proofs.YtodeeegbajgafaaGreatDoor

namespace Go.Proofs.YtodeeegbajgafaaGreatDoor
namespace Kc
open Go.RowKit
theorem RunC.trans {N : Nat → Prop} {g g1 : Gh} {rb fuel : Nat} {s' : St} {w w1 : World} (hn : Gh.Next w g g1) (hk : Kept (RM g rb) w w1) {e : Ending} {w' : World} (h : RunC N g1 rb fuel s' w1 e w') : RunC N g rb fuel s' w e w' := by
  obtain ⟨he, g2, h1, h2, h3⟩ := h
  refine ⟨he, g2, ⟨h1.mb.trans hn.mb, h1.db.trans hn.db, fun i s e => h1.sp i s (hn.sp i s e), fun k e hk' => hn.mt k (h1.mt k e (Nat.lt_of_lt_of_le hk' hk.size)) hk'⟩, h2, ⟨h3.os.trans hk.os, h3.tape.trans hk.tape, h3.output.trans hk.output, Nat.le_trans hk.size h3.size, fun k hk' hm => (h3.block k (Nat.lt_of_lt_of_le hk' hk.size) (fun e => hm (hn.rm k hk' e))).trans (hk.block k hk' hm)⟩⟩
def DispRK (N : Nat → Prop) (g : Gh) (rb fuel : Nat) (s : St) (t : List UInt8) (w : World) : Ending → World → Prop := fun e w' => e = .returned (.tuple #[.iface 146 (.agg #[]), .int .i64 0]) ∧ Hid (∃ g', Gh.Next w g g' ∧ RunAt N g' rb fuel { s with shown := s.shown ++ [t] } w' ∧ Kept (RM g rb) w w')
set_option maxHeartbeats 4000000 in
set_option maxRecDepth 20000 in
theorem disp_yes (N : Nat → Prop) (g : Gh) (rb fuel : Nat) (s : St) (w : World) (h : RunAt N g rb fuel s w) (v : V) (hf : fine v) (txt : List UInt8) (hs : showK v = some txt) (x : Value) (hx : SlotAt g.tb (g.ok N) w x [v]) (c : Nat) (T' : TypeId) (hc : w.heap[c]? = some (.cells #[.func (.func 39) #[ptrV g.mb] #[]] T' (0, 0))) (htab : TabOk w) (hlen : s.shown.length < 1000000) :
    Calls Tryz.prog 129 #[x, ptrV c] w (DispRK N g rb fuel s txt w) := by
  obtain ⟨gx, o, cap, rfl, hn, hcap, hat⟩ := hx.atK
  obtain ⟨y0, c0, hy0⟩ := hat 0 (by simp)
  simp only [List.length_nil, Nat.add_zero, Nat.zero_add, List.getElem_cons_zero] at *
  obtain ⟨ty, zy, rfl⟩ := hy0.iface
  have HS : Hid (Calls Tryz.prog 65 #[.iface ty zy] w fun e w' => e = .returned (.tuple #[.string ⟨txt.toArray⟩, .bool true]) ∧ Below w.heap.size w w') := (show_K g.tb (g.ok N) v hf w _ hy0 (htab.tab htab.lt)).mono fun e w' h => by rw [hs] at h; exact h
  have HM : Hid (∀ w2, Below w.heap.size w w2 → Calls Tryz.prog 39 #[.pointer (some ⟨g.mb, 0, none⟩), .string ⟨txt.toArray⟩] w2 fun e w' => e = .returned (.tuple #[]) ∧ Hid (∃ g', Gh.Next w g g' ∧ RunAt N g' rb fuel { s with shown := s.shown ++ [txt] } w' ∧ Kept (RM g rb) w w')) := fun w2 hB => (show39 N g rb fuel s w2 (h.below hB) txt hlen).mono fun e w' ⟨he, g', k1, k2, k3, k4⟩ => ⟨he, g', ⟨k1.mb, k1.db, k1.sp, fun k e hk => k1.mt k e (Nat.lt_of_lt_of_le hk hB.size)⟩, k3, (Kept.of_below hB _).trans k4⟩
  have q0 : w.cell? ⟨c, 0, none⟩ = some (.func (.func 39) #[.pointer (some ⟨g.mb, 0, none⟩)] #[]) := cell_of_at hc 0
  have HQ : Hid (∀ w2, Below w.heap.size w w2 → w2.cell? ⟨c, 0, none⟩ = some (.func (.func 39) #[.pointer (some ⟨g.mb, 0, none⟩)] #[])) := fun w2 hB => (Kept.of_below hB (fun _ => False)).cell id q0
  unfold DispRK
  clear h hx hat hy0 hc htab q0 hs hf
  unfold ptrV
  go_enter Tryz.func129, Tryz.ntmps129
  go_wp2_with (first | (go_at_call 65; refine HS.out.mono ?_; rintro e2 w2 ⟨rfl, hb2⟩; have z0 := HQ.out _ hb2) | (go_at_call 39; refine (HM.out _ hb2).mono ?_; rintro e3 w3 ⟨rfl, hf3⟩))
  go_ret2
  exact ⟨rfl, hf3⟩
set_option maxHeartbeats 4000000 in
set_option maxRecDepth 20000 in
theorem disp_no (mb : Gt) (ok : Nat → Prop) (w : World) (v : V) (hf : fine v) (hs : showK v = none) (x : Value) (hx : SlotAt mb ok w x [v]) (c : Nat) (htab : TabOk w) :
    Calls Tryz.prog 129 #[x, ptrV c] w fun e w' => e = .returned (.tuple #[.nilIface, .int .i64 8]) ∧ Below w.heap.size w w' := by
  obtain ⟨gx, o, cap, rfl, hn, hcap, hat⟩ := hx.atK
  obtain ⟨y0, c0, hy0⟩ := hat 0 (by simp)
  simp only [List.length_nil, Nat.add_zero, Nat.zero_add, List.getElem_cons_zero] at *
  obtain ⟨ty, zy, rfl⟩ := hy0.iface
  have HS : Hid (Calls Tryz.prog 65 #[.iface ty zy] w fun e w' => e = .returned (.tuple #[.string ⟨#[]⟩, .bool false]) ∧ Below w.heap.size w w') := (show_K mb ok v hf w _ hy0 (htab.tab htab.lt)).mono fun e w' h => by rw [hs] at h; exact h
  clear hx hat hy0 htab hs hf
  unfold ptrV
  go_enter Tryz.func129, Tryz.ntmps129
  go_wp2_with (first | (go_at_call 65; refine HS.out.mono ?_; rintro e2 w2 ⟨rfl, hb2⟩))
  go_ret2
  exact ⟨rfl, hb2⟩
set_option maxHeartbeats 4000000 in
set_option maxRecDepth 20000 in
/-- display's call. -/
theorem callBasic_disp (N : Nat → Prop) (g : Gh) (rb fuel : Nat) (s : St) (w : World) (h : RunAt N g rb fuel s w) (b : Nat) (l m nm : Value) (x : Value) (T : TypeId) (v : V) (hf : fine v) (txt : List UInt8) (hs : showK v = some txt) (hx : SlotAt g.tb (g.ok N) w x [v]) (c : Nat) (T' : TypeId)
    (hb : w.heap[b]? = some (.cells #[l, m, nm, capFn 129 [c]] T (0, 0))) (hc : w.heap[c]? = some (.cells #[.func (.func 39) #[ptrV g.mb] #[]] T' (0, 0))) (htab : TabOk w) (hlen : s.shown.length < 1000000) :
    Calls Tryz.prog 177 #[ptrV rb, ptrV b, x] w (RunC N g rb fuel ({ s with shown := s.shown ++ [txt] }.give (.atom .empty)) w) := by
  have HD : Hid (Calls Tryz.prog 129 #[x, .pointer (some ⟨c, 0, none⟩)] w (DispRK N g rb fuel s txt w)) := disp_yes N g rb fuel s w h v hf txt hs x hx c T' hc htab hlen
  have HG : Hid (∀ w3, Hid (∃ g', Gh.Next w g g' ∧ RunAt N g' rb fuel { s with shown := s.shown ++ [txt] } w3 ∧ Kept (RM g rb) w w3) → Calls Tryz.prog 139 #[.pointer (some ⟨rb, 0, none⟩), .iface 146 (.agg #[])] w3 (RunC N g rb fuel ({ s with shown := s.shown ++ [txt] }.give (.atom .empty)) w)) := fun w3 he => by
    obtain ⟨g', hn', hr, hk⟩ := he.out
    exact (give_any N g' rb fuel _ w3 hr (aV .empty) (.atom .empty) (.atom .empty)).mono fun _ _ hr' => RunC.trans hn' hk hr'.c
  have q3 := cell_of_at hb 3
  simp only [List.getElem?_toArray, List.getElem?_cons_zero, List.getElem?_cons_succ, capFn, List.map_cons, List.map_nil, ptrV] at q3
  obtain ⟨xa, xc, rfl, _, _⟩ := hx.shape
  unfold DispRK at HD
  clear h hx hb hc htab hs hf
  unfold ptrV
  go_enter Tryz.func177, Tryz.ntmps177
  go_wp2_with (first | (go_at_call 129; refine HD.out.mono ?_; rintro e2 w4 ⟨rfl, hr4⟩) | (go_at_call 139; refine (HG.out _ hr4).mono ?_; rintro e3 w5 ⟨rfl, hr5⟩))
  go_end0
  exact ⟨rfl, hr5⟩
theorem RunC.lessN {N : Nat → Prop} {ga : Nat} {g : Gh} {rb fuel : Nat} {s' : St} {w0 w : World} (hk : Kept (RM g rb) w0 w) (hrb : N rb) {e : Ending} {w' : World} (h : RunC (NX N ga) g rb fuel s' w e w') : RunC N g rb fuel s' w0 e w' := by
  obtain ⟨he, g', h1, h2, h3⟩ := h
  exact RunC.after hk ⟨he, g', h1, h2.less (fun k e => Or.inl e) hrb, h3⟩
theorem callC : CallC := by
  intro N g rb fuel s s' w0 w ga x vs hw0 hk0 hrb h hx hfit hc
  obtain ⟨hsh, hfine, hlen⟩ := hfit
  match vs with
  | [] => cases hc
  | v :: args =>
    obtain ⟨gx, o, cap, y, rfl, hn, hcap, hcell, hy, ht⟩ := hx.1.tail
    have hga : gx = ga ∧ ¬ N gx := hx.2 gx rfl
    have hal : args.length ≤ 100000 := by simp only [List.length_cons] at hlen; omega
    have hfa : ∀ u, u ∈ args → fine u := fun u hu => hfine u (List.mem_cons_of_mem _ hu)
    have fail : ∀ (y : Nat) w2, Below w.heap.size w w2 → Calls Tryz.prog 159 #[ptrV rb, .int .i64 y] w2 (RunC N g rb fuel (s.fail y) w0) := fun y w2 hB => (fail_any (NX N ga) g rb fuel s w2 (h.below hB) y).mono fun _ _ hr => RunC.lessN (hk0.trans (Kept.of_below hB _)) hrb hr.c
    have no : s.call fuel (v :: args) = some (s.fail 4) → isProc v = false → Calls Tryz.prog 151 #[ptrV rb, .slice (some ⟨gx, o, none⟩) (args.length + 1) cap] w (RunC N g rb fuel s' w0) := by
      intro h1 h2
      rw [h1] at hc
      cases hc
      obtain ⟨k, z, u, rfl, hta⟩ := hy.ta149
      rw [h2] at hta
      exact call_noK _ rb w k z u gx o args.length cap hcell hta hn hcap (fail 4 w (Below.refl _ _))
    match v with
    | .atom a => exact no rfl rfl
    | .pair a b => exact no rfl rfl
    | .basic i =>
      obtain ⟨b, nm, T, fv, rfl, hb, hh, hf, htb⟩ := hy.basic_inv
      refine call_toK _ rb w 111 (Or.inl rfl) _ gx o args.length cap hcell hn hcap fun o' ho => ?_
      have hxt := ht o' ho
      rw [St.call] at hc
      by_cases htk : takesB i args.length = true
      · rw [if_pos htk] at hc
        obtain ⟨c1, c2⟩ := (takes_iff g.tb.m i args.length hal).1 htk
        refine callWith_basicK _ rb w b _ _ args.length nm fv _ _ T hh c1 c2 fun w2 hB => ?_
        have hst := below_rep (ok := g.ok (NX N ga)) hB
        have hxt2 : SlotAt g.tb (g.ok (NX N ga)) w2 (.slice (some ⟨gx, o', none⟩) args.length (cap - 1)) args := hxt.mono rfl (fun _ _ h => h) (fun k hk => hB.block k (hxt.lt hk)) hst
        have h2 := h.below hB
        have hf2 : FvAt g.tb (g.ok (NX N ga)) w2 i fv := by
          rcases hf with hf | ⟨c, y, T', e1, e2, e3, e4⟩
          · exact Or.inl hf
          · exact Or.inr ⟨c, y, T', e1, e2, e3, Below.at hB e4⟩
        have up : ∀ {e : Ending} {w' : World}, RunC (NX N ga) g rb fuel s' w2 e w' → RunC N g rb fuel s' w0 e w' := fun hr => RunC.lessN (hk0.trans (Kept.of_below hB _)) hrb hr
        by_cases hsv : ∃ u, basicDo i args = .shows u
        · obtain ⟨u, hu⟩ := hsv
          rw [hu] at hc
          obtain ⟨hi, rfl⟩ := shows_of htk hu
          obtain ⟨_, htab⟩ := htb hi
          have htab2 : TabOk w2 := htab.on (hB.block _ htab.lt)
          obtain ⟨j, rfl⟩ : ∃ j, i = j + 20 := ⟨i - 20, by omega⟩
          rcases hf2 with ⟨e1, _⟩ | ⟨c, y, T', e1, rfl, e3, e4⟩
          · cases e1
          · cases e1
            simp only at hc
            cases hst' : showK u with
            | some txt =>
              rw [hst'] at hc
              cases hc
              exact (callBasic_disp (NX N ga) g rb fuel s w2 h2 b _ _ nm _ T u (hfa u (by simp)) txt hst' hxt2 c T' (Below.at hB hh) e4 htab2 hsh).mono fun _ _ hr => up hr
            | none =>
              rw [hst'] at hc
              cases hc
              refine (callBasicK (NX N ga) g rb fuel s w2 h2 b _ _ nm _ _ T (.wrong 8) (Below.at hB hh) ⟨_, _, _, rfl⟩ (fun _ e => by cases e) (fun y e => by cases e; decide) (Or.inr ⟨129, c, ent129, rfl, disp_no g.tb _ w2 u (hfa u (by simp)) hst' _ hxt2 c htab2⟩)).mono fun _ _ hr => up hr
        · have hns : ∀ u, basicDo i args ≠ .shows u := fun u e => hsv ⟨u, e⟩
          have HF := basic_doK (fun k hk => Gh.ok_new h2.m k hk) hxt2 htk hns hfa hal hf2
          have hs' : s' = s.res (basicDo i args) := by
            cases hr : basicDo i args with
            | val v => rw [hr] at hc; cases hc; rfl
            | wrong y => rw [hr] at hc; cases hc; rfl
            | shows u => exact absurd hr (hns u)
          subst hs'
          exact (callBasicK (NX N ga) g rb fuel s w2 h2 b _ _ nm fv _ T _ (Below.at hB hh) ⟨_, _, _, rfl⟩ hns (fun y hy => wrong_ne htk hy) HF).mono fun _ _ hr => up hr
      · rw [if_neg htk] at hc
        cases hc
        have q0 := cell_of_at hh 0
        have q1 := cell_of_at hh 1
        simp only [List.getElem?_toArray, List.getElem?_cons_zero, List.getElem?_cons_succ] at q0 q1
        exact callWith_not _ rb w 111 b _ _ args.length _ _ (meth111 b _ _ w q0 q1) (fun e => htk ((takes_iff g.tb.m i args.length hal).2 e)) (fail 3)
    | .clo k body e =>
      obtain ⟨b, sl, at', T, rfl, hb, hh, h1, h2⟩ := hy.clo_inv
      refine call_toK _ rb w 226 (Or.inr (Or.inl rfl)) _ gx o args.length cap hcell hn hcap fun o' ho => ?_
      rw [St.call] at hc
      by_cases hk : args.length = k
      · rw [if_pos hk] at hc
        subst hk
        exact callWith_cloK N g rb fuel s s' w0 w ga hk0 hrb h _ args (fun k hk => by cases hk; exact hw0 gx rfl) ⟨ht o' ho, fun k hk => by cases hk; exact hga⟩ b sl at' T body e hb hh h1 h2 hc
      · rw [if_neg hk] at hc
        cases hc
        have q0 := cell_of_at hh 0
        have q1 := cell_of_at hh 1
        simp only [List.getElem?_toArray, List.getElem?_cons_zero, List.getElem?_cons_succ] at q0 q1
        exact callWith_not _ rb w 226 b _ _ args.length _ _ (meth226 b _ _ w q0 q1) (fun e => hk (by omega)) (fail 3)
    | .cont todo =>
      obtain ⟨b, tv, T, rfl, hb, hh, h1⟩ := hy.cont_inv
      refine call_toK _ rb w 258 (Or.inr (Or.inr rfl)) _ gx o args.length cap hcell hn hcap fun o' ho => ?_
      have q0 := cell_of_at hh 0
      have q1 := cell_of_at hh 1
      simp only [List.getElem?_toArray, List.getElem?_cons_zero, List.getElem?_cons_succ] at q0 q1
      have bad : ¬ args.length = 1 → s' = s.fail 3 → Calls Tryz.prog 171 #[ptrV rb, .iface 258 (ptrV b), .slice (some ⟨gx, o', none⟩) args.length (cap - 1)] w (RunC N g rb fuel s' w0) := fun hl hs => by
        subst hs
        exact callWith_not _ rb w 258 b _ _ args.length _ _ (meth258 b _ _ w q0 q1) (fun e => hl (by omega)) (fail 3)
      match args with
      | [] => cases hc; exact bad (by simp) rfl
      | [u] =>
        have hs : s' = s.resume fuel todo u := by
          have e : s.call fuel [.cont todo, u] = some (s.resume fuel todo u) := by
            show (match s.step? fuel with
              | (s, true) => some ({ s with beyond := s.todo :: s.beyond, todo := todo }.give u)
              | (s, false) => some s) = _
            unfold St.resume
            rcases s.step? fuel with ⟨s1, r⟩
            cases r <;> rfl
          rw [e] at hc
          cases hc
          rfl
        rw [hs]
        exact (callWith_contK (NX N ga) g rb fuel s w h _ u (ht o' ho) b tv T todo hb hh h1).mono fun _ _ hr => RunC.lessN hk0 hrb hr
      | _ :: _ :: _ => cases hc; exact bad (by simp) rfl
end Kc
end Go.Proofs.YtodeeegbajgafaaGreatDoor

namespace Go.Proofs.YtodeeegbajgafaaGreatDoor
open Go.RowKit
/-- The same machine, with no scopes. -/
def ghOf (g : Gh) : Kc.Gh := ⟨g.mb, g.db, g.xs, g.sh, []⟩
theorem ghOf_mut {g : Gh} {k : Nat} : (ghOf g).mut k ↔ g.mut k := by
  constructor
  · rintro (h | h | h | h | ⟨s, h, _⟩)
    · exact Or.inl h
    · exact Or.inr (Or.inl h)
    · exact Or.inr (Or.inr (Or.inl h))
    · exact Or.inr (Or.inr (Or.inr h))
    · cases h
  · rintro (h | h | h | h)
    · exact Or.inl h
    · exact Or.inr (Or.inl h)
    · exact Or.inr (Or.inr (Or.inl h))
    · exact Or.inr (Or.inr (Or.inr (Or.inl h)))
theorem ghOf_ok {g : Gh} {N : Nat → Prop} {k : Nat} (h : g.ok N k) : (ghOf g).ok N k := ⟨h.1, fun e => h.2 (ghOf_mut.1 e)⟩
def kvB : Mc.V → Kc.V
  | .basic i => .basic i
  | _ => .atom .empty
def G0k : List (Rd.Sym × Kc.V) := Mc.G0.map fun p => (p.1, kvB p.2)
theorem basicK {mb : Nat} {g : Kc.Gt} (hg : g.m = mb) {ok ok' : Nat → Prop} {w : World} {x : Value} {i : Nat} (hi : i ≤ 20) (hok : ∀ k, ok k → ok' k) (h : RepM mb ok w x (.val (.basic i))) : Kc.RepM g ok' w x (.val (.basic i)) := by
  subst hg
  cases h with
  | basic0 _ b nm T hb hn hh => exact .basic0 i b nm T (hok _ hb) hn hh
  | basic1 _ b c nm y T T' hb hc hx hh hh' ht => exact .basic1 i b c nm y T T' (hok _ hb) (hok _ hc) hx hh hh' fun e => ⟨hok _ (ht (by omega)).1, (ht (by omega)).2⟩
theorem G0_basic : ∀ p, p ∈ Mc.G0 → ∃ i, i ≤ 20 ∧ p.2 = .basic i := fun p hp => by
  unfold Mc.G0 at hp
  obtain ⟨i, hi, rfl⟩ := List.mem_map.1 hp
  exact ⟨i, by have := List.mem_range.1 hi; omega, rfl⟩
theorem machK {N : Nat → Prop} {B ob : Nat} {w : World} {g : Gh} (h : Mach N B ob Mc.G0 w g) : Kc.MachK N B ob G0k [] w (ghOf g) := by
  obtain ⟨hbox, _, hfix, hm, hhigh⟩ := h
  refine ⟨hbox, fun e => hfix (ghOf_mut.1 e), ?_, fun k e => hhigh k (ghOf_mut.1 e)⟩
  have hmap : G0k.map (·.1) = Mc.G0.map (·.1) := by unfold G0k; rw [List.map_map]; rfl
  have hlen : G0k.length = Mc.G0.length := by unfold G0k; rw [List.length_map]
  refine ⟨hm.mach, ?_, hm.len.trans hlen.symm, ?_, hm.own, hm.apart, hm.apart', ⟨rfl, fun i s vs e => by simp [ghOf] at e⟩, fun i s k e => by simp [ghOf] at e, hm.low, fun k e => hm.disj k (ghOf_mut.1 e)⟩
  · rw [hmap]
    exact hm.glob
  · intro i hi
    have hi' : i < Mc.G0.length := by rw [← hlen]; exact hi
    obtain ⟨b, x, T, h1, h2, h3⟩ := hm.boxes i hi'
    refine ⟨b, x, T, h1, h2, ?_⟩
    obtain ⟨j, hj, hj'⟩ := G0_basic Mc.G0[i] (List.getElem_mem hi')
    have key : ∀ p, G0k[i]? = some p → Kc.RepM (ghOf g).tb ((ghOf g).ok N) w x (.val p.2) := fun p hp => by
      unfold G0k at hp
      rw [List.getElem?_map, List.getElem?_eq_getElem hi'] at hp
      cases hp
      show Kc.RepM (ghOf g).tb ((ghOf g).ok N) w x (.val (kvB Mc.G0[i].2))
      rw [hj', kvB]
      rw [hj'] at h3
      exact basicK rfl hj (fun k => ghOf_ok) h3
    exact key _ (List.getElem?_eq_getElem hi)
theorem G0k_ok : ∀ p, p ∈ G0k → Kc.Ok [] 0 (.v p.2) := fun p hp => by
  unfold G0k at hp
  obtain ⟨q, hq, rfl⟩ := List.mem_map.1 hp
  obtain ⟨i, _, hi⟩ := G0_basic q hq
  show Kc.Ok [] 0 (.v (kvB q.2))
  rw [hi, kvB]
  exact .basic i
namespace Kc
theorem begin_rests (F : Nat) : Rests F (begin_ G0k []) := by
  refine ⟨⟨Nat.zero_le _, Or.inl ⟨rfl, rfl⟩, .atom .empty trivial, ⟨Nat.le_refl _, fun f h => by cases h⟩, (fun t h => by cases h), G0k_ok, (fun vs h => by cases h), Nat.le_refl _⟩, rfl, rfl, rfl⟩
/-- A source as it is: refused, or forms. -/
def preK (s : ByteArray) : Sum (Nat × Nat) (List Rd.F) := match Rd.readT s with
  | .no n p => .inl (n, p)
  | .ok ds => match Rd.kTops 4000 ds with
    | .ok fs => .inr fs
    | .no q => .inl (4, q)
    | .bad q => .inl (4, q)
theorem errs_alloc {w : World} (h : ErrsAt w) (o : Obj) : ErrsAt (w.alloc o) := by
  obtain ⟨⟨t, p, h1⟩, t', p', h2⟩ := h
  have hB : Below w.heap.size w (w.alloc o) := (Below.refl _ w).alloc (Nat.le_refl _) _
  exact ⟨⟨t, p, (Kept.of_below hB (fun _ => False)).cell id h1⟩, t', p', (Kept.of_below hB (fun _ => False)).cell id h2⟩
theorem reads {s : ByteArray} {ds : List Rd.D} (h : Rd.readT s = .ok ds) (w : World) (hE : ErrsAt w) : Hid (Calls Tryz.prog 24 #[.string s] (w.alloc zeroOut) fun e w' => ∃ sl, e = .returned (.tuple #[sl, .int .i64 0, .int .i64 0]) ∧ RepS (fun k => (w.alloc zeroOut).heap.size ≤ k) w' sl ds ∧ Below (w.alloc zeroOut).heap.size (w.alloc zeroOut) w') := by
  have := read_t s (w.alloc zeroOut) (errs_alloc hE _)
  rw [h] at this
  exact this
theorem kz_le {s : ByteArray} {ds : List Rd.D} (h : Rd.readT s = .ok ds) : Rd.kzL ds ≤ 1000 := by
  rw [← szL_kz]
  exact (readT_small s ds h).2
theorem eval_inl {s : ByteArray} {n p : Nat} (h : preK s = .inl (n, p)) : n ≠ 0 ∧ ∀ (ob F : Nat) (w : World), ErrsAt w → Calls Tryz.prog 17 #[ptrV ob, .string s, .int .i64 F] w (EvalNo n p w) := by
  unfold preK at h
  cases hr : Rd.readT s with
  | no n' p' =>
    rw [hr] at h
    cases h
    have hn := (readT_no s n p hr).1
    refine ⟨hn, fun ob F w hE => eval_no ob F s n p hn w ?_⟩
    have := read_t s (w.alloc zeroOut) (errs_alloc hE _)
    rw [hr] at this
    exact this
  | ok ds =>
    rw [hr] at h
    have hz := kz_le hr
    have key : ∀ q, flOr none (Rd.kTops 4000 ds) = some q → ∀ (ob F : Nat) (w : World), ErrsAt w → Calls Tryz.prog 17 #[ptrV ob, .string s, .int .i64 F] w (EvalNo 4 q w) := fun q hq ob F w hE =>
      eval_bad ob F s ds q w (reads hr w hE) fun W sl hsl => (parse_k 4000 W ds sl hsl (by omega) (by omega) (by omega)).mono fun e w' hp => ⟨hp.2.1 q hq, hp.2.2⟩
    simp only at h
    cases hk : Rd.kTops 4000 ds with
    | ok fs => rw [hk] at h; cases h
    | no q => rw [hk] at h; cases h; exact ⟨by decide, key _ (by rw [hk]; rfl)⟩
    | bad q => rw [hk] at h; cases h; exact ⟨by decide, key _ (by rw [hk]; rfl)⟩
theorem eval_inr {s : ByteArray} {fs : List Rd.F} (h : preK s = .inr fs) : (∀ f, f ∈ fs → WfF [] f) ∧ ∀ (G : List (Rd.Sym × V)) (C : List (List V)) (N : Nat → Prop) (B ob F : Nat) (g : Gh) (w : World) (t : St), F ≤ 20000 → MachK N B ob G C w g → B ≤ w.heap.size → tabBlock < B → TabOk w → ErrsAt w → EndsI F (begin_ G C) fs t → Calls Tryz.prog 17 #[ptrV ob, .string s, .int .i64 F] w (EvalRK N B ob g t fs.isEmpty w) := by
  unfold preK at h
  cases hr : Rd.readT s with
  | no n' p' => rw [hr] at h; cases h
  | ok ds =>
    rw [hr] at h
    have hz := kz_le hr
    simp only at h
    cases hk : Rd.kTops 4000 ds with
    | no q => rw [hk] at h; cases h
    | bad q => rw [hk] at h; cases h
    | ok fs' =>
      rw [hk] at h
      cases h
      have hwf := wf_tops 4000 (by omega) ds fs (readT_fine s ds hr) hk
      refine ⟨hwf, fun G C N B ob F g w t hF hM hBw hNt htab hE hx => ?_⟩
      refine eval_run callC C N B ob G g F hF s ds fs t w hM hBw hNt htab (reads hr w hE) (fun W sl hsl => (parse_k 4000 W ds sl hsl (by omega) (by omega) (by omega)).mono fun e w' hp => ?_) hx
      obtain ⟨fv, h1, h2⟩ := hp.1 fs hk
      exact ⟨fv, h1, h2, hp.2.2⟩
theorem ends_good {F : Nat} {s u : St} {fs : List Rd.F} (h : Ends F s fs u) : Rests F s → (∀ f, f ∈ fs → WfF [] f) → Good F 0 u := by
  induction h with
  | nil s => exact fun hs _ => hs.good
  | stop h he hk => exact fun hs hf => runs_good h (hs.good.eval .nil (hf _ List.mem_cons_self))
  | next h he hk _ ih => exact fun hs hf => ih (rests_of (runs_good h (hs.good.eval .nil (hf _ List.mem_cons_self))) he hk) fun x hx => hf x (List.mem_cons_of_mem _ hx)
/-- With some fuel, and with more. -/
theorem fuels (fs : List Rd.F) (hwf : ∀ f, f ∈ fs → WfF [] f) (F F' : Nat) (hF : F ≤ F') : ∃ t u, Ends F (begin_ G0k []) fs t ∧ Ends F' (begin_ G0k []) fs u ∧ Good F 0 t ∧ Good F' 0 u ∧
    ((t.kind = 3 ∧ t.why = 0 ∧ t.steps = F ∧ t.steps ≤ u.steps ∧ ∃ l, u.shown = t.shown ++ l) ∨ (t.kind ≠ 3 ∧ u = t)) := by
  obtain ⟨t, h1, h2, _, _⟩ := all_end F fs (begin_ G0k []) (begin_rests F) hwf
  have hk : t.kind = 3 → t.why = 0 ∧ t.steps = F := fun e => by
    rcases h2.kw with h | h | h
    · omega
    · omega
    · exact h.2
  rcases h1.fuel hF (begin_rests F) hwf with h3 | ⟨h3, h4, u, h5, h6, h7⟩
  · refine ⟨t, t, h1, h3, h2, ends_good h3 (begin_rests F') hwf, ?_⟩
    by_cases h4 : t.kind = 3
    · exact Or.inl ⟨h4, (hk h4).1, (hk h4).2, Nat.le_refl _, [], (List.append_nil _).symm⟩
    · exact Or.inr ⟨h4, rfl⟩
  · exact ⟨t, u, h1, h5, h2, ends_good h5 (begin_rests F') hwf, Or.inl ⟨h3, (hk h3).1, h4, h6, h7⟩⟩
end Kc
end Go.Proofs.YtodeeegbajgafaaGreatDoor

namespace Go.Proofs.YtodeeegbajgafaaGreatDoor
namespace Kc
open Go.RowKit
/-- A source was run. -/
def RunsR (N : Nat → Prop) (B ob : Nat) (g : Gh) (t : St) (em : Bool) (w : World) : Ending → World → Prop := fun e w' => ∃ g' sa sn sc, e = .returned (.tuple #[outcomeK t em (.slice sa sn sc), .bool true]) ∧ MachK N B ob t.G t.sc w' g' ∧ Kept g.mut w w' ∧ Gh.Next w g g' ∧ ShownK N t.shown w' (.slice sa sn sc)
theorem runs_ends {N : Nat → Prop} {B ob : Nat} {t : St} {em : Bool} {C : List (List V)} {G : List (Rd.Sym × V)} {w w2 : World} {g g' : Gh} {sa : Option Addr} {sn sc : Nat} {a b c d : Value} (hM : MachK N B ob G C w g)
    (hM2 : MachK (fun k => N k ∨ k = w.heap.size) B ob t.G t.sc w2 g') (hk : Kept g.mut (w.alloc zeroOut) w2) (hn : Gh.Next (w.alloc zeroOut) g g') (hsw : ShownK (fun k => N k ∨ k = w.heap.size) t.shown w2 (.slice sa sn sc)) (ho : outcomeK t em (.slice sa sn sc) = .agg #[a, b, c, d, .slice sa sn sc]) :
    w2.heap[w.heap.size]? = some zeroOut ∧ RunsR N B ob g t em w (.returned (.tuple #[.agg #[a, b, c, d, .slice sa sn sc], .bool true])) ((set5 w2 w.heap.size a b c d (.slice sa sn sc)).alloc (.cells #[a, b, c, d, .slice sa sn sc] 34)) := by
  have hm6 : ¬ g.mut w.heap.size := fun e => Nat.lt_irrefl _ (Gh.low hM.m _ e)
  have hat := hk.at hm6 (at_new w zeroOut)
  have hob : ob < w.heap.size := lt_of_at hM.box
  have hk0 : Kept g.mut w (w.alloc zeroOut) := (Kept.refl _ w).alloc _
  refine ⟨hat, g', sa, sn, sc, by rw [ho], ⟨?_, hM2.fix, ?_, hM2.high⟩, ?_, ⟨hn.mb, hn.db, hn.sp, fun k e hk' => hn.mt k e (by simp; omega)⟩, (hsw.kept (N' := N) (set5_kept (Kept.refl (fun k => k = w.heap.size) w2) (k := w.heap.size) (fun _ => rfl) a b c d (.slice sa sn sc)) (fun k e => Or.inr e) (fun k e => Or.inl e)).kept (M := fun _ => False) ((Kept.refl _ _).alloc _) (fun _ e => e.elim) (fun _ e => e)⟩
  · refine at_alloc ?_ _
    rw [set5_ne _ _ _ _ _ _ _ _ (by omega)]
    exact hM2.box
  · refine MachAt.below (hM2.m.other (by rw [set5_size]; exact Nat.le_refl _) (fun k _ hk => set5_ne _ _ _ _ _ _ _ _ (fun e => hk (Or.inr e))) (fun k e => Or.inl e)) ((Below.refl _ _).alloc (Nat.le_refl _) _)
  · exact (set5_kept (hk0.trans hk) (k := w.heap.size) (fun e => absurd e (Nat.lt_irrefl _)) a b c d (.slice sa sn sc)).alloc _
set_option maxHeartbeats 8000000 in
set_option maxRecDepth 20000 in
theorem run13_gen (N : Nat → Prop) (B ob : Nat) (G : List (Rd.Sym × V)) (g : Gh) (C : List (List V)) (s : ByteArray) (t : St) (em : Bool) (w : World) (hM : MachK N B ob G C w g) (hlen : s.size ≤ 500) (HE : MachK (fun k => N k ∨ k = w.heap.size) B ob G C (w.alloc zeroOut) g → Calls Tryz.prog 17 #[ptrV ob, .string s, .int .i64 (20000 : Nat)] (w.alloc zeroOut) (EvalRK (fun k => N k ∨ k = w.heap.size) B ob g t em (w.alloc zeroOut))) :
    Calls Tryz.prog 13 #[ptrV ob, .string s] w (RunsR N B ob g t em w) := by
  have hM1 : MachK (fun k => N k ∨ k = w.heap.size) B ob G C (w.alloc zeroOut) g := ⟨at_alloc hM.box _, hM.fix, hM.m.aside zeroOut, hM.high⟩
  have HE := HE hM1
  obtain ⟨ka, tb, wc, hout⟩ : ∃ (ka : Int) (tb : ByteArray) (wc : Int), ∀ sh, outcomeK t em sh = .agg #[.int .i64 ka, .string tb, .int .i64 wc, .int .i64 t.steps, sh] := ⟨_, _, _, fun _ => rfl⟩
  have HE2 : Hid (Calls Tryz.prog 17 #[.pointer (some ⟨ob, 0, none⟩), .string s, .int .i64 20000] (w.alloc zeroOut) fun e w' => ∃ sa sn sc, e = .returned (.tuple #[.agg #[.int .i64 ka, .string tb, .int .i64 wc, .int .i64 t.steps, .slice sa sn sc], .int .i64 0, .int .i64 0]) ∧ w'.heap[w.heap.size]? = some zeroOut ∧ RunsR N B ob g t em w (.returned (.tuple #[.agg #[.int .i64 ka, .string tb, .int .i64 wc, .int .i64 t.steps, .slice sa sn sc], .bool true])) ((set5 w' w.heap.size (.int .i64 ka) (.string tb) (.int .i64 wc) (.int .i64 t.steps) (.slice sa sn sc)).alloc (.cells #[.int .i64 ka, .string tb, .int .i64 wc, .int .i64 t.steps, .slice sa sn sc] 34))) := by
    refine HE.mono ?_
    rintro e w' ⟨g', sa, sn, sc, rfl, hM2, hk, hn, hsw⟩
    obtain ⟨h1, h2⟩ := runs_ends (em := em) hM hM2 hk hn hsw (hout _)
    exact ⟨sa, sn, sc, by rw [hout], h1, h2⟩
  have HZ : Hid (w.alloc (.cells #[.int .i64 0, .string ⟨#[]⟩, .int .i64 0, .int .i64 0, .slice none 0 0] 34) = w.alloc zeroOut) := rfl
  have i1 : ¬ (500 : Int) < (s.size : Int) := by omega
  clear HE hM hM1 hout
  generalize w.alloc zeroOut = w1 at *
  unfold ptrV
  go_enter Tryz.func13, Tryz.ntmps13
  go_wp2_with (first | (go_at_call 17; rw [HZ.out]; refine HE2.out.mono ?_; rintro e4 w4 ⟨sa, sn, sc, rfl, hat4, hfin⟩; have HFIN := (show Hid _ from hfin); have l4 := lt_of_at hat4; have n4 : w4.heap.size ≠ w.heap.size := (by omega); obtain ⟨x0, x1, x2, x3, x4, d0, d1, d2, d3, d4⟩ := six_of hat4; clear hfin))
  have hcl := set5_at hat4 (.int .i64 ka) (.string tb) (.int .i64 wc) (.int .i64 t.steps) (.slice sa sn sc)
  have hcl2 := at_alloc hcl (.cells #[.int .i64 ka, .string tb, .int .i64 wc, .int .i64 t.steps, .slice sa sn sc] 34)
  have f0 := cell_of_at hcl2 0
  have f1 := cell_of_at hcl2 1
  have f2 := cell_of_at hcl2 2
  have f3 := cell_of_at hcl2 3
  have f4 := cell_of_at hcl2 4
  simp only [List.getElem?_toArray, List.getElem?_cons_zero, List.getElem?_cons_succ] at f0 f1 f2 f3 f4
  have HWE : Hid (((((w4.setCell ⟨w.heap.size, 0, none⟩ (.int .i64 ka)).setCell ⟨w.heap.size, 1, none⟩ (.string tb)).setCell ⟨w.heap.size, 2, none⟩ (.int .i64 wc)).setCell ⟨w.heap.size, 3, none⟩ (.int .i64 t.steps)).setCell ⟨w.heap.size, 4, none⟩ (.slice sa sn sc) = set5 w4 w.heap.size (.int .i64 ka) (.string tb) (.int .i64 wc) (.int .i64 t.steps) (.slice sa sn sc)) := rfl
  rw [HWE.out]
  refine bodyPost_ret (v := .tuple #[.agg #[.int .i64 ka, .string tb, .int .i64 wc, .int .i64 t.steps, .slice sa sn sc], .bool true]) ?_ rfl HFIN.out
  simp [results, Tryz.results13, go_sem, f0, f1, f2, f3, f4]
end Kc
end Go.Proofs.YtodeeegbajgafaaGreatDoor

namespace Go.Proofs.YtodeeegbajgafaaGreatDoor
namespace Kc
open Go.RowKit
def srcA : ByteArray := ⟨#[40, 100, 101, 102, 105, 110, 101, 32, 107, 32, 48, 41, 32, 40, 114, 101, 115, 101, 116, 32, 40, 43, 32, 49, 32, 40, 115, 104, 105, 102, 116, 32, 99, 32, 40, 98, 101, 103, 105, 110, 32, 40, 115, 101, 116, 33, 32, 107, 32, 99, 41, 32, 48, 41, 41, 41, 41, 32, 40, 107, 32, 49, 48, 41]⟩
def srcB : ByteArray := ⟨#[40, 99, 97, 114, 32, 49, 41]⟩
def fA1 : Rd.F := .define [107] (.const (.num 0))
def fA2 : Rd.F := .reset [.call [.name [43] none, .const (.num 1), .shift [.begin_ [.set_ [107] none (.name [99] (some (0, 0))), .const (.num 0)]]]]
def fA3 : Rd.F := .call [.name [107] none, .const (.num 10)]
def fB1 : Rd.F := .call [.name [99, 97, 114] none, .const (.num 1)]
theorem preA : preK srcA = .inr [fA1, fA2, fA3] := by kernel_rfl
theorem preB : preK srcB = .inr [fB1] := by kernel_rfl
/-- A value that is fine, a state that fits. -/
def fineB : V → Bool
  | .atom (.num n) => inRange n
  | .atom (.sym l) => decide (l.length ≤ 500)
  | .pair h t => fineB h && fineB t
  | _ => true
theorem fineB_fine : ∀ {v : V}, fineB v = true → fine v
  | .atom (.num n), h => inR_of h
  | .atom (.sym l), h => of_decide_eq_true (p := l.length ≤ 500) h
  | .atom (.truth _), _ => trivial
  | .atom .empty, _ => trivial
  | .pair a b, h => by
    rw [fineB, Bool.and_eq_true] at h
    exact ⟨fineB_fine h.1, fineB_fine h.2⟩
  | .basic _, _ => by simp [fine]
  | .clo .., _ => by simp [fine]
  | .cont _, _ => by simp [fine]
def fitsB (s : St) : Bool := decide (s.shown.length < 1000000) && (match s.ctl with
  | .val v => fineB v
  | .ev _ _ => true) && (match s.todo with
  | .each _ _ vals _ :: _ => vals.all fineB
  | _ => true)
theorem fitsB_fits {s : St} (h : fitsB s = true) : Fits s := by
  unfold fitsB at h
  simp only [Bool.and_eq_true, decide_eq_true_eq] at h
  obtain ⟨⟨h1, h2⟩, h3⟩ := h
  refine ⟨h1, fun v hv => ?_, fun f todo ht fs e vals hd hf u hu => ?_⟩
  · rw [hv] at h2
    exact fineB_fine h2
  · rw [ht, hf] at h3
    simp only [List.all_eq_true] at h3
    exact fineB_fine (h3 u hu)
def endedB (t : St) : Bool := t.kind != 0 || ((match t.ctl with | .val _ => true | .ev _ _ => false) && t.todo.isEmpty && t.beyond.isEmpty)
theorem endedB_ended {t : St} (h : endedB t = true) : t.ended := by
  unfold endedB at h
  simp only [Bool.or_eq_true, Bool.and_eq_true, bne_iff_ne, List.isEmpty_iff] at h
  rcases h with h | ⟨⟨h1, h2⟩, h3⟩
  · exact Or.inl h
  · refine Or.inr ⟨?_, h2, h3⟩
    cases hc : t.ctl with
    | ev => rw [hc] at h1; cases h1
    | val v => exact ⟨v, rfl⟩
/-- A run of so many rounds, all of which fit. -/
def path (F : Nat) : Nat → St → Option St
  | 0, s => if fitsB s && endedB s then some s else none
  | n + 1, s => if fitsB s then (match s.round F with
    | some s' => path F n s'
    | none => none) else none
theorem path_all {F : Nat} : ∀ {n : Nat} {s t : St}, path F n s = some t → fitsB s = true ∧ Runs F n s t ∧ t.ended ∧ ∀ s', s.round F = some s' → ∃ m u, path F m s' = some u
  | 0, s, t, h => by
    rw [path] at h
    split at h
    · rename_i hb
      rw [Bool.and_eq_true] at hb
      cases h
      have he := endedB_ended hb.2
      exact ⟨hb.1, .nil s, he, fun s' hr => absurd he (round_some hr).2⟩
    · cases h
  | n + 1, s, t, h => by
    rw [path] at h
    split at h
    · rename_i hb
      cases hr : s.round F with
      | none => rw [hr] at h; cases h
      | some s' =>
        rw [hr] at h
        obtain ⟨_, h2, h3, _⟩ := path_all h
        exact ⟨hb, .cons hr h2, h3, fun s'' e => by cases e; exact ⟨n, t, h⟩⟩
    · cases h
theorem path_inv (F : Nat) : Inv F (fun s => ∃ m u, path F m s = some u) :=
  ⟨fun _ s' ⟨_, _, h⟩ hr => (path_all h).2.2.2 s' hr, fun _ ⟨_, _, h⟩ => fitsB_fits (path_all h).1⟩
theorem path_next {F n : Nat} {s t u : St} {f : Rd.F} {fs : List Rd.F} (h : path F n (s.eval f []) = some t) (hk : t.kind = 0) (k : EndsI F t fs u) : EndsI F s (f :: fs) u :=
  .next (path_inv F) ⟨n, t, h⟩ (path_all h).2.1 (path_all h).2.2.1 hk k
theorem path_stop {F n : Nat} {s t : St} {f : Rd.F} {fs : List Rd.F} (h : path F n (s.eval f []) = some t) (hk : t.kind ≠ 0) : EndsI F s (f :: fs) t :=
  .stop (path_inv F) ⟨n, t, h⟩ (path_all h).2.1 (path_all h).2.2.1 hk
def tA0 : St := begin_ G0k []
def tA1 : St := (path 20000 3 (tA0.eval fA1 [])).getD tA0
def tA2 : St := (path 20000 14 (tA1.eval fA2 [])).getD tA0
def tA3 : St := (path 20000 7 (tA2.eval fA3 [])).getD tA0
def tB : St := (path 20000 5 ((begin_ tA3.G tA3.sc).eval fB1 [])).getD tA0
theorem hA1 : path 20000 3 (tA0.eval fA1 []) = some tA1 := by kernel_rfl
theorem hA2 : path 20000 14 (tA1.eval fA2 []) = some tA2 := by kernel_rfl
theorem hA3 : path 20000 7 (tA2.eval fA3 []) = some tA3 := by kernel_rfl
theorem hB1 : path 20000 5 ((begin_ tA3.G tA3.sc).eval fB1 []) = some tB := by kernel_rfl
theorem kA1 : tA1.kind = 0 := by kernel_rfl
theorem kA2 : tA2.kind = 0 := by kernel_rfl
theorem kA3 : tA3.kind = 0 := by kernel_rfl
theorem cA3 : tA3.ctl = .val (.atom (.num 11)) := by kernel_rfl
theorem kB : tB.kind = 2 := by kernel_rfl
theorem yB : tB.why = 2 := by kernel_rfl
theorem endsA : EndsI 20000 (begin_ G0k []) [fA1, fA2, fA3] tA3 := path_next hA1 kA1 (path_next hA2 kA2 (path_next hA3 kA3 (.nil _)))
theorem endsB : EndsI 20000 (begin_ tA3.G tA3.sc) [fB1] tB := path_stop hB1 (by rw [kB]; decide)
theorem itoa11 : Lib.itoa 11 = [49, 49] := by
  rw [show (11 : Int) = ((11 : Nat) : Int) from rfl, Lib.itoa_nonneg, Lib.decDigits_two (by omega) (by omega)]
  rfl
theorem outA (sh : Value) : outcomeK tA3 false sh = .agg #[.int .i64 1, .string ⟨#[49, 49]⟩, .int .i64 0, .int .i64 tA3.steps, sh] := by
  have h : outK tA3 false = (1, [49, 49], 0) := by
    rw [outK_val kA3 cA3]
    show (match (if partsLeft 300 (.atom (.num 11)) < 0 then none else some (txV (.atom (.num 11)))) with
      | some x => (1, x, 0)
      | none => (2, [], 8)) = _
    rw [if_neg (by show ¬ (300 - 1 : Int) < 0; omega), txV, txA, itoa11]
  unfold outcomeK
  rw [h]
  rfl
theorem outB (sh : Value) : outcomeK tB false sh = .agg #[.int .i64 2, .string ⟨#[]⟩, .int .i64 2, .int .i64 tB.steps, sh] := by
  unfold outcomeK
  rw [outK_not (by rw [kB]; decide), kB, yB]
  rfl
/-- The two runs of fresh. -/
theorem fresh_runA (N : Nat → Prop) (B ob : Nat) (g : Gh) (w : World) (hM : MachK N B ob G0k [] w g) (hBw : B ≤ w.heap.size) (hNt : tabBlock < B) (htab : TabOk w) (hE : ErrsAt w) :
    Calls Tryz.prog 13 #[ptrV ob, .string srcA] w fun e w' => ∃ g' sa sn sc, e = .returned (.tuple #[.agg #[.int .i64 1, .string ⟨#[49, 49]⟩, .int .i64 0, .int .i64 tA3.steps, .slice sa sn sc], .bool true]) ∧ MachK N B ob tA3.G tA3.sc w' g' ∧ Below B w w' := by
  refine (run13_gen N B ob G0k g [] srcA tA3 false w hM (by decide) fun hM1 => (eval_inr preA).2 _ _ _ B ob 20000 g _ tA3 (Nat.le_refl _) hM1 (by simp; omega) hNt (htab.on (Below.heap_alloc _ _ _ htab.lt)) (errs_alloc hE _) endsA).mono ?_
  rintro e w' ⟨g', sa, sn, sc, rfl, h1, h2, _⟩
  exact ⟨g', sa, sn, sc, by rw [outA], h1, h2.below hBw hM.high⟩
theorem fresh_runB (N : Nat → Prop) (B ob : Nat) (g : Gh) (w : World) (hM : MachK N B ob tA3.G tA3.sc w g) (hBw : B ≤ w.heap.size) (hNt : tabBlock < B) (htab : TabOk w) (hE : ErrsAt w) :
    Calls Tryz.prog 13 #[ptrV ob, .string srcB] w fun e w' => ∃ sa sn sc, e = .returned (.tuple #[.agg #[.int .i64 2, .string ⟨#[]⟩, .int .i64 2, .int .i64 tB.steps, .slice sa sn sc], .bool true]) ∧ Below B w w' ∧ Kept g.mut w w' := by
  refine (run13_gen N B ob tA3.G g tA3.sc srcB tB false w hM (by decide) fun hM1 => (eval_inr preB).2 _ _ _ B ob 20000 g _ tB (Nat.le_refl _) hM1 (by simp; omega) hNt (htab.on (Below.heap_alloc _ _ _ htab.lt)) (errs_alloc hE _) endsB).mono ?_
  rintro e w' ⟨g', sa, sn, sc, rfl, h1, h2, _⟩
  exact ⟨sa, sn, sc, by rw [outB], h2.below hBw hM.high, h2⟩
end Kc
end Go.Proofs.YtodeeegbajgafaaGreatDoor
