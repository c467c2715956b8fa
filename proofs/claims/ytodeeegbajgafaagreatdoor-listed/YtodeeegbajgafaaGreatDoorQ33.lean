/- New and Eval. rondokeep's run. -/
import Derived.Test.YtodeeegbajgafaaGreatDoorQ29
import Derived.Test.YtodeeegbajgafaaGreatDoorQ30
import Derived.Test.YtodeeegbajgafaaGreatDoorQ32
namespace Go.Proofs.YtodeeegbajgafaaGreatDoor
open Go.RowKit
open Mc

theorem MachAt.aside {N : Nat → Prop} {g : Gh} {G : List (Rd.Sym × V)} {sh : List (List UInt8)} {w : World} (h : MachAt N g G sh w) (o : Obj) : MachAt (fun k => N k ∨ k = w.heap.size) g G sh (w.alloc o) := by
  refine h.kept (fun k hm => Below.heap_alloc _ _ _ (Gh.low h k hm)) (fun k hk ho => ⟨⟨fun e => by rcases e with e | e; exact ho.1 e; omega, ho.2⟩, Below.heap_alloc _ _ _ hk⟩) ?_ ?_
  · rintro k (e | rfl)
    · have := h.low k e; simp; omega
    · simp
  · rintro k hm (e | rfl)
    · exact h.disj k hm e
    · exact Nat.lt_irrefl _ (Gh.low h _ hm)
theorem MachAt.other {N N' : Nat → Prop} {g : Gh} {G : List (Rd.Sym × V)} {sh : List (List UInt8)} {w w' : World} (h : MachAt N g G sh w) (hs : w.heap.size ≤ w'.heap.size) (hw : ∀ k, k < w.heap.size → ¬ N k → w'.heap[k]? = w.heap[k]?) (hN : ∀ k, N' k → N k) : MachAt N' g G sh w' :=
  h.kept (fun k hm => hw k (Gh.low h k hm) (h.disj k hm)) (fun k hk ho => ⟨⟨fun e => ho.1 (hN k e), ho.2⟩, hw k hk ho.1⟩) (fun k e => Nat.lt_of_lt_of_le (h.low k (hN k e)) hs) (fun k hm e => h.disj k hm (hN k e))
theorem MachAt.below {N : Nat → Prop} {g : Gh} {G : List (Rd.Sym × V)} {sh : List (List UInt8)} {w w' : World} (h : MachAt N g G sh w) (hb : Below w.heap.size w w') : MachAt N g G sh w' := h.other hb.size (fun k hk _ => hb.block k hk) (fun _ e => e)

/-- A rondo.Machine. -/
structure Mach (N : Nat → Prop) (B ob : Nat) (G : List (Rd.Sym × V)) (w : World) (g : Gh) : Prop where
  box : w.heap[ob]? = some (.cells #[ptrV g.mb] 70 (0, 0))
  low : B ≤ ob
  fix : ¬ g.mut ob
  m : MachAt N g G [] w
  high : ∀ k, g.mut k → B ≤ k
theorem Mach.below {N : Nat → Prop} {B ob : Nat} {G : List (Rd.Sym × V)} {w w' : World} {g : Gh} (h : Mach N B ob G w g) (hb : Below w.heap.size w w') : Mach N B ob G w' g := ⟨Below.at hb h.box, h.low, h.fix, h.m.below hb, h.high⟩

set_option maxHeartbeats 1000000 in
theorem new23 (N : Nat → Prop) (w : World) (hN : ∀ k, N k → k < w.heap.size) : Calls Tryz.prog 23 #[] w fun e w' => ∃ ob g, e = .returned (ptrV ob) ∧ Mach N w.heap.size ob G0 w' g ∧ Below w.heap.size w w' := by
  have HN : Hid (Calls Tryz.prog 29 #[] w (NewR N w)) := new29 N w hN
  clear hN
  go_enter Tryz.func23, Tryz.ntmps23
  go_wp2_with (first | (go_at_call 29; refine HN.out.mono ?_; rintro e2 w2 ⟨g, rfl, hm, hb, hh⟩; have HM := (show Hid _ from hm); have HB := (show Hid _ from hb); have HH := (show Hid _ from hh); clear hm hb hh; simp only [ptrV]))
  go_ret
  have hB2 : Below w2.heap.size w2 (w2.alloc (.cells #[.pointer (some ⟨g.mb, 0, none⟩)] 70)) := (Below.refl _ w2).alloc (Nat.le_refl _) _
  refine ⟨w2.heap.size, g, rfl, ⟨at_new w2 _, HB.out.size, fun e => Nat.lt_irrefl _ (Gh.low HM.out _ e), HM.out.below hB2, HH.out⟩, HB.out.trans (hB2.mono HB.out.size)⟩

/-- An evaluation came to this. -/
def EvalR (N : Nat → Prop) (B ob : Nat) (g : Gh) (t : St) (txt : List UInt8) (w : World) : Ending → World → Prop := fun e w' => ∃ g' sa sn sc, e = .returned (.tuple #[outcome t txt (.slice sa sn sc), .int .i64 0, .int .i64 0]) ∧ Mach N B ob t.G w' g' ∧ Kept g.mut w w' ∧ Gh.Next w g g'
/-- A source that is these forms. -/
def Forms (s : List UInt8) (fs : List Rd.F) : Prop := s.length ≤ 500 ∧ ∃ ds f, Reads ⟨s.toArray⟩ ds ∧ f + 1 ≤ 5000 ∧ Rd.pTops f ds = some fs ∧ ds.length ≤ 4000 ∧ ds ≠ []

theorem outcome_form (t : St) (txt : List UInt8) : ∃ (ka : Int) (tb : ByteArray) (wc : Int), ∀ sh, outcome t txt sh = .agg #[.int .i64 ka, .string tb, .int .i64 wc, .int .i64 t.steps, sh] := by
  unfold outcome
  by_cases hk : t.kind = 0
  · exact ⟨_, _, _, fun sh => if_pos hk⟩
  · exact ⟨_, _, _, fun sh => if_neg hk⟩

theorem RepS.slice {ok : Nat → Prop} {w : World} {sl : Value} {ds : List Rd.D} (h : RepS ok w sl ds) : ∃ a n c, sl = .slice a n c := by
  rcases h with ⟨rfl, _⟩ | ⟨g, o, cap, c, T, va, vb, vc, rfl, _⟩
  · exact ⟨_, _, _, rfl⟩
  · exact ⟨_, _, _, rfl⟩
/-- The facts behind the run that Eval makes. -/
theorem eval_ends {N : Nat → Prop} {B ob : Nat} {t : St} {txt : List UInt8} {G : List (Rd.Sym × V)} {w w1 w4 : World} {g g' : Gh} {sa : Option Addr} {sn sc : Nat} {a b c d : Value} (hM : Mach N B ob G w g) (hBw : B ≤ w.heap.size) (hB1 : Below w.heap.size w w1) (hl : w.heap.size < w1.heap.size) (h6 : w1.heap[w.heap.size]? = some zeroOut)
    (hn : Gh.Next w1 g g') (hm : MachAt (fun k => N k ∨ k = w.heap.size) g' t.G [] w4) (hk : Kept g.mut w1 w4) (ho : outcome t txt (.slice sa sn sc) = .agg #[a, b, c, d, .slice sa sn sc]) :
    w4.heap[w.heap.size]? = some zeroOut ∧ EvalR N B ob g t txt w (.returned (.tuple #[.agg #[a, b, c, d, .slice sa sn sc], .int .i64 0, .int .i64 0])) (set5 w4 w.heap.size a b c d (.slice sa sn sc)) := by
  have hm6 : ¬ g.mut w.heap.size := fun e => Nat.lt_irrefl _ (Gh.low hM.m _ e)
  have hat := hk.at hm6 h6
  refine ⟨hat, g', sa, sn, sc, by rw [ho], ⟨?_, hM.low, ?_, ?_, ?_⟩, ?_, hn.mb, hn.db, fun k e hk' => hn.mt k e (by omega)⟩
  · have hob : ob < w.heap.size := lt_of_at hM.box
    rw [set5_ne _ _ _ _ _ _ _ _ (by omega), hn.mb]
    exact hk.at hM.fix (Below.at hB1 hM.box)
  · intro e
    have hob : ob < w.heap.size := lt_of_at hM.box
    exact hM.fix (hn.mt ob e (by omega))
  · exact hm.other (by rw [set5_size]; exact Nat.le_refl _) (fun k _ hk => set5_ne _ _ _ _ _ _ _ _ (fun e => hk (Or.inr e))) (fun k e => Or.inl e)
  · intro k e
    by_cases hk' : k < w1.heap.size
    · exact hM.high k (hn.mt k e hk')
    · omega
  · have h1 : Kept g.mut w w4 := ⟨hk.os.trans hB1.os, hk.tape.trans hB1.tape, hk.output.trans hB1.output, Nat.le_trans hB1.size hk.size, fun k hk' hm' => (hk.block k (by omega) hm').trans (hB1.block k hk')⟩
    exact set5_kept h1 (k := w.heap.size) (fun e => absurd e (Nat.lt_irrefl _)) a b c d (.slice sa sn sc)

set_option maxHeartbeats 8000000 in
set_option maxRecDepth 20000 in
theorem eval17 (show_ : V → Option (List UInt8)) (HC : CallC show_) (N : Nat → Prop) (B ob : Nat) (G : List (Rd.Sym × V)) (g : Gh) (F : Nat) (hF : F ≤ 20000) (s : List UInt8) (fs : List Rd.F) (t : St) (txt : List UInt8) (w : World) (hM : Mach N B ob G w g) (hBw : B ≤ w.heap.size) (hNt : N tabBlock) (htab : TabOk w) (hs : Forms s fs) (hx : Mc.Ends F show_ (begin_ G) fs t) (hne : fs ≠ []) (hshow : t.kind = 0 → ∀ v, t.ctl = .val v → ShowsAs v txt) :
    Calls Tryz.prog 17 #[ptrV ob, .string ⟨s.toArray⟩, .int .i64 F] w (EvalR N B ob g t txt w) := by
  obtain ⟨_, ds, f, hrd, hf, hp, hdl, hdne⟩ := hs
  obtain ⟨ka, tb, wc, hout⟩ := outcome_form t txt
  have HR : Hid (∀ W, Calls Tryz.prog 24 #[.string ⟨s.toArray⟩] W fun e w' => ∃ sl, e = .returned (.tuple #[sl, .int .i64 0, .int .i64 0]) ∧ RepS (fun k => W.heap.size ≤ k) w' sl ds ∧ Below W.heap.size W w') := fun W => read_any _ ds W hrd
  have HP : Hid (∀ W sl, Below (w.alloc zeroOut).heap.size (w.alloc zeroOut) W → RepS (fun k => (w.alloc zeroOut).heap.size ≤ k) W sl ds → Calls Tryz.prog 27 #[sl] W fun e w' => ∃ ya yc, e = .returned (.tuple #[.slice (some ya) fs.length yc, .int .i64 0, .int .i64 0]) ∧ RepFs (fun k => (w.alloc zeroOut).heap.size ≤ k) w' (.slice (some ya) fs.length yc) fs ∧ Below (w.alloc zeroOut).heap.size (w.alloc zeroOut) w') := fun W sl hb h => (parse_done f W ds fs sl hf (h.mono fun k _ _ => ⟨trivial, rfl⟩) hp hdl hdne).mono fun e w' ⟨fv, he, hr, hb'⟩ => by
    obtain ⟨ya, yc, rfl, _, _⟩ := hr.shape
    exact ⟨ya, yc, he, hr.mono fun k _ hk => ⟨Nat.le_trans hb.size hk, rfl⟩, hb.trans (hb'.mono hb.size)⟩
  have hm1 := hM.m.aside zeroOut
  have hB1 : Below w.heap.size w (w.alloc zeroOut) := (Below.refl _ w).alloc (Nat.le_refl _) _
  have HRUN : Hid (∀ W fv, Below (w.alloc zeroOut).heap.size (w.alloc zeroOut) W → RepFs (fun k => (w.alloc zeroOut).heap.size ≤ k) W fv fs → Calls Tryz.prog 28 #[.pointer (some ⟨g.mb, 0, none⟩), fv, .int .i64 F] W fun e w' => ∃ g' sa sn sc, e = .returned (.agg #[.int .i64 ka, .string tb, .int .i64 wc, .int .i64 t.steps, .slice sa sn sc]) ∧ Gh.Next W g g' ∧ MachAt (fun k => N k ∨ k = w.heap.size) g' t.G [] w' ∧ Kept g.mut W w') := fun W fv hb hfv => by
    have hmW := hm1.below hb
    refine Calls.mono (R := RunR (fun k => N k ∨ k = w.heap.size) g t txt W) ?_ ?_
    rotate_left
    · rintro e w' ⟨g', sh, rfl, hn, hm, hk, _, ⟨B', ho⟩, _⟩
      obtain ⟨sa, sn, sc, rfl⟩ := owns_slice ho
      exact ⟨g', sa, sn, sc, by rw [hout], hn, hm, hk⟩
    refine run28 show_ HC _ g F hF G t txt W hmW (Or.inl hNt) ?_ fv fs (hfv.mono fun k _ hk => ⟨Gh.ok_new hm1 k hk, rfl⟩) hx hne hshow
    have hlt := htab.lt
    exact (htab.on (hB1.block _ hlt)).on (hb.block _ (by simp; omega))
  have hsz : (w.alloc zeroOut).heap.size = w.heap.size + 1 := by simp
  have h6 : (w.alloc zeroOut).heap[w.heap.size]? = some zeroOut := at_new w _
  have HE : Hid (∀ W W4 g' sa sn sc, Below (w.alloc zeroOut).heap.size (w.alloc zeroOut) W → Gh.Next W g g' → MachAt (fun k => N k ∨ k = w.heap.size) g' t.G [] W4 → Kept g.mut W W4 → W4.heap[w.heap.size]? = some zeroOut ∧ EvalR N B ob g t txt w (.returned (.tuple #[.agg #[.int .i64 ka, .string tb, .int .i64 wc, .int .i64 t.steps, .slice sa sn sc], .int .i64 0, .int .i64 0])) (set5 W4 w.heap.size (.int .i64 ka) (.string tb) (.int .i64 wc) (.int .i64 t.steps) (.slice sa sn sc))) := fun W W4 g' sa sn sc hb hn hm hk =>
    eval_ends hM hBw (hB1.trans (hb.mono (by omega))) (by have := hb.size; omega) (Below.at hb h6) hn hm hk (hout _)
  obtain ⟨q0, _⟩ := cells1 hM.box
  have hob := lt_of_at hM.box
  have HQ : Hid (∀ W, Below (w.alloc zeroOut).heap.size (w.alloc zeroOut) W → W.cell? ⟨ob, 0, none⟩ = some (.pointer (some ⟨g.mb, 0, none⟩))) := fun W hb => (Kept.of_below (hB1.trans (hb.mono (by omega))) (fun _ => False)).cell id q0
  have HOUT := (show Hid _ from hout)
  have HB1 := (show Hid _ from hB1)
  have HZ : Hid (w.alloc (.cells #[.int .i64 0, .string ⟨#[]⟩, .int .i64 0, .int .i64 0, .slice none 0 0] 34) = w.alloc zeroOut) := rfl
  clear hrd hp hM hx hshow HC hm1 hB1 hout h6 hsz htab q0
  generalize w.alloc zeroOut = w1 at *
  unfold ptrV
  go_enter Tryz.func17, Tryz.ntmps17
  go_wp2_with (first | (go_at_call 24; rw [HZ.out]; refine (HR.out _).mono ?_; rintro e2 w2 ⟨sl, rfl, hr2, hb2⟩; have HR2 := (show Hid _ from hr2); obtain ⟨xa, xn, xc, rfl⟩ := hr2.slice; clear hr2) | (go_at_call 27; refine (HP.out _ _ hb2 HR2.out).mono ?_; rintro e3 w3 ⟨ya, yc, rfl, hr3, hb13⟩; have HR3 := (show Hid _ from hr3); clear hr3; have q3 := HQ.out _ hb13) | (go_at_call 28; refine (HRUN.out _ _ hb13 HR3.out).mono ?_; rintro e4 w4 ⟨g', sa, sn, sc, rfl, hn4, hm4, hk4⟩; obtain ⟨hat4, hfin⟩ := HE.out _ _ _ sa sn sc hb13 hn4 hm4 hk4; have HFIN := (show Hid _ from hfin); clear hn4 hm4 hk4 hfin; obtain ⟨x0, x1, x2, x3, x4, d0, d1, d2, d3, d4⟩ := six_of hat4))
  have hcl := set5_at hat4 (.int .i64 ka) (.string tb) (.int .i64 wc) (.int .i64 t.steps) (.slice sa sn sc)
  have f0 := cell_of_at hcl 0
  have f1 := cell_of_at hcl 1
  have f2 := cell_of_at hcl 2
  have f3 := cell_of_at hcl 3
  have f4 := cell_of_at hcl 4
  simp only [List.getElem?_toArray, List.getElem?_cons_zero, List.getElem?_cons_succ] at f0 f1 f2 f3 f4
  have HWE : Hid (((((w4.setCell ⟨w.heap.size, 0, none⟩ (.int .i64 ka)).setCell ⟨w.heap.size, 1, none⟩ (.string tb)).setCell ⟨w.heap.size, 2, none⟩ (.int .i64 wc)).setCell ⟨w.heap.size, 3, none⟩ (.int .i64 t.steps)).setCell ⟨w.heap.size, 4, none⟩ (.slice sa sn sc) = set5 w4 w.heap.size (.int .i64 ka) (.string tb) (.int .i64 wc) (.int .i64 t.steps) (.slice sa sn sc)) := rfl
  rw [HWE.out]
  refine bodyPost_ret (v := .tuple #[.agg #[.int .i64 ka, .string tb, .int .i64 wc, .int .i64 t.steps, .slice sa sn sc], .int .i64 0, .int .i64 0]) ?_ rfl HFIN.out
  simp [results, Tryz.results17, go_sem, f0, f1, f2, f3, f4]
end Go.Proofs.YtodeeegbajgafaaGreatDoor

namespace Go.Proofs.YtodeeegbajgafaaGreatDoor
open Go.RowKit
open Mc

/-- A source was run. -/
def RunsR (N : Nat → Prop) (B ob : Nat) (g : Gh) (t : St) (txt : List UInt8) (w : World) : Ending → World → Prop := fun e w' => ∃ g' sa sn sc, e = .returned (.tuple #[outcome t txt (.slice sa sn sc), .bool true]) ∧ Mach N B ob t.G w' g' ∧ Kept g.mut w w' ∧ Gh.Next w g g'

theorem runs_ends {N : Nat → Prop} {B ob : Nat} {t : St} {txt : List UInt8} {G : List (Rd.Sym × V)} {w w2 : World} {g g' : Gh} {sa : Option Addr} {sn sc : Nat} {a b c d : Value} (hM : Mach N B ob G w g)
    (hM2 : Mach (fun k => N k ∨ k = w.heap.size) B ob t.G w2 g') (hk : Kept g.mut (w.alloc zeroOut) w2) (hn : Gh.Next (w.alloc zeroOut) g g') (ho : outcome t txt (.slice sa sn sc) = .agg #[a, b, c, d, .slice sa sn sc]) :
    w2.heap[w.heap.size]? = some zeroOut ∧ RunsR N B ob g t txt w (.returned (.tuple #[.agg #[a, b, c, d, .slice sa sn sc], .bool true])) ((set5 w2 w.heap.size a b c d (.slice sa sn sc)).alloc (.cells #[a, b, c, d, .slice sa sn sc] 34)) := by
  have hm6 : ¬ g.mut w.heap.size := fun e => Nat.lt_irrefl _ (Gh.low hM.m _ e)
  have hat := hk.at hm6 (at_new w zeroOut)
  have hob : ob < w.heap.size := lt_of_at hM.box
  have hk0 : Kept g.mut w (w.alloc zeroOut) := (Kept.refl _ w).alloc _
  refine ⟨hat, g', sa, sn, sc, by rw [ho], ⟨?_, hM.low, hM2.fix, ?_, hM2.high⟩, ?_, hn.mb, hn.db, fun k e hk' => hn.mt k e (by simp; omega)⟩
  · refine at_alloc ?_ _
    rw [set5_ne _ _ _ _ _ _ _ _ (by omega)]
    exact hM2.box
  · refine MachAt.below (hM2.m.other (by rw [set5_size]; exact Nat.le_refl _) (fun k _ hk => set5_ne _ _ _ _ _ _ _ _ (fun e => hk (Or.inr e))) (fun k e => Or.inl e)) ((Below.refl _ _).alloc (Nat.le_refl _) _)
  · exact (set5_kept (hk0.trans hk) (k := w.heap.size) (fun e => absurd e (Nat.lt_irrefl _)) a b c d (.slice sa sn sc)).alloc _

set_option maxHeartbeats 8000000 in
set_option maxRecDepth 20000 in
theorem run13 (show_ : V → Option (List UInt8)) (HC : CallC show_) (N : Nat → Prop) (B ob : Nat) (G : List (Rd.Sym × V)) (g : Gh) (s : List UInt8) (fs : List Rd.F) (t : St) (txt : List UInt8) (w : World) (hM : Mach N B ob G w g) (hBw : B ≤ w.heap.size) (hNt : N tabBlock) (htab : TabOk w) (hs : Forms s fs) (hx : Mc.Ends 20000 show_ (begin_ G) fs t) (hne : fs ≠ []) (hshow : t.kind = 0 → ∀ v, t.ctl = .val v → ShowsAs v txt) :
    Calls Tryz.prog 13 #[ptrV ob, .string ⟨s.toArray⟩] w (RunsR N B ob g t txt w) := by
  have hlen := hs.1
  have hlt := htab.lt
  have hM1 : Mach (fun k => N k ∨ k = w.heap.size) B ob G (w.alloc zeroOut) g := ⟨at_alloc hM.box _, hM.low, hM.fix, hM.m.aside zeroOut, hM.high⟩
  have HE := eval17 show_ HC _ B ob G g 20000 (Nat.le_refl _) s fs t txt (w.alloc zeroOut) hM1 (by simp; omega) (Or.inl hNt) (htab.on (Below.heap_alloc _ _ _ hlt)) hs hx hne hshow
  obtain ⟨ka, tb, wc, hout⟩ := outcome_form t txt
  have HE2 : Hid (Calls Tryz.prog 17 #[.pointer (some ⟨ob, 0, none⟩), .string ⟨s.toArray⟩, .int .i64 20000] (w.alloc zeroOut) fun e w' => ∃ sa sn sc, e = .returned (.tuple #[.agg #[.int .i64 ka, .string tb, .int .i64 wc, .int .i64 t.steps, .slice sa sn sc], .int .i64 0, .int .i64 0]) ∧ w'.heap[w.heap.size]? = some zeroOut ∧ RunsR N B ob g t txt w (.returned (.tuple #[.agg #[.int .i64 ka, .string tb, .int .i64 wc, .int .i64 t.steps, .slice sa sn sc], .bool true])) ((set5 w' w.heap.size (.int .i64 ka) (.string tb) (.int .i64 wc) (.int .i64 t.steps) (.slice sa sn sc)).alloc (.cells #[.int .i64 ka, .string tb, .int .i64 wc, .int .i64 t.steps, .slice sa sn sc] 34))) := by
    refine HE.mono ?_
    rintro e w' ⟨g', sa, sn, sc, rfl, hM2, hk, hn⟩
    obtain ⟨h1, h2⟩ := runs_ends (txt := txt) hM hM2 hk hn (hout _)
    exact ⟨sa, sn, sc, by rw [hout], h1, h2⟩
  have HZ : Hid (w.alloc (.cells #[.int .i64 0, .string ⟨#[]⟩, .int .i64 0, .int .i64 0, .slice none 0 0] 34) = w.alloc zeroOut) := rfl
  have hsz : (⟨s.toArray⟩ : ByteArray).size = s.length := by show s.toArray.size = _; simp
  have i1 : ¬ (500 : Int) < (s.length : Int) := by omega
  clear HE hs hx hshow hM hM1 htab HC hout
  generalize w.alloc zeroOut = w1 at *
  unfold ptrV
  go_enter Tryz.func13, Tryz.ntmps13
  go_wp2_with (first | (go_at_call 17; rw [HZ.out]; refine HE2.out.mono ?_; rintro e4 w4 ⟨sa, sn, sc, rfl, hat4, hfin⟩; have HFIN := (show Hid _ from hfin); have l4 := lt_of_at hat4; have n4 : w4.heap.size ≠ w.heap.size := (by omega); obtain ⟨x0, x1, x2, x3, x4, d0, d1, d2, d3, d4⟩ := six_of hat4; clear hfin))
  have hcl := set5_at hat4 (.int .i64 ka) (.string tb) (.int .i64 wc) (.int .i64 t.steps) (.slice sa sn sc)
  have hcl2 := at_alloc hcl (.cells #[.int .i64 ka, .string tb, .int .i64 wc, .int .i64 t.steps, .slice sa sn sc] 34)
  have f0 := cell_of_at hcl2 0
  have f1 := cell_of_at hcl2 1
  have f2 := cell_of_at hcl2 2
  have f3 := cell_of_at hcl2 3
  have f4 := cell_of_at hcl2 4
  simp only [List.getElem?_toArray, List.getElem?_cons_zero, List.getElem?_cons_succ] at f0 f1 f2 f3 f4
  have HWE : Hid (((((w4.setCell ⟨w.heap.size, 0, none⟩ (.int .i64 ka)).setCell ⟨w.heap.size, 1, none⟩ (.string tb)).setCell ⟨w.heap.size, 2, none⟩ (.int .i64 wc)).setCell ⟨w.heap.size, 3, none⟩ (.int .i64 t.steps)).setCell ⟨w.heap.size, 4, none⟩ (.slice sa sn sc) = set5 w4 w.heap.size (.int .i64 ka) (.string tb) (.int .i64 wc) (.int .i64 t.steps) (.slice sa sn sc)) := rfl
  rw [HWE.out]
  refine bodyPost_ret (v := .tuple #[.agg #[.int .i64 ka, .string tb, .int .i64 wc, .int .i64 t.steps, .slice sa sn sc], .bool true]) ?_ rfl HFIN.out
  simp [results, Tryz.results13, go_sem, f0, f1, f2, f3, f4]
end Go.Proofs.YtodeeegbajgafaaGreatDoor
