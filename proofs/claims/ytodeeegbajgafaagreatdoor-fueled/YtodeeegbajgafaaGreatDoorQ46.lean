/- A machine runs forms, whatever they come to. Written by gen_krunm.py. The rule of define, whatever its parts are. Written by gen_kdefine.py. A define, and any form of a source. Written by gen_ktop.py. Any form of a source. Written by gen_kparse.py. Parsing any data of a source. eq?, of any arguments. Procedures that are there: what their functions come to, whatever the arguments. -/
import Derived.Test.YtodeeegbajgafaaGreatDoorQ45
import Derived.Test.YtodeeegbajgafaaGreatDoorQ39
import Derived.Test.YtodeeegbajgafaaGreatDoorQ42
import Derived.Test.YtodeeegbajgafaaGreatDoorQ34
namespace Go.Proofs.YtodeeegbajgafaaGreatDoor
namespace Kc
open Go.RowKit
/-- A run that begins. -/
def begin_ (G : List (Rd.Sym × V)) (C : List (List V)) : St := { ctl := .val (.atom .empty), todo := [], beyond := [], steps := 0, kind := 0, why := 0, G := G, sc := C, shown := [] }
/-- What it came to, steps and all. -/
def outcomeK (t : St) (em : Bool) (sh : Value) : Value := .agg #[.int .i64 (outK t em).1, .string ⟨(outK t em).2.1.toArray⟩, .int .i64 (outK t em).2.2, .int .i64 t.steps, sh]
/-- The machine with nothing shown. -/
def Gh.hush (g : Gh) : Gh := { g with sh := .slice none 0 0 }
theorem Gh.hush_mut {g : Gh} {k : Nat} (h : g.hush.mut k) : g.mut k := by
  rcases h with h | h | h | h | h
  · exact Or.inl h
  · exact Or.inr (Or.inl h)
  · exact Or.inr (Or.inr (Or.inl h))
  · cases h
  · exact Or.inr (Or.inr (Or.inr (Or.inr h)))
/-- What a machine's run came to, and the machine behind it. -/
def RunR (N : Nat → Prop) (g : Gh) (t : St) (em : Bool) (w : World) : Ending → World → Prop := fun e w' => ∃ g' sh, e = .returned (outcomeK t em sh) ∧ Gh.Next w g g' ∧ MachAt N g' t.G t.sc [] w' ∧ Kept g.mut w w' ∧ g'.sh = .slice none 0 0 ∧ (∃ B, w'.ownsRow B 9 1 sh t.shown.length (t.shown.map strV)) ∧ ∀ k, sh.ownBlock = some k → ¬ g'.mut k ∧ ¬ N k
theorem begins (N : Nat → Prop) (g : Gh) (G : List (Rd.Sym × V)) (C : List (List V)) (w : World) (h : MachAt N g G C [] w) (F : Nat) (hF : F ≤ 20000) :
    RunAt0 (fun k => N k ∨ w.heap.size ≤ k ∧ k ≤ w.heap.size + 1) g (w.heap.size + 1) F (begin_ G C) ((w.alloc zeroOut).alloc (newRun g.mb F)) := by
  have hB : Below w.heap.size w ((w.alloc zeroOut).alloc (newRun g.mb F)) := ((Below.refl _ w).alloc (Nat.le_refl _) _).alloc (by simp) _
  refine ⟨Or.inr ⟨by omega, Nat.le_refl _⟩, h.kept (fun k hm => hB.block k (Gh.low h k hm)) (fun k hk ho => ⟨⟨fun e => ?_, ho.2⟩, hB.block k hk⟩) ?_ ?_, ⟨103, .nilIface, .pointer none, .nilIface, .pointer none, .pointer none, ?_, .todo0, rfl⟩, Nat.zero_le _, by omega⟩
  · rcases e with e | e
    · exact ho.1 e
    · omega
  · rintro k (e | e)
    · have := h.low k e; simp; omega
    · simp; omega
  · rintro k hm (e | e)
    · exact h.disj k hm e
    · have := Gh.low h k hm; omega
  · have := at_new (w.alloc zeroOut) (newRun g.mb F)
    simpa [runCells, begin_, newRun] using this
/-- What is read of the machine and the run behind a run. -/
theorem behind_all {N : Nat → Prop} {g g2 : Gh} {rb F : Nat} {t : St} {w2 : World} (hr : RunAt0 N g2 rb F t w2) (hmb : g2.mb = g.mb) : ∃ sa sn sc, g2.sh = .slice sa sn sc ∧ w2.cell? ⟨rb, 2, none⟩ = some (.int .i64 t.steps) ∧ w2.cell? ⟨g.mb, 1, none⟩ = some (.slice sa sn sc) ∧ w2.frozen? ⟨g.mb, 1, none⟩ = false := by
  obtain ⟨B, ho⟩ := hr.m.own
  obtain ⟨sa, sn, sc, hsh⟩ := owns_slice ho
  obtain ⟨T, hm⟩ := hr.m.mach
  rw [hmb, hsh] at hm
  obtain ⟨_, c1, _, f1⟩ := cells2 hm
  exact ⟨sa, sn, sc, hsh, hr.cells.2.2, c1, f1⟩
/-- What lies behind a run of forms. -/
structure Beh (N : Nat → Prop) (g : Gh) (F : Nat) (t : St) (w w0 w2 : World) (sa : Option Addr) (sn sc : Nat) : Prop where
  y2 : w2.cell? ⟨w.heap.size + 1, 2, none⟩ = some (.int .i64 t.steps)
  y1 : w2.cell? ⟨g.mb, 1, none⟩ = some (.slice sa sn sc)
  z1 : w2.frozen? ⟨g.mb, 1, none⟩ = false
  l1 : w.heap.size < w2.heap.size
  l2 : w.heap.size + 1 < w2.heap.size
  l3 : g.mb < w2.heap.size
  at6 : w2.heap[w.heap.size]? = some zeroOut
  all : ∃ g2, g2.sh = .slice sa sn sc ∧ Gh.Next w0 g g2 ∧ RunAt0 (fun k => N k ∨ w.heap.size ≤ k ∧ k ≤ w.heap.size + 1) g2 (w.heap.size + 1) F t w2 ∧ Kept (RM g (w.heap.size + 1)) w0 w2
theorem beh_of {N : Nat → Prop} {g : Gh} {F : Nat} {t : St} {w w0 w2 : World} (b6 : w0.heap[w.heap.size]? = some zeroOut) (hm1 : ¬ RM g (w.heap.size + 1) w.heap.size) (h : ∃ g2, Gh.Next w0 g g2 ∧ RunAt0 (fun k => N k ∨ w.heap.size ≤ k ∧ k ≤ w.heap.size + 1) g2 (w.heap.size + 1) F t w2 ∧ Kept (RM g (w.heap.size + 1)) w0 w2) : ∃ sa sn sc, Beh N g F t w w0 w2 sa sn sc := by
  obtain ⟨g2, hn, hr, hk⟩ := h
  obtain ⟨sa, sn, sc, hsh, y2, y1, z1⟩ := behind_all hr hn.mb
  have hat := hk.at hm1 b6
  exact ⟨sa, sn, sc, y2, y1, z1, lt_of_at hat, World.block_lt_of_cell? w2 _ y2, World.block_lt_of_cell? w2 _ y1, hat, g2, hsh, hn, hr, hk⟩
/-- The machine once what was shown has been given away. -/
theorem MachAt.hush {N N' : Nat → Prop} {g : Gh} {G : List (Rd.Sym × V)} {sc : List (List V)} {shown : List (List UInt8)} {w w' : World} {b6 : Nat} (h : MachAt N g G sc shown w) (hs : w.heap.size ≤ w'.heap.size) (hw : ∀ k, k < w.heap.size → k ≠ g.mb → k ≠ b6 → w'.heap[k]? = w.heap[k]?) (hm : ∃ T, w'.heap[g.mb]? = some (.cells #[.map (some g.db), .slice none 0 0] T (0, 0))) (hb : N b6) (hN : ∀ k, N' k → N k) :
    MachAt N' g.hush G sc [] w' ∧ (∃ B, w'.ownsRow B 9 1 g.sh shown.length (shown.map strV)) ∧ ∀ k, g.sh.ownBlock = some k → ¬ g.hush.mut k ∧ ¬ N' k := by
  have hmb6 : ∀ k, g.mut k → k ≠ b6 := fun k hk e => h.disj k hk (e ▸ hb)
  have hok : ∀ k, k < w.heap.size → g.ok N k → g.hush.ok N' k ∧ w'.heap[k]? = w.heap[k]? := fun k hk ho => ⟨⟨fun e => ho.1 (hN k e), fun e => ho.2 (Gh.hush_mut e)⟩, hw k hk (fun e => ho.2 (Or.inl e)) (fun e => ho.1 (e ▸ hb))⟩
  obtain ⟨_, ⟨es, c, h2, h3⟩, h4, h5, ⟨B, h6⟩, h7, h8, ⟨s1, s2⟩, s3, h9, h10⟩ := h
  have hdb : g.db < w.heap.size := lt_of_at h2
  refine ⟨⟨hm, ⟨es, c, (hw _ hdb (Ne.symm h7.1) (hmb6 _ (Or.inr (Or.inl rfl)))).trans h2, h3⟩, h4, ?_, ⟨0, rfl, Or.inl ⟨rfl, rfl⟩⟩, h7, (fun k e => by cases e), ⟨s1, fun i sv vs e1 e2 => (s2 i sv vs e1 e2).mono rfl (fun _ _ h => h) (fun k hk => hw k ((s2 i sv vs e1 e2).lt hk) (s3 i sv k e1 hk).1 (hmb6 k (Or.inr (Or.inr (Or.inr (Or.inr ⟨sv, List.mem_of_getElem? e1, hk⟩)))))) hok⟩, (fun i sv k e1 hk => ⟨(s3 i sv k e1 hk).1, (s3 i sv k e1 hk).2.1, (s3 i sv k e1 hk).2.2.1, (fun e => by cases e), (s3 i sv k e1 hk).2.2.2.2⟩), fun k e => Nat.lt_of_lt_of_le (h9 k (hN k e)) hs, fun k hk e => h10 k (Gh.hush_mut hk) (hN k e)⟩, ⟨B, ?_⟩, ?_⟩
  · intro i hi
    obtain ⟨b, x, T, e1, e2, e3⟩ := h5 i hi
    have hbx : b ∈ g.xs := List.mem_of_getElem? e1
    exact ⟨b, x, T, e1, (hw b (lt_of_at e2) (fun e => h7.2.1 (e ▸ hbx)) (hmb6 b (Or.inr (Or.inr (Or.inl hbx))))).trans e2, e3.mono hok⟩
  · obtain ⟨a, b | ⟨gb, cap, cur, hv, hB, hh, r⟩⟩ := h6
    · exact ⟨a, Or.inl b⟩
    · have hgb : g.sh.ownBlock = some gb := by rw [hv]; rfl
      exact ⟨a, Or.inr ⟨gb, cap, cur, hv, hB, (hw gb (lt_of_at hh) (h8 gb hgb).1 (hmb6 gb (Or.inr (Or.inr (Or.inr (Or.inl hgb)))))).trans hh, r⟩⟩
  · intro k hk
    obtain ⟨e1, e2, e3⟩ := h8 k hk
    refine ⟨?_, fun e => h10 k (Or.inr (Or.inr (Or.inr (Or.inl hk)))) (hN k e)⟩
    rintro (e | e | e | e | ⟨sv, hsv, e⟩)
    · exact e1 e
    · exact e2 e
    · exact e3 e
    · cases e
    · obtain ⟨i, hi, rfl⟩ := List.getElem_of_mem hsv
      exact (s3 i _ k (List.getElem?_eq_getElem hi) e).2.2.2.1 hk
theorem run_ends {G' : List (Rd.Sym × V)} {C' : List (List V)} {S' : List (List UInt8)} {N : Nat → Prop} {g : Gh} {F : Nat} {t : St} {em : Bool} {w w0 w2 : World} {sa : Option Addr} {sn sc : Nat} {a b c d : Value} (h : MachAt N g G' C' S' w) (hB : Below w.heap.size w w0) (hbeh : Beh N g F t w w0 w2 sa sn sc) (ho : outcomeK t em (.slice sa sn sc) = .agg #[a, b, c, d, .slice sa sn sc]) :
    RunR N g t em w (.returned (.agg #[a, b, c, d, .slice sa sn sc])) (runEnd w2 g.mb w.heap.size a b c d (.slice sa sn sc)) ∧ (runEnd w2 g.mb w.heap.size a b c d (.slice sa sn sc)).heap[w.heap.size]? = some (.cells #[a, b, c, d, .slice sa sn sc] 34 (0, 0)) := by
  obtain ⟨g2, hsh, hn, hr, hk⟩ := hbeh.all
  have hmlt : g.mb < w.heap.size := Gh.low h _ (Or.inl rfl)
  have l1 := hbeh.l1
  have hat : (w2.setCell ⟨g.mb, 1, none⟩ (.slice none 0 0)).heap[w.heap.size]? = some zeroOut := at_setCell_ne hbeh.at6 _ (by simp; omega) _
  have hfin := set5_at hat a b c d (.slice sa sn sc)
  have hsz : (runEnd w2 g.mb w.heap.size a b c d (.slice sa sn sc)).heap.size = w2.heap.size + 1 := by simp [runEnd, set5]
  have hw : ∀ k, k < w2.heap.size → k ≠ g.mb → k ≠ w.heap.size → (runEnd w2 g.mb w.heap.size a b c d (.slice sa sn sc)).heap[k]? = w2.heap[k]? := fun k hk h1 h2 => by
    unfold runEnd
    rw [Below.heap_alloc _ _ _ (by rw [set5_size]; simpa using hk), set5_ne _ _ _ _ _ _ _ _ h2, Below.heap_setCell _ _ _ _ h1]
  obtain ⟨T, hma⟩ := hr.m.mach
  rw [hn.mb, hsh] at hma
  have hmm : (runEnd w2 g.mb w.heap.size a b c d (.slice sa sn sc)).heap[g2.mb]? = some (.cells #[.map (some g2.db), .slice none 0 0] T (0, 0)) := by
    rw [hn.mb]
    unfold runEnd
    refine at_alloc ?_ _
    rw [set5_ne _ _ _ _ _ _ _ _ (by omega), at_setCell hma 1 _]
    simp
  have hmt := hr.m.hush (N' := N) (b6 := w.heap.size) (by rw [hsz]; omega) (fun k hk h1 h2 => hw k hk (by rw [← hn.mb]; exact h1) h2) ⟨T, hmm⟩ (Or.inr ⟨Nat.le_refl _, by omega⟩) (fun k e => Or.inl e)
  refine ⟨⟨g2.hush, .slice sa sn sc, by rw [ho], ⟨hn.mb, hn.db, hn.sp, fun k e hk' => hn.mt k (Gh.hush_mut e) (Nat.lt_of_lt_of_le hk' hB.size)⟩, hmt.1, ?_, rfl, ?_, ?_⟩, at_alloc hfin _⟩
  · have h1 : Kept g.mut w w2 := ⟨hk.os.trans hB.os, hk.tape.trans hB.tape, hk.output.trans hB.output, by omega, fun k hk' hm => (hk.block k (Nat.lt_of_lt_of_le hk' hB.size) (fun e => by
      rcases e with e | e
      · omega
      · exact hm e)).trans (hB.block k hk')⟩
    have h2 := h1.setCell (p := ⟨g.mb, 1, none⟩) (fun _ => Or.inl rfl) (.slice none 0 0)
    have h3 := set5_kept h2 (k := w.heap.size) (fun e => absurd e (Nat.lt_irrefl _)) a b c d (.slice sa sn sc)
    unfold runEnd
    exact h3.alloc (.cells #[a, b, c, d, .slice sa sn sc] 34)
  · have e := hmt.2.1
    rw [hsh] at e
    exact e
  · intro k hk
    exact hmt.2.2 k (by rw [hsh]; exact hk)
set_option maxHeartbeats 8000000 in
set_option maxRecDepth 20000 in
theorem run_K (HC : CallC) (N : Nat → Prop) (g : Gh) (F : Nat) (hF : F ≤ 20000) (G : List (Rd.Sym × V)) (C : List (List V)) (t : St) (w : World) (h : MachAt N g G C [] w) (hNt : ¬ g.mut tabBlock) (htab : TabOk w) (sl : Value) (fs : List Rd.F) (hs : RepFs (g.ok N) w sl fs) (hx : EndsI F (begin_ G C) fs t) :
    Calls Tryz.prog 28 #[ptrV g.mb, sl, .int .i64 F] w (RunR N g t fs.isEmpty w) := by
  have hB : Below w.heap.size w ((w.alloc zeroOut).alloc (newRun g.mb F)) := ((Below.refl _ w).alloc (Nat.le_refl _) _).alloc (by simp) _
  have h0 := begins N g G C w h F hF
  have hs0 : RepFs (g.ok (fun k => N k ∨ w.heap.size ≤ k ∧ k ≤ w.heap.size + 1)) ((w.alloc zeroOut).alloc (newRun g.mb F)) sl fs := hs.mono fun k hk ho => ⟨⟨fun e => by rcases e with e | e; exact ho.1 e; omega, ho.2⟩, hB.block k hk⟩
  have htl := htab.lt
  have HA := all_K HC _ g (w.heap.size + 1) F (begin_ G C) t _ h0 sl fs hs0 rfl hx (fun W hW => by
    have hW' : TabOk W := (htab.on (hB.block _ htl)).kept hW (fun e => by
      rcases e with e | e
      · omega
      · exact hNt e)
    exact hW'.tab (hW'.lt))
  have b6 : ((w.alloc zeroOut).alloc (newRun g.mb F)).heap[w.heap.size]? = some zeroOut := at_alloc (at_new w _) _
  have hsz : ((w.alloc zeroOut).alloc (newRun g.mb F)).heap.size = w.heap.size + 2 := by simp
  obtain ⟨ga, cap, rfl, _, _⟩ := hs.shape
  have i1 : ¬ (F : Int) < 0 := by omega
  have i2 : (F : Int) ≤ 20000 := by omega
  obtain ⟨ka, tb, wc, hout, hout'⟩ : ∃ (ka : Int) (tb : ByteArray) (wc : Int), aggK (outK t fs.isEmpty) = .agg #[.int .i64 ka, .string tb, .int .i64 wc, .int .i64 0, .slice none 0 0] ∧ ∀ sh, outcomeK t fs.isEmpty sh = .agg #[.int .i64 ka, .string tb, .int .i64 wc, .int .i64 t.steps, sh] := by
    exact ⟨_, _, _, rfl, fun sh => rfl⟩
  have hmin : min (F : Int) 20000 = F := by omega
  unfold AllRK at HA
  rw [hout] at HA
  have HO := (show Hid _ from hout')
  have HH := (show Hid _ from h)
  have HB := (show Hid _ from hB)
  have hm1 : ¬ RM g (w.heap.size + 1) w.heap.size := fun e => by
    rcases e with e | e
    · omega
    · have := Gh.low h _ e; omega
  have hmlt : g.mb < w.heap.size := Gh.low h _ (Or.inl rfl)
  have hmn1 : ¬ g.mb = w.heap.size := by omega
  have hmn2 : ¬ g.mb = w.heap.size + 1 := by omega
  have hmn3 : ¬ w.heap.size = g.mb := by omega
  have HK : Hid (∀ w2, (∃ g2, Gh.Next ((w.alloc zeroOut).alloc (newRun g.mb F)) g g2 ∧ RunAt0 (fun k => N k ∨ w.heap.size ≤ k ∧ k ≤ w.heap.size + 1) g2 (w.heap.size + 1) F t w2 ∧ Kept (RM g (w.heap.size + 1)) ((w.alloc zeroOut).alloc (newRun g.mb F)) w2) → ∃ sa sn sc, Beh N g F t w ((w.alloc zeroOut).alloc (newRun g.mb F)) w2 sa sn sc) := fun w2 hk => beh_of b6 hm1 hk
  have HU : Hid (zeroOut = .cells #[.int .i64 0, .string ⟨#[]⟩, .int .i64 0, .int .i64 0, .slice none 0 0] 34) := rfl
  unfold newRun ptrV at *
  clear hx hs hs0 htab hout hout' h h0 b6 hsz hB HC
  generalize hW : ((w.alloc zeroOut).alloc (Obj.cells #[Value.pointer (some { block := g.mb, off := 0 }), Value.int IntKind.i64 F, Value.int IntKind.i64 0, Value.nilIface, Value.pointer none, Value.nilIface, Value.pointer none, Value.pointer none, Value.int IntKind.i64 0, Value.int IntKind.i64 0] 103)) = W0 at *
  have HW := (show Hid _ from hW)
  rw [HU.out] at HW
  clear hW
  go_enter Tryz.func28, Tryz.ntmps28
  go_wp2_with (first | (go_at_call 37; rw [HW.out]; refine HA.mono ?_; rintro e2 w2 ⟨rfl, hh2⟩; obtain ⟨sa, sn, sc, hbeh⟩ := HK.out _ hh2; have HBEH := (show Hid _ from hbeh); obtain ⟨y2, y1, z1, l1, l2, l3, at6, hall⟩ := hbeh; have HALL := (show Hid _ from hall); have HAT := (show Hid _ from at6); clear hall hh2; obtain ⟨x0, x1, x2, x3, x4, d0, d1, d2, d3, d4⟩ := six_of at6; clear at6; have n1 : w2.heap.size ≠ w.heap.size + 1 := (by omega); have n2 : w2.heap.size ≠ g.mb := (by omega); have n3 : w2.heap.size ≠ w.heap.size := (by omega)))
  obtain ⟨hRR, hcl⟩ := run_ends HH.out HB.out HBEH.out (HO.out _)
  have HRR := (show Hid _ from hRR)
  have f0 := cell_of_at hcl 0
  have f1 := cell_of_at hcl 1
  have f2 := cell_of_at hcl 2
  have f3 := cell_of_at hcl 3
  have f4 := cell_of_at hcl 4
  simp only [List.getElem?_toArray, List.getElem?_cons_zero, List.getElem?_cons_succ] at f0 f1 f2 f3 f4
  have HWE : Hid (((((((w2.setCell ⟨g.mb, 1, none⟩ (.slice none 0 0)).setCell ⟨w.heap.size, 0, none⟩ (.int .i64 ka)).setCell ⟨w.heap.size, 1, none⟩ (.string tb)).setCell ⟨w.heap.size, 2, none⟩ (.int .i64 wc)).setCell ⟨w.heap.size, 3, none⟩ (.int .i64 t.steps)).setCell ⟨w.heap.size, 4, none⟩ (.slice sa sn sc)).alloc (.cells #[.int .i64 ka, .string tb, .int .i64 wc, .int .i64 t.steps, .slice sa sn sc] 34) = runEnd w2 g.mb w.heap.size (.int .i64 ka) (.string tb) (.int .i64 wc) (.int .i64 t.steps) (.slice sa sn sc)) := rfl
  rw [HWE.out]
  refine bodyPost_ret (v := .agg #[.int .i64 ka, .string tb, .int .i64 wc, .int .i64 t.steps, .slice sa sn sc]) ?_ rfl HRR.out
  simp [results, Tryz.results28, go_sem, f0, f1, f2, f3, f4]
end Kc
end Go.Proofs.YtodeeegbajgafaaGreatDoor

namespace Go.Proofs.YtodeeegbajgafaaGreatDoor
open Go.RowKit
/-- What making a form of a source does. -/
def RuleT (pb sb kb : Nat) (env : List (List Rd.Sym)) (fl : Option Nat) (fv : Value) (n m : Nat) (w : World) (r : Rd.PR Rd.F) (e : Ending) (w' : World) : Prop :=
  ∃ v fv' n', e = .returned v ∧ isI v ∧ (∀ x, r = .ok x → RepF (NewOk w fv') w' v x) ∧ PAtK pb sb kb env (flOr fl r) fv' n' w' ∧ n' ≤ n + m ∧ Kept (PMK pb sb fv) w w' ∧ NewF w fv fv'
theorem RuleK.top {pb sb kb : Nat} {env : List (List Rd.Sym)} {fl : Option Nat} {fv : Value} {n m : Nat} {w w' : World} {r : Rd.PR Rd.F} {e : Ending} (h : RuleK pb sb kb env fl fv n m w r e w') : RuleT pb sb kb env fl fv n m w r e w' := by
  obtain ⟨v, fv', n', h1, h2, h3⟩ := h
  exact ⟨v, fv', n', h1, h2.isI, h3⟩
theorem RuleT.from {pb sb kb : Nat} {env : List (List Rd.Sym)} {fl : Option Nat} {fv : Value} {n m : Nat} {w W w' : World} {r : Rd.PR Rd.F} {e : Ending} (hb : Below w.heap.size w W) (h : RuleT pb sb kb env fl fv n m W r e w') : RuleT pb sb kb env fl fv n m w r e w' := by
  obtain ⟨v, fv', n', h1, h2, h3, h4, h5, h6, h7⟩ := h
  exact ⟨v, fv', n', h1, h2, fun x hx => NewOk.of hb (h3 x hx), h4, h5, h6.below_then hb, h7.below hb⟩
/-- A define of what a rule made. -/
theorem RuleT.define {pb sb kb : Nat} {env : List (List Rd.Sym)} {fl : Option Nat} {fv : Value} {n m : Nat} {w W w' : World} {r R : Rd.PR Rd.F} {v : Value} {nm : Rd.Sym} (hb : Below w.heap.size w W) (h : RuleK pb sb kb env fl fv n m W r (.returned v) w') (hfl : flOr fl R = flOr fl r) (hok : ∀ x, R = .ok x → ∃ y, r = .ok y ∧ x = .define nm y) : RuleT pb sb kb env fl fv n m w R (.returned (.iface 187 (.agg #[symV nm, v]))) w' := by
  obtain ⟨v', fv', n', h1, h2, h3, h4, h5, h6, h7⟩ := h
  cases h1
  refine ⟨_, fv', n', rfl, .inr ⟨_, _, rfl⟩, fun x hx => ?_, by rw [hfl]; exact h4, h5, h6.below_then hb, h7.below hb⟩
  obtain ⟨y, hy, rfl⟩ := hok x hx
  exact .define nm _ _ (NewOk.of hb (h3 y hy))
theorem Shp.either (r : Rd.PR Rd.F) : (∀ v, Shp r v → v = .nilIface) ∨ (∀ v, Shp r v → ∃ t x, v = .iface t x) := by
  cases r with
  | no p => exact .inl fun v h => h
  | ok x => exact .inr fun v h => h
  | bad p => exact .inr fun v h => h
set_option maxHeartbeats 2000000 in
set_option maxRecDepth 10000 in
theorem defineProc_k (f : Nat) (HF : FormsCK f) (pb sb kb : Nat) (env : List (List Rd.Sym)) (fl : Option Nat) (fv : Value) (n m : Nat) (w : World) (p : Nat) (g o cap : Nat) (d0 nm : Rd.D) (q : Nat) (en : Rd.A) (rest ps : List Rd.D) (hp : PAtK pb sb kb env fl fv n w)
    (hs : RepS (fun k => ¬ PMK pb sb fv k) w (.slice (some ⟨g, o, none⟩) (rest.length + 2) cap) (d0 :: .mk q (nm :: ps) en :: rest)) (hpl : ps.length ≤ 4000) (hrl : rest.length ≤ 4000) (hf2 : 2 * Rd.kzL rest + 1 ≤ f) (hf : env.length + 1 + f ≤ 5000) (hnz : n + m ≤ 4000) (hm : Rd.kzL rest + 1 ≤ m) (hr : rest ≠ []) (R : Rd.PR Rd.F)
    (hno : nm.name = none → R = .no p) (hdot : en.isEmpty = false → R = .no p) (R1 : Rd.PR Rd.F) (hnone : Rd.namesK ps [] = none → R1 = .no p) (hsome : ∀ ns, Rd.namesK ps [] = some ns → R1 = (Rd.kForms f (ns :: env) rest).map (.lam ns.length ·)) (hfl : ∀ x, nm.name = some x → en.isEmpty = true → flOr fl R = flOr fl R1) (hok : ∀ x, nm.name = some x → en.isEmpty = true → ∀ y, R = .ok y → ∃ z, R1 = .ok z ∧ y = .define x z) :
    Calls Tryz.prog 108 #[.pointer (some ⟨pb, 0, none⟩), lsV p g o (rest.length + 2) cap] w (RuleT pb sb kb env fl fv n m w R) := by
  have hlr : 0 < rest.length := List.length_pos_iff.2 hr
  have hcap := hs.len.2
  simp only [List.length_cons] at hcap
  have hB := box_below w (.cells #[.int .i64 p, .slice (some ⟨g, o, none⟩) (rest.length + 2) cap, .iface 146 (.agg #[])] 62)
  have hs2 := hs.mono (ok' := fun k => ¬ PMK pb sb fv k) (w' := (w.alloc (.cells #[.int .i64 p, .slice (some ⟨g, o, none⟩) (rest.length + 2) cap, .iface 146 (.agg #[])] 62))) (fun k hk h => ⟨h, Below.heap_alloc _ _ _ hk⟩)
  obtain ⟨po, pc, e0, e1, e2, hokg, hps⟩ := hs2.listAt 1 (by simp) (p := q) (ps := nm :: ps) (en := en) rfl
  obtain ⟨ti, xv, hav⟩ : ∃ t x, aV en = .iface t x := by cases en <;> exact ⟨_, _, rfl⟩
  rw [hav] at e2
  simp only [Nat.mul_one, List.length_cons] at e0 e1 e2 hps
  obtain ⟨gh, oh, rfl⟩ : ∃ gh oh, po = some ⟨gh, oh, none⟩ := by
    rcases hps with ⟨h, _⟩ | ⟨g', o', cap', c, T, va, vb, vc, h, _⟩
    · simp at h
    · simp only [Value.slice.injEq] at h; exact ⟨_, _, h.1⟩
  have hpc := hps.len.2
  simp only [List.length_cons] at hpc
  have hpc4 : ∃ gh' oh' cap' pp po pn pc2 ti xv, Value.slice (some ⟨gh, oh, none⟩) (ps.length + 1) pc = .slice (some ⟨gh', oh', none⟩) (nm :: ps).length cap' ∧ (¬ PMK pb sb fv gh') ∧ (nm :: ps).length ≤ cap' ∧ (w.alloc (.cells #[.int .i64 p, .slice (some ⟨g, o, none⟩) (rest.length + 2) cap, .iface 146 (.agg #[])] 62)).cell? ⟨gh', oh' + 3 * 0, none⟩ = some (.int .i64 pp) ∧ (w.alloc (.cells #[.int .i64 p, .slice (some ⟨g, o, none⟩) (rest.length + 2) cap, .iface 146 (.agg #[])] 62)).cell? ⟨gh', oh' + 3 * 0 + 1, none⟩ = some (.slice po pn pc2) ∧ (w.alloc (.cells #[.int .i64 p, .slice (some ⟨g, o, none⟩) (rest.length + 2) cap, .iface 146 (.agg #[])] 62)).cell? ⟨gh', oh' + 3 * 0 + 2, none⟩ = some (.iface ti xv) ∧ RepD (fun k => ¬ PMK pb sb fv k) (w.alloc (.cells #[.int .i64 p, .slice (some ⟨g, o, none⟩) (rest.length + 2) cap, .iface 146 (.agg #[])] 62)) (.agg #[.int .i64 pp, .slice po pn pc2, .iface ti xv]) (nm :: ps)[0] := hps.cells 0 (by simp)
  obtain ⟨gh', oh', cap', pp, pno, pnn, pnc, tin, xvn, heq, hokh, -, a0, a1, a2, hrepn⟩ := hpc4
  simp only [Value.slice.injEq, Option.some.injEq, Addr.mk.injEq, and_true] at heq
  obtain ⟨⟨rfl, rfl⟩, -, rfl⟩ := heq
  simp only [Nat.mul_zero, Nat.add_zero, List.getElem_cons_zero] at a0 a1 a2 hrepn
  have hal : Below (w.alloc (.cells #[.int .i64 p, .slice (some ⟨g, o, none⟩) (rest.length + 2) cap, .iface 146 (.agg #[])] 62)).heap.size (w.alloc (.cells #[.int .i64 p, .slice (some ⟨g, o, none⟩) (rest.length + 2) cap, .iface 146 (.agg #[])] 62)) ((w.alloc (.cells #[.int .i64 p, .slice (some ⟨g, o, none⟩) (rest.length + 2) cap, .iface 146 (.agg #[])] 62)).alloc (.cells #[.int .i64 q, .slice (some ⟨gh, oh, none⟩) (ps.length + 1) pc, .iface ti xv] 62)) := (Below.refl _ _).alloc (Nat.le_refl _) _
  have hkal := Kept.of_below hal (fun _ => False)
  have m0 := hkal.cell id a0
  have m1 := hkal.cell id a1
  have m2 := hkal.cell id a2
  have hB2 : Below w.heap.size w ((w.alloc (.cells #[.int .i64 p, .slice (some ⟨g, o, none⟩) (rest.length + 2) cap, .iface 146 (.agg #[])] 62)).alloc (.cells #[.int .i64 q, .slice (some ⟨gh, oh, none⟩) (ps.length + 1) pc, .iface ti xv] 62)) := hB.trans (hal.mono (by simp))
  have hNM := nameOf_d fv pb sb kb env _ nm _ _ (hp.kept hB2).par (hrepn.mono (ok' := fun _ => True) (w' := ((w.alloc (.cells #[.int .i64 p, .slice (some ⟨g, o, none⟩) (rest.length + 2) cap, .iface 146 (.agg #[])] 62)).alloc (.cells #[.int .i64 q, .slice (some ⟨gh, oh, none⟩) (ps.length + 1) pc, .iface ti xv] 62))) fun k hk _ => ⟨trivial, hal.block k hk⟩)
  have hBW : ∀ W, Below ((w.alloc (.cells #[.int .i64 p, .slice (some ⟨g, o, none⟩) (rest.length + 2) cap, .iface 146 (.agg #[])] 62)).alloc (.cells #[.int .i64 q, .slice (some ⟨gh, oh, none⟩) (ps.length + 1) pc, .iface ti xv] 62)).heap.size ((w.alloc (.cells #[.int .i64 p, .slice (some ⟨g, o, none⟩) (rest.length + 2) cap, .iface 146 (.agg #[])] 62)).alloc (.cells #[.int .i64 q, .slice (some ⟨gh, oh, none⟩) (ps.length + 1) pc, .iface ti xv] 62)) W → Below w.heap.size w W := fun W hW => hB2.trans (hW.mono (by simp; omega))
  have HBW := (show Hid _ from hBW)
  have hnb := notPMK hp (Nat.le_refl w.heap.size)
  have hnb2 := notPMK hp (Nat.le_succ w.heap.size)
  have HREF : Hid (∀ W, Below w.heap.size w W → Calls Tryz.prog 59 #[.pointer (some ⟨pb, 0, none⟩), .agg #[.int .i64 p, .slice (some ⟨g, o, none⟩) (rest.length + 2) cap, .iface 146 (.agg #[])]] W fun e w' => e = .returned .nilIface ∧ RuleT pb sb kb env fl fv n m w (.no p) e w') := fun W hW => (refuse_d pb sb kb env fl fv n m w p _ _ _ _ _ hp hnz (by omega) W hW).mono fun e w' h => ⟨h.1, h.2.top⟩
  have HI : Hid (∀ W, Calls Tryz.prog 60 #[.agg #[.int .i64 q, .slice (some ⟨gh, oh, none⟩) (ps.length + 1) pc, .iface ti xv]] W fun e w' => e = .returned (.bool en.isEmpty) ∧ Below W.heap.size W w') := fun W => by rw [← hav]; exact isList_any q _ (ps.length + 1) pc en W
  have hps3 : RepS (fun k => ¬ PMK pb sb fv k) (w.alloc (.cells #[.int .i64 p, .slice (some ⟨g, o, none⟩) (rest.length + 2) cap, .iface 146 (.agg #[])] 62)) (.slice (some ⟨gh, oh + 3, none⟩) ps.length (pc - 1)) ps := by
    have := hps.drop 1 (by simp)
    simpa using this
  cases hnm : nm.name with
  | none =>
    rw [hno hnm]
    rw [hnm] at hNM
    have HNM : Hid (Calls Tryz.prog 105 #[.pointer (some ⟨pb, 0, none⟩), .agg #[.int .i64 pp, .slice pno pnn pnc, .iface tin xvn]] ((w.alloc (.cells #[.int .i64 p, .slice (some ⟨g, o, none⟩) (rest.length + 2) cap, .iface 146 (.agg #[])] 62)).alloc (.cells #[.int .i64 q, .slice (some ⟨gh, oh, none⟩) (ps.length + 1) pc, .iface ti xv] 62)) fun e w' => ∃ t, e = .returned (.tuple #[.string t, .bool false]) ∧ Below ((w.alloc (.cells #[.int .i64 p, .slice (some ⟨g, o, none⟩) (rest.length + 2) cap, .iface 146 (.agg #[])] 62)).alloc (.cells #[.int .i64 q, .slice (some ⟨gh, oh, none⟩) (ps.length + 1) pc, .iface ti xv] 62)).heap.size ((w.alloc (.cells #[.int .i64 p, .slice (some ⟨g, o, none⟩) (rest.length + 2) cap, .iface 146 (.agg #[])] 62)).alloc (.cells #[.int .i64 q, .slice (some ⟨gh, oh, none⟩) (ps.length + 1) pc, .iface ti xv] 62)) w') := hNM.mono fun e w' ⟨t, h1, _, h2⟩ => ⟨t, h1, h2⟩
    clear hp hs HF hno hdot hnone hsome hfl hok hs2 hps hps3 hNM hnm hrepn hav HI hkal hBW hal hB hB2
    unfold lsV
    go_enter Tryz.func108, Tryz.ntmps108
    go_wp2_with (first | (go_at_call 105; refine HNM.out.mono ?_; rintro e w1 ⟨tt, rfl, hb1⟩; have hsz1 : w.heap.size + 1 < w1.heap.size := (by have := hb1.size; simp at this; omega); obtain ⟨q0, q1, q2, _, _, _⟩ := cells3 (Below.at hb1 (at_alloc (at_new w _) _))) | (go_at_call 59; refine (HREF.out _ (HBW.out _ hb1)).mono ?_; rintro e w2 ⟨rfl, hfin⟩; have HFIN := (show Hid _ from hfin); clear hfin))
    go_ret
    exact HFIN.out
  | some x =>
    rw [hnm] at hNM
    have HNM : Hid (Calls Tryz.prog 105 #[.pointer (some ⟨pb, 0, none⟩), .agg #[.int .i64 pp, .slice pno pnn pnc, .iface tin xvn]] ((w.alloc (.cells #[.int .i64 p, .slice (some ⟨g, o, none⟩) (rest.length + 2) cap, .iface 146 (.agg #[])] 62)).alloc (.cells #[.int .i64 q, .slice (some ⟨gh, oh, none⟩) (ps.length + 1) pc, .iface ti xv] 62)) fun e w' => e = .returned (.tuple #[symV x, .bool true]) ∧ Below ((w.alloc (.cells #[.int .i64 p, .slice (some ⟨g, o, none⟩) (rest.length + 2) cap, .iface 146 (.agg #[])] 62)).alloc (.cells #[.int .i64 q, .slice (some ⟨gh, oh, none⟩) (ps.length + 1) pc, .iface ti xv] 62)).heap.size ((w.alloc (.cells #[.int .i64 p, .slice (some ⟨g, o, none⟩) (rest.length + 2) cap, .iface 146 (.agg #[])] 62)).alloc (.cells #[.int .i64 q, .slice (some ⟨gh, oh, none⟩) (ps.length + 1) pc, .iface ti xv] 62)) w') := hNM.mono fun e w' ⟨t, h1, h3, h2⟩ => ⟨by rw [h1, h3 x rfl]; rfl, h2⟩
    simp only [symV] at HNM
    by_cases hise : en.isEmpty = true
    case neg =>
      rw [hdot (by simpa using hise)]
      rw [show en.isEmpty = false by simpa using hise] at HI
      clear hp hs HF hno hdot hnone hsome hfl hok hs2 hps hps3 hNM hnm hrepn hav hkal hBW hal hB hB2 hise
      unfold lsV
      go_enter Tryz.func108, Tryz.ntmps108
      go_wp2_with (first | (go_at_call 105; refine HNM.out.mono ?_; rintro e w1 ⟨rfl, hb1⟩; have hsz1 : w.heap.size + 1 < w1.heap.size := (by have := hb1.size; simp at this; omega); obtain ⟨q0, q1, q2, _, _, _⟩ := cells3 (Below.at hb1 (at_alloc (at_new w _) _)); obtain ⟨h0, h1, h2, _, _, _⟩ := cells3 (Below.at hb1 (at_new (w.alloc _) _)); simp only [World.alloc, Array.size_push] at h0 h1 h2) | (go_at_call 60; refine (HI.out _).mono ?_; rintro e w2 ⟨rfl, hb2⟩; have hb12 := hb1.trans (hb2.mono hb1.size); obtain ⟨r0, r1, r2, _, _, _⟩ := cells3 (Below.at hb12 (at_alloc (at_new w _) _))) | (go_at_call 59; refine (HREF.out _ (HBW.out _ hb12)).mono ?_; rintro e w3 ⟨rfl, hfin⟩; have HFIN := (show Hid _ from hfin); clear hfin))
      go_ret
      exact HFIN.out
    have HDEF : Hid (∀ (W w' : World) (v : Value), Below w.heap.size w W → RuleK pb sb kb env fl fv n m W R1 (.returned v) w' → RuleT pb sb kb env fl fv n m w R (.returned (.iface 187 (.agg #[symV x, v]))) w') := fun W w' v hb h => RuleT.define hb h (hfl x hnm hise) (hok x hnm hise)
    rw [hise] at HI
    have HPR : Hid (∀ (W : World) (o' : Nat), (¬ pc = 1 → o' = oh + 3) → Below ((w.alloc (.cells #[.int .i64 p, .slice (some ⟨g, o, none⟩) (rest.length + 2) cap, .iface 146 (.agg #[])] 62)).alloc (.cells #[.int .i64 q, .slice (some ⟨gh, oh, none⟩) (ps.length + 1) pc, .iface ti xv] 62)).heap.size ((w.alloc (.cells #[.int .i64 p, .slice (some ⟨g, o, none⟩) (rest.length + 2) cap, .iface 146 (.agg #[])] 62)).alloc (.cells #[.int .i64 q, .slice (some ⟨gh, oh, none⟩) (ps.length + 1) pc, .iface ti xv] 62)) W → Calls Tryz.prog 102 #[.pointer (some ⟨pb, 0, none⟩), .agg #[.int .i64 p, .slice (some ⟨g, o, none⟩) (rest.length + 2) cap, .iface 146 (.agg #[])], .slice (some ⟨gh, o', none⟩) ps.length (pc - 1)] W (RuleK pb sb kb env fl fv n m W R1)) := fun W o' ho' hW => by
      have hb := hBW W hW
      have h3 : RepS (fun k => ¬ PMK pb sb fv k) (w.alloc (.cells #[.int .i64 p, .slice (some ⟨g, o, none⟩) (rest.length + 2) cap, .iface 146 (.agg #[])] 62)) (.slice (some ⟨gh, o', none⟩) ps.length (pc - 1)) ps := by
        by_cases h1 : pc = 1
        · have : ps = [] := by
            cases ps with
            | nil => rfl
            | cons a b => simp at hpc; omega
          subst this
          rcases hps3 with ⟨h, _⟩ | ⟨g', o'', cap', c, T, va, vb, vc, h, hg, hh, hn, hc, hs⟩
          · cases h
          · simp only [Value.slice.injEq, Option.some.injEq, Addr.mk.injEq, and_true] at h
            obtain ⟨⟨rfl, rfl⟩, -, rfl⟩ := h
            exact .inr ⟨gh, o', _, c, T, va, vb, vc, rfl, hg, hh, hn, fun i hi => absurd hi (Nat.not_lt_zero _), fun i hi => absurd hi (Nat.not_lt_zero _)⟩
        · rw [ho' h1]; exact hps3
      exact proc_k f HF pb sb kb env fl fv n m W p g o cap d0 (.mk q (nm :: ps) en) rest ps _ (hp.kept hb) (hs.mono fun k hk h => ⟨h, hb.block k hk⟩) ((h3.mono (ok' := fun _ => True) fun k hk _ => ⟨trivial, hal.block k hk⟩).mono fun k hk h => ⟨h, hW.block k hk⟩) (by omega) (by omega) hf (by omega) (by omega) hr R1 hnone hsome
    simp only [symV] at HDEF
    clear hp hs HF hno hdot hnone hsome hfl hok hs2 hps hps3 hNM hnm hrepn hav hkal hBW hal hB hB2 hise HREF
    have i2 : (1 : Int) ≤ (ps.length : Int) + 1 := by omega
    have i3 : (ps.length : Int) + 1 ≤ (pc : Int) := by omega
    unfold lsV
    have HPC : Hid (1 ≤ pc) := by exact (by omega : 1 ≤ pc)
    go_enter Tryz.func108, Tryz.ntmps108
    go_wp2_with (first | (go_at_call 105; refine HNM.out.mono ?_; rintro e w1 ⟨rfl, hb1⟩; have hsz1 : w.heap.size + 1 < w1.heap.size := (by have := hb1.size; simp at this; omega); obtain ⟨q0, q1, q2, _, _, _⟩ := cells3 (Below.at hb1 (at_alloc (at_new w _) _)); obtain ⟨h0, h1, h2, _, _, _⟩ := cells3 (Below.at hb1 (at_new (w.alloc _) _)); simp only [World.alloc, Array.size_push] at h0 h1 h2) | (go_at_call 60; refine (HI.out _).mono ?_; rintro e w2 ⟨rfl, hb2⟩))
    have hk2 := Kept.of_below hb2 (fun _ => False)
    have y0 := hk2.cell id q0
    have y1 := hk2.cell id q1
    have y2 := hk2.cell id q2
    have y3 := hk2.cell id h1
    have hb12 := hb1.trans (hb2.mono hb1.size)
    have hb12d : Below ((w.alloc (.cells #[.int .i64 p, .slice (some ⟨g, o, none⟩) (rest.length + 2) cap, .iface 146 (.agg #[])] 62)).alloc (.cells #[.int .i64 q, .slice (some ⟨gh, oh, none⟩) (ps.length + 1) pc, .iface ti xv] 62)).heap.size ((w.alloc (.cells #[.int .i64 p, .slice (some ⟨g, o, none⟩) (rest.length + 2) cap, .iface 146 (.agg #[])] 62)).alloc (.cells #[.int .i64 q, .slice (some ⟨gh, oh, none⟩) (ps.length + 1) pc, .iface ti xv] 62)) w2.drew := hb12.drew
    have hb02 := HBW.out _ hb12d
    have hsz2 : w.heap.size + 1 < w2.heap.size := by have := hb2.size; omega
    clear hb1 hb2 hb12 hk2 e0 e1 e2 m0 m1 m2 q0 q1 q2 h0 h1 h2 a0 a1 a2
    have hSH : Hid (∀ v, Shp R1 v → v = .nilIface) ∨ Hid (∀ v, Shp R1 v → ∃ t x, v = .iface t x) := (Shp.either R1).imp (fun h => h) (fun h => h)
    by_cases h1 : pc = 1
    · obtain rfl : ps = [] := by
        cases ps with
        | nil => rfl
        | cons a b => simp at hpc; omega
      subst h1
      have HPR1 : Hid (Calls Tryz.prog 102 #[.pointer (some ⟨pb, 0, none⟩), .agg #[.int .i64 p, .slice (some ⟨g, o, none⟩) (rest.length + 2) cap, .iface 146 (.agg #[])], .slice (some ⟨gh, oh, none⟩) 0 0] w2.drew (RuleK pb sb kb env fl fv n m w2.drew R1)) := HPR.out _ oh (fun e => absurd rfl e) hb12d
      clear HPR hb12d
      simp only [List.length_nil, Nat.zero_add] at y3 i2 i3
      rcases hSH with HSH | HSH
      · go_region_held3 (fun W => W.cell? ⟨w.heap.size, 0, none⟩ = some (.int .i64 p) ∧ W.cell? ⟨w.heap.size, 1, none⟩ = some (.slice (some ⟨g, o, none⟩) (rest.length + 2) cap) ∧ W.cell? ⟨w.heap.size, 2, none⟩ = some (.iface 146 (.agg #[])) ∧ W.cell? ⟨w.heap.size + 1, 1, none⟩ = some (.slice (some ⟨gh, oh, none⟩) 1 1)) (first | go_keep) (first | (go_at_call 102; refine HPR1.out.mono ?_; rintro e w3 hfin; obtain ⟨v, hv⟩ : ∃ v, e = .returned v := (by obtain ⟨v, _, _, h, _⟩ := hfin; exact ⟨v, h⟩); have hI : Shp R1 v := (by obtain ⟨_, _, _, h, h2, _⟩ := hfin; subst hv; cases h; exact h2); have hk4 : Kept (PMK pb sb fv) w2.drew w3 := (by obtain ⟨_, _, _, _, _, _, _, _, h, _⟩ := hfin; exact h); subst hv; have z0 := hk4.cell hnb y0; have z1 := hk4.cell hnb y1; have z2 := hk4.cell hnb y2; have z3 := hk4.cell hnb2 y3; have HFIN := (show Hid _ from HDEF.out _ _ _ hb02 hfin); clear hfin; have hv2 := HSH.out _ hI; subst hv2; clear hI))
        go_wp2
        go_ret
        exact HFIN.out
      · go_region_held3 (fun W => W.cell? ⟨w.heap.size, 0, none⟩ = some (.int .i64 p) ∧ W.cell? ⟨w.heap.size, 1, none⟩ = some (.slice (some ⟨g, o, none⟩) (rest.length + 2) cap) ∧ W.cell? ⟨w.heap.size, 2, none⟩ = some (.iface 146 (.agg #[])) ∧ W.cell? ⟨w.heap.size + 1, 1, none⟩ = some (.slice (some ⟨gh, oh, none⟩) 1 1)) (first | go_keep) (first | (go_at_call 102; refine HPR1.out.mono ?_; rintro e w3 hfin; obtain ⟨v, hv⟩ : ∃ v, e = .returned v := (by obtain ⟨v, _, _, h, _⟩ := hfin; exact ⟨v, h⟩); have hI : Shp R1 v := (by obtain ⟨_, _, _, h, h2, _⟩ := hfin; subst hv; cases h; exact h2); have hk4 : Kept (PMK pb sb fv) w2.drew w3 := (by obtain ⟨_, _, _, _, _, _, _, _, h, _⟩ := hfin; exact h); subst hv; have z0 := hk4.cell hnb y0; have z1 := hk4.cell hnb y1; have z2 := hk4.cell hnb y2; have z3 := hk4.cell hnb2 y3; have HFIN := (show Hid _ from HDEF.out _ _ _ hb02 hfin); clear hfin; obtain ⟨tv, yv, hv2⟩ := HSH.out _ hI; subst hv2; clear hI))
        go_wp2
        go_ret
        exact HFIN.out
    · have HPR1 : Hid (Calls Tryz.prog 102 #[.pointer (some ⟨pb, 0, none⟩), .agg #[.int .i64 p, .slice (some ⟨g, o, none⟩) (rest.length + 2) cap, .iface 146 (.agg #[])], .slice (some ⟨gh, oh + 3, none⟩) ps.length (pc - 1)] w2.drew (RuleK pb sb kb env fl fv n m w2.drew R1)) := HPR.out _ (oh + 3) (fun _ => rfl) hb12d
      clear HPR hb12d
      rcases hSH with HSH | HSH
      · go_region_held3 (fun W => W.cell? ⟨w.heap.size, 0, none⟩ = some (.int .i64 p) ∧ W.cell? ⟨w.heap.size, 1, none⟩ = some (.slice (some ⟨g, o, none⟩) (rest.length + 2) cap) ∧ W.cell? ⟨w.heap.size, 2, none⟩ = some (.iface 146 (.agg #[])) ∧ W.cell? ⟨w.heap.size + 1, 1, none⟩ = some (.slice (some ⟨gh, oh, none⟩) (ps.length + 1) pc)) (first | go_keep) (first | (go_at_call 102; refine HPR1.out.mono ?_; rintro e w3 hfin; obtain ⟨v, hv⟩ : ∃ v, e = .returned v := (by obtain ⟨v, _, _, h, _⟩ := hfin; exact ⟨v, h⟩); have hI : Shp R1 v := (by obtain ⟨_, _, _, h, h2, _⟩ := hfin; subst hv; cases h; exact h2); have hk4 : Kept (PMK pb sb fv) w2.drew w3 := (by obtain ⟨_, _, _, _, _, _, _, _, h, _⟩ := hfin; exact h); subst hv; have z0 := hk4.cell hnb y0; have z1 := hk4.cell hnb y1; have z2 := hk4.cell hnb y2; have z3 := hk4.cell hnb2 y3; have HFIN := (show Hid _ from HDEF.out _ _ _ hb02 hfin); clear hfin; have hv2 := HSH.out _ hI; subst hv2; clear hI))
        go_wp2
        go_ret
        exact HFIN.out
      · go_region_held3 (fun W => W.cell? ⟨w.heap.size, 0, none⟩ = some (.int .i64 p) ∧ W.cell? ⟨w.heap.size, 1, none⟩ = some (.slice (some ⟨g, o, none⟩) (rest.length + 2) cap) ∧ W.cell? ⟨w.heap.size, 2, none⟩ = some (.iface 146 (.agg #[])) ∧ W.cell? ⟨w.heap.size + 1, 1, none⟩ = some (.slice (some ⟨gh, oh, none⟩) (ps.length + 1) pc)) (first | go_keep) (first | (go_at_call 102; refine HPR1.out.mono ?_; rintro e w3 hfin; obtain ⟨v, hv⟩ : ∃ v, e = .returned v := (by obtain ⟨v, _, _, h, _⟩ := hfin; exact ⟨v, h⟩); have hI : Shp R1 v := (by obtain ⟨_, _, _, h, h2, _⟩ := hfin; subst hv; cases h; exact h2); have hk4 : Kept (PMK pb sb fv) w2.drew w3 := (by obtain ⟨_, _, _, _, _, _, _, _, h, _⟩ := hfin; exact h); subst hv; have z0 := hk4.cell hnb y0; have z1 := hk4.cell hnb y1; have z2 := hk4.cell hnb y2; have z3 := hk4.cell hnb2 y3; have HFIN := (show Hid _ from HDEF.out _ _ _ hb02 hfin); clear hfin; obtain ⟨tv, yv, hv2⟩ := HSH.out _ hI; subst hv2; clear hI))
        go_wp2
        go_ret
        exact HFIN.out
end Go.Proofs.YtodeeegbajgafaaGreatDoor

namespace Go.Proofs.YtodeeegbajgafaaGreatDoor
open Go.RowKit
set_option maxHeartbeats 2000000 in
set_option maxRecDepth 10000 in
theorem define_k (f : Nat) (pb sb kb : Nat) (env : List (List Rd.Sym)) (fl : Option Nat) (fv : Value) (n m : Nat) (w : World) (p : Nat) (g o cap : Nat) (d0 : Rd.D) (rest0 : List Rd.D) (hp : PAtK pb sb kb env fl fv n w)
    (hs : RepS (fun k => ¬ PMK pb sb fv k) w (.slice (some ⟨g, o, none⟩) (rest0.length + 1) cap) (d0 :: rest0)) (hf2 : 2 * Rd.kzL rest0 + 1 ≤ f) (hf : env.length + 1 + f ≤ 5000) (hnz : n + m ≤ 4000) (hm : Rd.kzL rest0 + 1 ≤ m) (R : Rd.PR Rd.F) (hshort : rest0.length < 2 → R = .no p)
    (hproc : ∀ d1 rest nm ps, rest0 = d1 :: rest → rest ≠ [] → d1.parts = nm :: ps → (nm.name = none → R = .no p) ∧ (d1.isList = false → R = .no p) ∧ ∃ R1 : Rd.PR Rd.F, (Rd.namesK ps [] = none → R1 = .no p) ∧ (∀ ns, Rd.namesK ps [] = some ns → R1 = (Rd.kForms f (ns :: env) rest).map (.lam ns.length ·)) ∧ (∀ x, nm.name = some x → d1.isList = true → flOr fl R = flOr fl R1) ∧ (∀ x, nm.name = some x → d1.isList = true → ∀ y, R = .ok y → ∃ z, R1 = .ok z ∧ y = .define x z))
    (hnone : ∀ d1 rest, rest0 = d1 :: rest → rest ≠ [] → d1.parts = [] → d1.name = none ∨ rest.length ≠ 1 → R = .no p) (hone : ∀ d1 v x, rest0 = [d1, v] → d1.parts = [] → d1.name = some x → R = (Rd.kForm f env v).map (.define x ·)) :
    Calls Tryz.prog 62 #[.pointer (some ⟨pb, 0, none⟩), lsV p g o (rest0.length + 1) cap] w (RuleT pb sb kb env fl fv n m w R) := by
  have hcap := hs.len.2
  simp only [List.length_cons] at hcap
  have hlz := Rd.kzL_len rest0
  by_cases hl : rest0.length < 2
  · rw [hshort hl]
    have hB := box_below w (.cells #[.int .i64 p, .slice (some ⟨g, o, none⟩) (rest0.length + 1) cap, .iface 146 (.agg #[])] 62)
    have HREF : Hid (Calls Tryz.prog 59 #[.pointer (some ⟨pb, 0, none⟩), .agg #[.int .i64 p, .slice (some ⟨g, o, none⟩) (rest0.length + 1) cap, .iface 146 (.agg #[])]] (w.alloc (.cells #[.int .i64 p, .slice (some ⟨g, o, none⟩) (rest0.length + 1) cap, .iface 146 (.agg #[])] 62)) fun e w' => e = .returned .nilIface ∧ RuleT pb sb kb env fl fv n m w (.no p) e w') := (refuse_d pb sb kb env fl fv n m w p _ _ _ _ _ hp hnz (by omega) _ hB).mono fun e w' h => ⟨h.1, h.2.top⟩
    have j1 : (rest0.length : Int) + 1 < 3 := by omega
    clear hp hs hshort hproc hnone hone
    unfold lsV
    go_enter Tryz.func62, Tryz.ntmps62
    go_wp2_with (first | (go_at_call 59; refine HREF.out.mono ?_; rintro e w1 ⟨rfl, hfin⟩; have HFIN := (show Hid _ from hfin); clear hfin))
    go_ret
    exact HFIN.out
  · obtain ⟨d1, rest, rfl⟩ : ∃ d1 rest, rest0 = d1 :: rest := by
      cases rest0 with
      | nil => simp at hl
      | cons d1 rest => exact ⟨d1, rest, rfl⟩
    simp only [List.length_cons] at hl hcap hs hlz ⊢
    have hr : rest ≠ [] := fun e => by subst e; simp at hl
    have hlr : 0 < rest.length := List.length_pos_iff.2 hr
    have hz : Rd.kzL (d1 :: rest) = Rd.kzD d1 + Rd.kzL rest := by rw [Rd.kzL]
    have hzp := Rd.kzD_pos d1
    have hB := box_below w (.cells #[.int .i64 p, .slice (some ⟨g, o, none⟩) (rest.length + 2) cap, .iface 146 (.agg #[])] 62)
    have hs2 := hs.mono (ok' := fun k => ¬ PMK pb sb fv k) (w' := (w.alloc (.cells #[.int .i64 p, .slice (some ⟨g, o, none⟩) (rest.length + 2) cap, .iface 146 (.agg #[])] 62))) (fun k hk h => ⟨h, Below.heap_alloc _ _ _ hk⟩)
    have hB1 : ∀ W, Below (w.alloc (.cells #[.int .i64 p, .slice (some ⟨g, o, none⟩) (rest.length + 2) cap, .iface 146 (.agg #[])] 62)).heap.size (w.alloc (.cells #[.int .i64 p, .slice (some ⟨g, o, none⟩) (rest.length + 2) cap, .iface 146 (.agg #[])] 62)) W → Below w.heap.size w W := fun W hW => hB.trans (hW.mono (by simp))
    have HB1 := (show Hid _ from hB1)
    obtain ⟨q, ps0, en⟩ := d1
    have hzd : Rd.kzD (.mk q ps0 en) = 1 + Rd.kzL ps0 := by rw [Rd.kzD]
    have hpz := Rd.kzL_len ps0
    obtain ⟨po, pc, e0, e1, e2, hok, hps⟩ := hs2.listAt 1 (by simp) (p := q) (ps := ps0) (en := en) rfl
    have hisl : (Rd.D.mk q ps0 en).isList = en.isEmpty := by cases en <;> rfl
    have hNM := nameOf_d fv pb sb kb env _ (.mk q ps0 en) _ _ (hp.kept hB).par (hps.datum q en)
    obtain ⟨ti, xv, hav⟩ : ∃ t x, aV en = .iface t x := by cases en <;> exact ⟨_, _, rfl⟩
    rw [hav] at e2 hNM
    simp only [Nat.mul_one] at e0 e1 e2
    have il3 : (1 : Int) < (rest.length : Int) + 2 := by omega
    have il4 : (1 : Int) < (rest.length : Int) + 1 + 1 := by omega
    have il2 : ¬ ((rest.length : Int) + 1 + 1 < 3) := by omega
    have il5 : ¬ ((rest.length : Int) + 2 < 3) := by omega
    have HREF : Hid (∀ W, Below w.heap.size w W → Calls Tryz.prog 59 #[.pointer (some ⟨pb, 0, none⟩), .agg #[.int .i64 p, .slice (some ⟨g, o, none⟩) (rest.length + 2) cap, .iface 146 (.agg #[])]] W fun e w' => e = .returned .nilIface ∧ RuleT pb sb kb env fl fv n m w (.no p) e w') := fun W hW => (refuse_d pb sb kb env fl fv n m w p _ _ _ _ _ hp hnz (by omega) W hW).mono fun e w' h => ⟨h.1, h.2.top⟩
    cases ps0 with
    | cons nm ps =>
      obtain ⟨h1, h2, R1, h3, h4, h5, h6⟩ := hproc _ rest nm ps rfl hr rfl
      rw [hisl] at h2 h5 h6
      simp only [List.length_cons] at hpz e1
      have HPR : Hid (Calls Tryz.prog 108 #[.pointer (some ⟨pb, 0, none⟩), .agg #[.int .i64 p, .slice (some ⟨g, o, none⟩) (rest.length + 2) cap, .iface 146 (.agg #[])]] (w.alloc (.cells #[.int .i64 p, .slice (some ⟨g, o, none⟩) (rest.length + 2) cap, .iface 146 (.agg #[])] 62)) (RuleT pb sb kb env fl fv n m (w.alloc (.cells #[.int .i64 p, .slice (some ⟨g, o, none⟩) (rest.length + 2) cap, .iface 146 (.agg #[])] 62)) R)) := defineProc_k f (forms_all_k f) pb sb kb env fl fv n m _ p g o cap d0 nm q en rest ps (hp.kept hB) hs2 (by omega) (by omega) (by omega) hf hnz (by omega) hr R h1 h2 R1 h3 h4 h5 h6
      have il6 : (0 : Int) < (ps.length : Int) + 1 := by omega
      clear hp hs hshort hproc hnone hone hs2 hps hNM hav hisl h1 h2 h3 h4 h5 h6 HREF
      unfold lsV
      go_enter Tryz.func62, Tryz.ntmps62
      go_wp2_with (first | (go_at_call 108; refine HPR.out.mono ?_; rintro e w1 hfin; obtain ⟨v, hv⟩ : ∃ v, e = .returned v := (by obtain ⟨v, _, _, h, _⟩ := hfin; exact ⟨v, h⟩); subst hv; have HFIN := (show Hid _ from hfin); clear hfin))
      go_ret
      exact RuleT.from hB HFIN.out
    | nil =>
      simp only [List.length_nil] at e1 hNM
      cases hnm : (Rd.D.mk q [] en).name with
      | none =>
        rw [hnone _ rest rfl hr rfl (.inl hnm)]
        rw [hnm] at hNM
        have HNM : Hid (Calls Tryz.prog 105 #[.pointer (some ⟨pb, 0, none⟩), .agg #[.int .i64 q, .slice po 0 pc, .iface ti xv]] (w.alloc (.cells #[.int .i64 p, .slice (some ⟨g, o, none⟩) (rest.length + 2) cap, .iface 146 (.agg #[])] 62)) fun e w' => ∃ t, e = .returned (.tuple #[.string t, .bool false]) ∧ Below (w.alloc (.cells #[.int .i64 p, .slice (some ⟨g, o, none⟩) (rest.length + 2) cap, .iface 146 (.agg #[])] 62)).heap.size (w.alloc (.cells #[.int .i64 p, .slice (some ⟨g, o, none⟩) (rest.length + 2) cap, .iface 146 (.agg #[])] 62)) w') := hNM.mono fun e w' ⟨t, h1, _, h2⟩ => ⟨t, h1, h2⟩
        clear hp hs hshort hproc hnone hone hs2 hps hNM hav hisl hnm hB1
        unfold lsV
        go_enter Tryz.func62, Tryz.ntmps62
        go_wp2_with (first | (go_at_call 105; refine HNM.out.mono ?_; rintro e w1 ⟨tt, rfl, hb1⟩; have hsz1 : w.heap.size < w1.heap.size := (by have := hb1.size; simp at this; omega); obtain ⟨q0, q1, q2, _, _, _⟩ := cells3 (Below.at hb1 (at_new w _))) | (go_at_call 59; refine (HREF.out _ (HB1.out _ hb1)).mono ?_; rintro e w2 ⟨rfl, hfin⟩; have HFIN := (show Hid _ from hfin); clear hfin))
        go_ret
        exact HFIN.out
      | some x =>
        rw [hnm] at hNM
        have HNM : Hid (Calls Tryz.prog 105 #[.pointer (some ⟨pb, 0, none⟩), .agg #[.int .i64 q, .slice po 0 pc, .iface ti xv]] (w.alloc (.cells #[.int .i64 p, .slice (some ⟨g, o, none⟩) (rest.length + 2) cap, .iface 146 (.agg #[])] 62)) fun e w' => e = .returned (.tuple #[symV x, .bool true]) ∧ Below (w.alloc (.cells #[.int .i64 p, .slice (some ⟨g, o, none⟩) (rest.length + 2) cap, .iface 146 (.agg #[])] 62)).heap.size (w.alloc (.cells #[.int .i64 p, .slice (some ⟨g, o, none⟩) (rest.length + 2) cap, .iface 146 (.agg #[])] 62)) w') := hNM.mono fun e w' ⟨t, h1, h3, h2⟩ => ⟨by rw [h1, h3 x rfl]; rfl, h2⟩
        simp only [symV] at HNM
        by_cases h1 : rest.length = 1
        case neg =>
          rw [hnone _ rest rfl hr rfl (.inr h1)]
          have j3 : ((((rest.length : Int) + 2) != 3)) = true := by simp; omega
          have j4 : ((((rest.length : Int) + 1 + 1) != 3)) = true := by simp; omega
          have j5 : ¬ (rest.length : Int) + 2 = 3 := by omega
          have j6 : ¬ (rest.length : Int) + 1 + 1 = 3 := by omega
          clear hp hs hshort hproc hnone hone hs2 hps hNM hav hisl hnm hB1
          unfold lsV
          go_enter Tryz.func62, Tryz.ntmps62
          go_wp2_with (first | (go_at_call 105; refine HNM.out.mono ?_; rintro e w1 ⟨rfl, hb1⟩; have hsz1 : w.heap.size < w1.heap.size := (by have := hb1.size; simp at this; omega); obtain ⟨q0, q1, q2, _, _, _⟩ := cells3 (Below.at hb1 (at_new w _))) | (go_at_call 59; refine (HREF.out _ (HB1.out _ hb1)).mono ?_; rintro e w2 ⟨rfl, hfin⟩; have HFIN := (show Hid _ from hfin); clear hfin))
          go_ret
          exact HFIN.out
        obtain ⟨v, rfl⟩ : ∃ v, rest = [v] := by
          cases rest with
          | nil => exact absurd rfl hr
          | cons a b => cases b with
            | nil => exact ⟨a, rfl⟩
            | cons c d => simp at h1
        have hR := hone _ v x rfl rfl hnm
        simp only [List.length_cons, List.length_nil] at *
        obtain ⟨g', o', cap', pp, vo, vn, vc, vt, vx, heq, -, -, y0, y1, y2, hrepv⟩ := hs2.cells 2 (by simp)
        simp only [Value.slice.injEq, Option.some.injEq, Addr.mk.injEq, and_true] at heq
        obtain ⟨⟨rfl, rfl⟩, -, rfl⟩ := heq
        simp only [List.getElem_cons_succ, List.getElem_cons_zero, show 3 * 2 = 6 by omega] at hrepv y0 y1 y2
        have hzv : Rd.kzL [v] = Rd.kzD v := by rw [Rd.kzL, Rd.kzL]; omega
        have HFK : Hid (∀ W, Below (w.alloc (.cells #[.int .i64 p, .slice (some ⟨g, o, none⟩) (0 + 1 + 1 + 1) cap, .iface 146 (.agg #[])] 62)).heap.size (w.alloc (.cells #[.int .i64 p, .slice (some ⟨g, o, none⟩) (0 + 1 + 1 + 1) cap, .iface 146 (.agg #[])] 62)) W → Calls Tryz.prog 63 #[.pointer (some ⟨pb, 0, none⟩), .agg #[.int .i64 pp, .slice vo vn vc, .iface vt vx]] W (RuleK pb sb kb env fl fv n m W (Rd.kForm f env v))) := fun W hW => (form_k f pb sb kb env fl fv n W v _ (hp.kept (hB1 W hW)) (by omega) (by omega) (by omega) (hrepv.mono fun k hk h => ⟨h, hW.block k hk⟩)).mono fun e w' h => h.more (by omega)
        have HDEF : Hid (∀ (W w' : World) (u : Value), Below w.heap.size w W → RuleK pb sb kb env fl fv n m W (Rd.kForm f env v) (.returned u) w' → RuleT pb sb kb env fl fv n m w R (.returned (.iface 187 (.agg #[symV x, u]))) w') := fun W w' u hb h => RuleT.define hb h (by rw [hR, flOr_map]) (fun y hy => by
          rw [hR] at hy
          cases hk : Rd.kForm f env v with
          | ok z => rw [hk] at hy; cases hy; exact ⟨z, rfl, rfl⟩
          | no q => rw [hk] at hy; cases hy
          | bad q => rw [hk] at hy; cases hy)
        simp only [symV] at HDEF
        have HOK : Hid (¬ PMK pb sb fv g) := hok
        have hSH : Hid (∀ v', Shp (Rd.kForm f env v) v' → v' = .nilIface) ∨ Hid (∀ v', Shp (Rd.kForm f env v) v' → ∃ t x, v' = .iface t x) := (Shp.either _).imp (fun h => h) (fun h => h)
        generalize Rd.kForm f env v = K at *
        clear hp hs hshort hproc hnone hone hs2 hps hNM hav hisl hnm hB1 hrepv HREF hR hz hzd hzv
        unfold lsV
        rcases hSH with HSH | HSH
        · go_enter Tryz.func62, Tryz.ntmps62
          go_wp2_with (first | (go_at_call 105; refine HNM.out.mono ?_; rintro e w1 ⟨rfl, hb1⟩; have hsz1 : w.heap.size < w1.heap.size := (by have := hb1.size; simp at this; omega); obtain ⟨q0, q1, q2, _, _, _⟩ := cells3 (Below.at hb1 (at_new w _)); have z0 := (Kept.of_below hb1 (fun _ => False)).cell id y0; have z1 := (Kept.of_below hb1 (fun _ => False)).cell id y1; have z2 := (Kept.of_below hb1 (fun _ => False)).cell id y2) | (go_at_call 63; refine (HFK.out _ hb1).mono ?_; rintro e w2 hfin; obtain ⟨u, hv⟩ : ∃ u, e = .returned u := (by obtain ⟨v, _, _, h, _⟩ := hfin; exact ⟨v, h⟩); have hI : Shp K u := (by obtain ⟨_, _, _, h, h2, _⟩ := hfin; subst hv; cases h; exact h2); subst hv; have HFIN := (show Hid _ from HDEF.out _ _ _ (HB1.out _ hb1) hfin); clear hfin; have hv2 := HSH.out _ hI; subst hv2; clear hI))
          go_ret
          exact HFIN.out
        · go_enter Tryz.func62, Tryz.ntmps62
          go_wp2_with (first | (go_at_call 105; refine HNM.out.mono ?_; rintro e w1 ⟨rfl, hb1⟩; have hsz1 : w.heap.size < w1.heap.size := (by have := hb1.size; simp at this; omega); obtain ⟨q0, q1, q2, _, _, _⟩ := cells3 (Below.at hb1 (at_new w _)); have z0 := (Kept.of_below hb1 (fun _ => False)).cell id y0; have z1 := (Kept.of_below hb1 (fun _ => False)).cell id y1; have z2 := (Kept.of_below hb1 (fun _ => False)).cell id y2) | (go_at_call 63; refine (HFK.out _ hb1).mono ?_; rintro e w2 hfin; obtain ⟨u, hv⟩ : ∃ u, e = .returned u := (by obtain ⟨v, _, _, h, _⟩ := hfin; exact ⟨v, h⟩); have hI : Shp K u := (by obtain ⟨_, _, _, h, h2, _⟩ := hfin; subst hv; cases h; exact h2); subst hv; have HFIN := (show Hid _ from HDEF.out _ _ _ (HB1.out _ hb1) hfin); clear hfin; obtain ⟨tv, yv, hv2⟩ := HSH.out _ hI; subst hv2; clear hI))
          go_ret
          exact HFIN.out
end Go.Proofs.YtodeeegbajgafaaGreatDoor

namespace Go.Proofs.YtodeeegbajgafaaGreatDoor
open Go.RowKit
set_option maxHeartbeats 2000000 in
set_option maxRecDepth 10000 in
/-- A list that begins with 'define'. -/
theorem topDefine_k (pb sb kb : Nat) (fl : Option Nat) (fv : Value) (n m : Nat) (w : World) (p : Nat) (g o cap : Nat) (d0 : Rd.D) (rest : List Rd.D) (R : Rd.PR Rd.F) (hs : RepS (fun k => ¬ PMK pb sb fv k) w (.slice (some ⟨g, o, none⟩) (rest.length + 1) cap) (d0 :: rest)) (hl : rest.length ≤ 5000) (hk : d0.sym = some Rd.kwDefine)
    (HR : ∀ W, Below w.heap.size w W → Calls Tryz.prog 62 #[.pointer (some ⟨pb, 0, none⟩), lsV p g o (rest.length + 1) cap] W (RuleT pb sb kb [] fl fv n m W R)) :
    Calls Tryz.prog 36 #[.pointer (some ⟨pb, 0, none⟩), lsV p g o (rest.length + 1) cap] w (RuleT pb sb kb [] fl fv n m w R) := by
  obtain ⟨q, rfl⟩ := sym_mk hk
  have hcap := hs.len.2
  simp only [List.length_cons] at hcap
  have hB := box_below w (.cells #[.int .i64 p, .slice (some ⟨g, o, none⟩) (rest.length + 1) cap, .iface 146 (.agg #[])] 62)
  have hs2 := hs.mono (ok' := fun k => ¬ PMK pb sb fv k) (w' := (w.alloc (.cells #[.int .i64 p, .slice (some ⟨g, o, none⟩) (rest.length + 1) cap, .iface 146 (.agg #[])] 62))) (fun k hk h => ⟨h, Below.heap_alloc _ _ _ hk⟩)
  obtain ⟨po, pc, e0, e1, e2⟩ := hs2.symAt 0 (by simp) (p := q) (m := Rd.kwDefine) rfl
  simp only [Nat.mul_zero, Nat.add_zero, Rd.kwDefine] at e0 e1 e2
  have HI : Hid (∀ W, Calls Tryz.prog 60 #[.agg #[.int .i64 p, .slice (some ⟨g, o, none⟩) (rest.length + 1) cap, .iface 146 (.agg #[])]] W fun e w' => e = .returned (.bool true) ∧ Below W.heap.size W w') := fun W => isList_any p _ (rest.length + 1) cap .empty W
  have hS := fun W => symbol_leaf q po pc (.sym Rd.kwDefine) W
  simp only [aV, Rd.A.symbol, Option.getD_some, Option.isSome_some, Rd.kwDefine] at hS
  have HS := (show Hid _ from hS)
  have HRH : Hid (∀ W, Below (w.alloc (.cells #[.int .i64 p, .slice (some ⟨g, o, none⟩) (rest.length + 1) cap, .iface 146 (.agg #[])] 62)).heap.size (w.alloc (.cells #[.int .i64 p, .slice (some ⟨g, o, none⟩) (rest.length + 1) cap, .iface 146 (.agg #[])] 62)) W → Calls Tryz.prog 62 #[.pointer (some ⟨pb, 0, none⟩), .agg #[.int .i64 p, .slice (some ⟨g, o, none⟩) (rest.length + 1) cap, .iface 146 (.agg #[])]] W (RuleT pb sb kb [] fl fv n m w R)) := fun W hW => (HR W (hB.trans (hW.mono (by simp)))).mono fun e w' h => RuleT.from (hB.trans (hW.mono (by simp))) h
  have hnz : (((rest.length : Int) + 1) == 0) = false := by simp; omega
  clear hS HR hs hk hs2
  unfold lsV
  go_enter Tryz.func36, Tryz.ntmps36
  go_wp2_with (first | (go_at_call 60; refine (HI.out _).mono ?_; rintro e w1 ⟨rfl, hb1⟩; have hsz1 : w.heap.size < w1.heap.size := (by have := hb1.size; simp at this; omega); obtain ⟨q0, q1, q2, _, _, _⟩ := cells3 (Below.at hb1 (at_new w _)); have y0 := (Kept.of_below hb1 (fun _ => False)).cell id e0; have y1 := (Kept.of_below hb1 (fun _ => False)).cell id e1; have y2 := (Kept.of_below hb1 (fun _ => False)).cell id e2) | (go_at_call 61; refine (HS.out _).mono ?_; rintro e w2 ⟨rfl, hb2⟩; have hb12 := hb1.trans (hb2.mono hb1.size); obtain ⟨r0, r1, r2, _, _, _⟩ := cells3 (Below.at hb12 (at_new w _))) | (go_at_call 62; refine (HRH.out _ hb12).mono ?_; rintro e w3 hfin; obtain ⟨v, hv⟩ : ∃ v, e = .returned v := (by obtain ⟨v, _, _, h, _⟩ := hfin; exact ⟨v, h⟩); subst hv; have HFIN := (show Hid _ from hfin); clear hfin))
  go_ret
  exact HFIN.out
set_option maxHeartbeats 2000000 in
set_option maxRecDepth 10000 in
/-- A list that begins otherwise. -/
theorem topList_k (pb sb kb : Nat) (fl : Option Nat) (fv : Value) (n m : Nat) (w : World) (p : Nat) (g o cap : Nat) (d0 : Rd.D) (rest : List Rd.D) (R : Rd.PR Rd.F) (hs : RepS (fun k => ¬ PMK pb sb fv k) w (.slice (some ⟨g, o, none⟩) (rest.length + 1) cap) (d0 :: rest)) (hl : rest.length ≤ 5000) (hk : d0.sym ≠ some Rd.kwDefine)
    (HR : ∀ W, Below w.heap.size w W → Calls Tryz.prog 63 #[.pointer (some ⟨pb, 0, none⟩), lsV p g o (rest.length + 1) cap] W (RuleT pb sb kb [] fl fv n m W R)) :
    Calls Tryz.prog 36 #[.pointer (some ⟨pb, 0, none⟩), lsV p g o (rest.length + 1) cap] w (RuleT pb sb kb [] fl fv n m w R) := by
  obtain ⟨q, ps, en⟩ := d0
  have hcap := hs.len.2
  simp only [List.length_cons] at hcap
  have hB := box_below w (.cells #[.int .i64 p, .slice (some ⟨g, o, none⟩) (rest.length + 1) cap, .iface 146 (.agg #[])] 62)
  have hs2 := hs.mono (ok' := fun k => ¬ PMK pb sb fv k) (w' := (w.alloc (.cells #[.int .i64 p, .slice (some ⟨g, o, none⟩) (rest.length + 1) cap, .iface 146 (.agg #[])] 62))) (fun k hk h => ⟨h, Below.heap_alloc _ _ _ hk⟩)
  obtain ⟨po, pc, e0, e1, e2, hok, _⟩ := hs2.listAt 0 (by simp) (p := q) (ps := ps) (en := en) rfl
  simp only [Nat.mul_zero, Nat.add_zero] at e0 e1 e2
  have hS : ∃ (wd : Rd.Sym) (b : Bool), wd ≠ Rd.kwDefine ∧ ∀ W, Calls Tryz.prog 61 #[.agg #[.int .i64 q, .slice po ps.length pc, aV en]] W fun e w' => e = .returned (.tuple #[.string ⟨wd.toArray⟩, .bool b]) ∧ Below W.heap.size W w' := by
    cases ps with
    | cons a ps => exact ⟨[], false, by simp [Rd.kwDefine], fun W => symbol_list q po _ pc en W (by simp)⟩
    | nil =>
      cases en with
      | sym n => exact ⟨n, true, fun e => hk (by rw [e]; rfl), fun W => symbol_leaf q po pc (.sym n) W⟩
      | num i => exact ⟨[], false, by simp [Rd.kwDefine], fun W => symbol_leaf q po pc (.num i) W⟩
      | truth b => exact ⟨[], false, by simp [Rd.kwDefine], fun W => symbol_leaf q po pc (.truth b) W⟩
      | empty => exact ⟨[], false, by simp [Rd.kwDefine], fun W => symbol_leaf q po pc .empty W⟩
  obtain ⟨wd, wb, hwd, hS⟩ := hS
  obtain ⟨ti, xv, hav⟩ : ∃ t x, aV en = .iface t x := by cases en <;> exact ⟨_, _, rfl⟩
  rw [hav] at hS e2
  have HI : Hid (∀ W, Calls Tryz.prog 60 #[.agg #[.int .i64 p, .slice (some ⟨g, o, none⟩) (rest.length + 1) cap, .iface 146 (.agg #[])]] W fun e w' => e = .returned (.bool true) ∧ Below W.heap.size W w') := fun W => isList_any p _ (rest.length + 1) cap .empty W
  have HS := (show Hid _ from hS)
  have HRH : Hid (∀ W, Below (w.alloc (.cells #[.int .i64 p, .slice (some ⟨g, o, none⟩) (rest.length + 1) cap, .iface 146 (.agg #[])] 62)).heap.size (w.alloc (.cells #[.int .i64 p, .slice (some ⟨g, o, none⟩) (rest.length + 1) cap, .iface 146 (.agg #[])] 62)) W → Calls Tryz.prog 63 #[.pointer (some ⟨pb, 0, none⟩), .agg #[.int .i64 p, .slice (some ⟨g, o, none⟩) (rest.length + 1) cap, .iface 146 (.agg #[])]] W (RuleT pb sb kb [] fl fv n m w R)) := fun W hW => (HR W (hB.trans (hW.mono (by simp)))).mono fun e w' h => RuleT.from (hB.trans (hW.mono (by simp))) h
  have t1 : ((⟨wd.toArray⟩ : ByteArray).toList == [100, 101, 102, 105, 110, 101]) = false := by rw [bytes_toList]; simpa [Rd.kwDefine] using hwd
  have t2 : ¬ (⟨wd.toArray⟩ : ByteArray).toList = [100, 101, 102, 105, 110, 101] := by rw [bytes_toList]; exact hwd
  have hnz : (((rest.length : Int) + 1) == 0) = false := by simp; omega
  clear hS HR hs hk hwd hav hs2
  unfold lsV
  generalize hWD : (⟨wd.toArray⟩ : ByteArray) = WD at *
  go_enter Tryz.func36, Tryz.ntmps36
  go_wp2_with (first | (go_at_call 60; refine (HI.out _).mono ?_; rintro e w1 ⟨rfl, hb1⟩; have hsz1 : w.heap.size < w1.heap.size := (by have := hb1.size; simp at this; omega); obtain ⟨q0, q1, q2, _, _, _⟩ := cells3 (Below.at hb1 (at_new w _)); have y0 := (Kept.of_below hb1 (fun _ => False)).cell id e0; have y1 := (Kept.of_below hb1 (fun _ => False)).cell id e1; have y2 := (Kept.of_below hb1 (fun _ => False)).cell id e2) | (go_at_call 61; refine (HS.out _).mono ?_; rintro e w2 ⟨rfl, hb2⟩; have hb12 := hb1.trans (hb2.mono hb1.size); obtain ⟨r0, r1, r2, _, _, _⟩ := cells3 (Below.at hb12 (at_new w _))) | (go_at_call 63; refine (HRH.out _ hb12).mono ?_; rintro e w3 hfin; obtain ⟨v, hv⟩ : ∃ v, e = .returned v := (by obtain ⟨v, _, _, h, _⟩ := hfin; exact ⟨v, h⟩); subst hv; have HFIN := (show Hid _ from hfin); clear hfin))
  go_ret
  exact HFIN.out
set_option maxHeartbeats 2000000 in
set_option maxRecDepth 10000 in
/-- A word, or a list with a dot. -/
theorem topAny_k (pb sb kb : Nat) (fl : Option Nat) (fv : Value) (n m : Nat) (w : World) (p : Nat) (sa : Option Addr) (L cap : Nat) (en : Rd.A) (R : Rd.PR Rd.F) (hL : L = 0 ∨ en ≠ .empty)
    (HR : ∀ W, Below w.heap.size w W → Calls Tryz.prog 63 #[.pointer (some ⟨pb, 0, none⟩), .agg #[.int .i64 p, .slice sa L cap, aV en]] W (RuleT pb sb kb [] fl fv n m W R)) :
    Calls Tryz.prog 36 #[.pointer (some ⟨pb, 0, none⟩), .agg #[.int .i64 p, .slice sa L cap, aV en]] w (RuleT pb sb kb [] fl fv n m w R) := by
  obtain ⟨ti, xv, hav⟩ : ∃ t x, aV en = .iface t x := by cases en <;> exact ⟨_, _, rfl⟩
  have hB := box_below w (.cells #[.int .i64 p, .slice sa L cap, .iface ti xv] 62)
  have HRH : Hid (∀ W, Below (w.alloc (.cells #[.int .i64 p, .slice sa L cap, .iface ti xv] 62)).heap.size (w.alloc (.cells #[.int .i64 p, .slice sa L cap, .iface ti xv] 62)) W → Calls Tryz.prog 63 #[.pointer (some ⟨pb, 0, none⟩), .agg #[.int .i64 p, .slice sa L cap, .iface ti xv]] W (RuleT pb sb kb [] fl fv n m w R)) := fun W hW => by
    have := (HR W (hB.trans (hW.mono (by simp)))).mono fun e w' h => RuleT.from (hB.trans (hW.mono (by simp))) h
    rw [hav] at this
    exact this
  by_cases hl0 : L = 0
  · subst hl0
    rw [hav]
    have H1 := HRH.out _ (Below.refl _ _)
    have HRH1 : Hid (Calls Tryz.prog 63 #[.pointer (some ⟨pb, 0, none⟩), .agg #[.int .i64 p, .slice sa 0 cap, .iface ti xv]] (w.alloc (.cells #[.int .i64 p, .slice sa 0 cap, .iface ti xv] 62)) (RuleT pb sb kb [] fl fv n m w R)) := H1
    clear HR hav hL HRH H1
    go_enter Tryz.func36, Tryz.ntmps36
    go_wp2_with (first | (go_at_call 63; refine HRH1.out.mono ?_; rintro e w3 hfin; obtain ⟨v, hv⟩ : ∃ v, e = .returned v := (by obtain ⟨v, _, _, h, _⟩ := hfin; exact ⟨v, h⟩); subst hv; have HFIN := (show Hid _ from hfin); clear hfin))
    go_ret
    exact HFIN.out
  · have hen : en ≠ .empty := hL.resolve_left hl0
    have hie : en.isEmpty = false := by cases en <;> first | rfl | exact absurd rfl hen
    have HI : Hid (∀ W, Calls Tryz.prog 60 #[.agg #[.int .i64 p, .slice sa L cap, .iface ti xv]] W fun e w' => e = .returned (.bool false) ∧ Below W.heap.size W w') := fun W => by
      have := isList_any p sa L cap en W
      rw [hie, hav] at this
      exact this
    rw [hav]
    have hL0 : ¬ (L : Int) = 0 := by omega
    have hL1 : (0 : Int) < (L : Int) := by omega
    clear HR hav hL hie hen
    go_enter Tryz.func36, Tryz.ntmps36
    go_wp2_with (first | (go_at_call 60; refine (HI.out _).mono ?_; rintro e w1 ⟨rfl, hb1⟩; have hsz1 : w.heap.size < w1.heap.size := (by have := hb1.size; simp at this; omega); obtain ⟨q0, q1, q2, _, _, _⟩ := cells3 (Below.at hb1 (at_new w _))) | (go_at_call 63; refine (HRH.out _ hb1).mono ?_; rintro e w3 hfin; obtain ⟨v, hv⟩ : ∃ v, e = .returned v := (by obtain ⟨v, _, _, h, _⟩ := hfin; exact ⟨v, h⟩); subst hv; have HFIN := (show Hid _ from hfin); clear hfin))
    go_ret
    exact HFIN.out
theorem Rd.kTop_other (f : Nat) (d : Rd.D) (h : ∀ p d0 rest, d = .mk p (d0 :: rest) .empty → d0.sym ≠ some Rd.kwDefine) : Rd.kTop f d = Rd.kForm f [] d := by
  unfold Rd.kTop
  split
  · rename_i p d0 rest
    rw [if_neg (h p d0 rest rfl)]
  · rfl
set_option maxHeartbeats 2000000 in
theorem top_k (f : Nat) (pb sb kb : Nat) (fl : Option Nat) (fv : Value) (n : Nat) (w : World) (d : Rd.D) (v : Value) (hp : PAtK pb sb kb [] fl fv n w) (hf2 : 2 * Rd.kzD d ≤ f) (hf : f + 1 ≤ 5000) (hnz : n + Rd.kzD d ≤ 4000) (hrep : RepD (fun k => ¬ PMK pb sb fv k) w v d) :
    Calls Tryz.prog 36 #[.pointer (some ⟨pb, 0, none⟩), v] w (RuleT pb sb kb [] fl fv n (Rd.kzD d) w (Rd.kTop f d)) := by
  have HK : ∀ W, Below w.heap.size w W → Calls Tryz.prog 63 #[.pointer (some ⟨pb, 0, none⟩), v] W (RuleT pb sb kb [] fl fv n (Rd.kzD d) W (Rd.kForm f [] d)) := fun W hW => (form_k f pb sb kb [] fl fv n W d v (hp.kept hW) hf2 (by simp; omega) hnz (hrep.mono fun k hk h => ⟨h, hW.block k hk⟩)).mono fun e w' h => h.top
  obtain ⟨p, ds, en⟩ := d
  by_cases hd : ∃ d0 rest, ds = d0 :: rest ∧ en = .empty
  case neg =>
    rw [Rd.kTop_other f _ (fun p' d0 rest h => by cases h; exact absurd ⟨_, _, rfl, rfl⟩ hd)]
    obtain ⟨sl, rfl, hs⟩ := hrep.inv
    obtain ⟨b, L, c, rfl, hL⟩ : ∃ b L c, sl = .slice b L c ∧ (L = 0 ∨ en ≠ .empty) := by
      rcases hs with ⟨rfl, _⟩ | ⟨g, o, cap, c, T, va, vb, vc, rfl, _⟩
      · exact ⟨_, _, _, rfl, .inl rfl⟩
      · refine ⟨_, _, _, rfl, ?_⟩
        cases ds with
        | nil => exact .inl rfl
        | cons a b => exact .inr fun e => hd ⟨a, b, rfl, e⟩
    exact topAny_k pb sb kb fl fv n _ w p b L c en _ hL HK
  obtain ⟨d0, rest, rfl, rfl⟩ := hd
  obtain ⟨g, o, cap, rfl, hs⟩ := hrep.ls
  have hz : Rd.kzD (.mk p (d0 :: rest) .empty) = 1 + (Rd.kzD d0 + Rd.kzL rest) := by rw [Rd.kzD, Rd.kzL]
  have hz0 := Rd.kzD_pos d0
  have hzl := Rd.kzL_len rest
  by_cases hk : d0.sym = some Rd.kwDefine
  case neg =>
    rw [Rd.kTop_other f _ (fun p' d0' rest' h => by cases h; exact hk)]
    exact topList_k pb sb kb fl fv n _ w p g o cap d0 rest _ hs (by omega) hk HK
  rw [hz] at hnz hf2 ⊢
  generalize hR : Rd.kTop f (.mk p (d0 :: rest) .empty) = R
  unfold Rd.kTop at hR
  simp only [hk, if_true] at hR
  refine topDefine_k pb sb kb fl fv n _ w p g o cap d0 rest R hs (by omega) hk fun W hW => ?_
  refine define_k f pb sb kb [] fl fv n _ W p g o cap d0 rest (hp.kept hW) (hs.mono fun k hk h => ⟨h, hW.block k hk⟩) (by omega) (by simp; omega) (by omega) (by omega) R ?_ ?_ ?_ ?_
  · intro h
    rw [← hR]
    split <;> first | rfl | (simp at h; try omega)
  · intro d1 r nm ps h hr hps
    subst h
    obtain ⟨b, bs, rfl⟩ := cons_of hr
    simp only [hps] at hR
    refine ⟨fun h => ?_, fun h => ?_, ?_⟩
    · rw [← hR]; simp only [h]
    · rw [← hR]; split <;> first | rfl | simp [h]
    · refine ⟨(match Rd.namesK ps [] with | none => .no p | some ns => (Rd.kForms f [ns] (b :: bs)).map (.lam ns.length ·)), ?_, ?_, ?_, ?_⟩
      · intro h; rw [h]
      · intro ns h; rw [h]
      · intro x hx hl
        rw [← hR]
        simp only [hx, hl, if_true]
        cases Rd.namesK ps [] with
        | none => rfl
        | some ns => simp only [flOr_map]
      · intro x hx hl y hy
        rw [← hR] at hy
        simp only [hx, hl, if_true] at hy
        cases hn : Rd.namesK ps [] with
        | none => rw [hn] at hy; cases hy
        | some ns =>
          rw [hn] at hy
          simp only at hy ⊢
          cases hk : Rd.kForms f [ns] (b :: bs) with
          | ok xs => rw [hk] at hy; cases hy; exact ⟨_, rfl, rfl⟩
          | no q => rw [hk] at hy; cases hy
          | bad q => rw [hk] at hy; cases hy
  · intro d1 r h hr hps hn
    subst h
    obtain ⟨b, bs, rfl⟩ := cons_of hr
    simp only [hps] at hR
    rw [← hR]
    rcases hn with hn | hn
    · rw [hn]
    · cases bs with
      | nil => simp at hn
      | cons c cs => split <;> first | rfl | (rename_i e; cases e)
  · intro d1 v' x h hps hn
    subst h
    simp only [hps, hn] at hR
    exact hR.symm
end Go.Proofs.YtodeeegbajgafaaGreatDoor

namespace Go.Proofs.YtodeeegbajgafaaGreatDoor
open Go.RowKit
theorem Rd.kTops_cons (f : Nat) (d : Rd.D) (ds : List Rd.D) : Rd.kTops f (d :: ds) = (Rd.kTop f d).one.app (Rd.kTops f ds) := by
  rw [Rd.kTops]
  cases Rd.kTop f d with
  | bad p => rfl
  | no p => rfl
  | ok x => cases Rd.kTops f ds <;> rfl
theorem Rd.kTops_fine (f : Nat) (ds : List Rd.D) : (Rd.kTops f ds).fine := by
  cases ds with
  | nil => trivial
  | cons d ds => rw [Rd.kTops_cons]; exact Rd.PR.app_fine _ _
/-- What parsing answers. -/
def ParseR (w : World) (r : Rd.PR (List Rd.F)) (e : Ending) (w' : World) : Prop :=
  (∀ xs, r = .ok xs → ∃ fv, e = .returned (.tuple #[fv, .int .i64 0, .int .i64 0]) ∧ RepFs (fun k => w.heap.size ≤ k) w' fv xs) ∧ (∀ q, flOr none r = some q → e = .returned (.tuple #[.slice none 0 0, .int .i64 4, .int .i64 q])) ∧ Below w.heap.size w w'
theorem flt_cell {q : Nat} {sa : Option Addr} {sn sc n : Nat} {w : World} (h : Flt (some q) (.slice sa sn sc) n w) : ∃ g, sa = some ⟨g, 0, none⟩ ∧ sn = n ∧ 0 < n ∧ n ≤ sc ∧ w.cell? ⟨g, 0, none⟩ = some (.int .i64 q) := by
  obtain ⟨⟨cs, hown, hc⟩, _, hpos⟩ := h
  have hp := hpos q rfl
  obtain ⟨hl, ⟨_, h0⟩ | ⟨g, cap, cur, hv, _, hh, h1, h2, h3, h4⟩⟩ := hown
  · omega
  · cases hv
    refine ⟨g, rfl, rfl, hp, h1, ?_⟩
    rw [cell_of_at hh 0]
    have := hc q rfl
    rw [← h4, List.getElem?_take, if_pos (by omega), Array.getElem?_toList] at this
    exact this
theorem PAtK.slice {pb sb kb : Nat} {env : List (List Rd.Sym)} {fl : Option Nat} {fv : Value} {n : Nat} {w : World} (h : PAtK pb sb kb env fl fv n w) : ∃ a c, fv = .slice a n c := by
  obtain ⟨cs, hown, _⟩ := h.flt.row
  obtain ⟨_, ⟨rfl, rfl⟩ | ⟨g, cap, cur, rfl, _⟩⟩ := hown
  · exact ⟨_, _, rfl⟩
  · exact ⟨_, _, rfl⟩
set_option maxHeartbeats 2000000 in
set_option maxRecDepth 10000 in
theorem parse_k (f : Nat) (w : World) (ds : List Rd.D) (sl : Value) (hsl : RepS (fun _ => True) w sl ds) (hf2 : 2 * Rd.kzL ds ≤ f) (hf : f + 1 ≤ 5000) (hz : Rd.kzL ds ≤ 4000) :
    Calls Tryz.prog 27 #[sl] w (ParseR w (Rd.kTops f ds)) := by
  have hlen := Rd.kzL_len ds
  obtain ⟨bb, cap, rfl, hcap⟩ : ∃ b cap, sl = .slice b ds.length cap ∧ ds.length ≤ cap := by
    rcases hsl with ⟨rfl, rfl⟩ | ⟨g, o, cap, c, T, va, vb, vc, rfl, _, _, hn, _⟩
    · exact ⟨none, 0, rfl, Nat.le_refl _⟩
    · exact ⟨_, cap, rfl, hn⟩
  have hmk := fun w => run_make_row' (P := Tryz.prog) 65 96 .nilIface 16 Tryz.underlying65 Tryz.info96 rfl .i64 .i64 ds.length (by omega) (by omega) w
  have hmm := @run_makeMap Tryz.prog
  go_enter Tryz.func27, Tryz.ntmps27
  go_wp2_with (go_at_call 35; refine (keywords_any _).mono ?_; rintro e w1 ⟨rfl, hru, hb1⟩)
  have hsl0 : SlotsAt w.heap.size [] w1 := ⟨#[], 0, Below.at hb1 (at_new w (.map #[] 0)), rfl⟩
  have hru' : SymsAt (w.heap.size + 1) ruleList w1 := by simpa using hru
  have hs1 : w.heap.size + 1 < w1.heap.size := by obtain ⟨es, c, h, _⟩ := hru'; exact lt_of_at h
  have hb01 : Below w.heap.size w w1 := ((Below.refl _ w).alloc (Nat.le_refl _) _).trans (hb1.mono (by simp))
  generalize hw2 : w1.alloc (.cells #[.map (some w.heap.size), .int .i64 0, .map (some (w.heap.size + 1)), .slice none 0 0] 95) = w2
  have hw2s : w2.heap.size = w1.heap.size + 1 := by rw [← hw2]; simp
  have hb02 : Below w.heap.size w w2 := by rw [← hw2]; exact hb01.alloc (by omega) _
  have hb12 : Below w1.heap.size w1 w2 := by rw [← hw2]; exact (Below.refl _ _).alloc (Nat.le_refl _) _
  have hp : PAtK w1.heap.size w.heap.size (w.heap.size + 1) [] none (.slice none 0 0) 0 w2 := by
    refine ⟨⟨⟨95, by rw [← hw2]; exact at_new _ _⟩, ?_, ?_, by omega⟩, ⟨⟨[], ⟨rfl, .inl ⟨rfl, rfl⟩⟩, fun q h => by cases h⟩, fun _ => rfl, fun q h => by cases h⟩, fun k h => by cases h⟩
    · obtain ⟨es, c, h2, h3⟩ := hsl0
      exact ⟨es, c, Below.at hb12 h2, h3⟩
    · obtain ⟨es, c, h2, h3⟩ := hru'
      exact ⟨es, c, Below.at hb12 h2, h3⟩
  have hsl2 : RepS (fun k => ¬ PMK w1.heap.size w.heap.size (.slice none 0 0) k) w2 (.slice bb ds.length cap) ds := hsl.mono fun k hk _ => ⟨fun h => (by rcases h with h | h | h; omega; omega; cases h), hb02.block k hk⟩
  generalize hpb : w1.heap.size = pb at *
  generalize hsb : w.heap.size = sb at *
  have hF0 : FormingK pb sb (sb + 1) [] none (.slice none 0 0) 0 0 w2 (pb + 1) ds.length (.ok []) 0 (.slice none 0 0) 0 (w2.alloc (.cells (madeCells #[.nilIface] ds.length) 96)) := by
    refine ⟨?_, by omega, (Kept.refl _ w2).alloc _, NewF.refl _ _, fun e => (by cases e), madeCells #[.nilIface] ds.length, fun _ => undef, by rw [← hw2s]; exact at_new _ _, by simp [madeCells], fun i hi => absurd hi (Nat.not_lt_zero _), ?_, ?_⟩
    · exact hp.kept ((Below.refl _ w2).alloc (Nat.le_refl _) _)
    · intro i _ hi
      simp [madeCells, hi, Nat.mod_one]
    · intro xs hxs
      cases hxs
      exact ⟨rfl, fun i hi => absurd hi (Nat.not_lt_zero _)⟩
  have HA : Aside (w2.heap.size = pb + 1 ∧ w.heap.size = sb ∧ w1.heap.size = pb ∧ sb + 1 < pb) := ⟨hw2s, hsb, hpb, by omega⟩
  clear hw2 hsl0 hru hru' hb01 hb1 hb12 hw2s hpb hsb hs1
  go_loopg [19] ds.length (fun k i wr => ∃ (j : Nat) (P : Rd.PR (List Rd.F)) (fv' : Value) (n' : Nat), i = .int .i64 j ∧ j + k = ds.length ∧ Hid (P.fine ∧ P.app (Rd.kTops f (ds.drop j)) = Rd.kTops f ds) ∧ FormingK pb sb (sb + 1) [] none (.slice none 0 0) 0 (Rd.kzL ds - Rd.kzL (ds.drop j)) w2 (pb + 1) ds.length P j fv' n' wr)
  case atStart => exact ⟨0, .ok [], _, 0, rfl, by omega, ⟨trivial, by rw [Rd.PR.nil_app _ (Rd.kTops_fine _ _)]; rfl⟩, by simpa using hF0⟩
  case round =>
    obtain ⟨j, P, fv', n', rfl, hj, HP, hF⟩ := hrel
    obtain ⟨hpar, hfew, hkept, hnw, hfar, c, vf, hrow, hcs, hci, hcz, hels⟩ := id hF
    by_cases hlt : j < ds.length
    · have hsr := hsl2.mono (keptK_rep hkept hnw)
      obtain ⟨gd, od, cap', pp, po, pn, pc, ti, xv, heq, hgd, _, d0, d1, d2, hrepd⟩ := hsr.cells j hlt
      cases heq
      have hzz := Rd.kzL_drop_lt ds j hlt
      have hzp := Rd.kzD_pos ds[j]
      have hdl := Rd.kzL_drop ds j
      have hP := HP.out.2
      rw [List.drop_eq_getElem_cons hlt, Rd.kTops_cons, ← Rd.PR.app_assoc] at hP
      have HX2 := (show Hid _ from hP)
      have hrepd2 := hrepd.mono (ok' := fun k => ¬ PMK pb sb fv' k) (w' := wr.alloc (.cells #[.int .i64 pp, .slice po pn pc, .iface ti xv] 62)) (fun k hk h => ⟨h, Below.heap_alloc _ _ _ hk⟩)
      have hpar2 := hpar.kept ((Below.refl _ wr).alloc (Nat.le_refl _) (.cells #[.int .i64 pp, .slice po pn pc, .iface ti xv] 62))
      have hrow2 := at_alloc hrow (.cells #[.int .i64 pp, .slice po pn pc, .iface ti xv] 62)
      have hng : ¬ PMK pb sb fv' (pb + 1) := fun h => by
        obtain ⟨a1, a2, a3, a4⟩ := HA.out
        rcases h with h | h | h
        · omega
        · omega
        · exact hfar h
      have HC : Hid (Calls Tryz.prog 36 #[.pointer (some ⟨pb, 0, none⟩), .agg #[.int .i64 pp, .slice po pn pc, .iface ti xv]] (wr.alloc (.cells #[.int .i64 pp, .slice po pn pc, .iface ti xv] 62)) (RuleT pb sb (sb + 1) [] (flOr none P) fv' n' (Rd.kzD ds[j]) (wr.alloc (.cells #[.int .i64 pp, .slice po pn pc, .iface ti xv] 62)) (Rd.kTop f ds[j]))) := top_k f pb sb (sb + 1) _ fv' n' _ ds[j] _ hpar2 (by omega) hf (by omega) hrepd2
      have hc1 : c[j]? = some .nilIface := hcz j (Nat.le_refl _) hlt
      have HMK : Hid (∀ (v fv2 : Value) (n2 : Nat) (w1 : World), isI v → (∀ x, Rd.kTop f ds[j] = .ok x → RepF (NewOk (wr.alloc (.cells #[.int .i64 pp, .slice po pn pc, .iface ti xv] 62)) fv2) w1 v x) → PAtK pb sb (sb + 1) [] (flOr (flOr none P) (Rd.kTop f ds[j])) fv2 n2 w1 → n2 ≤ n' + Rd.kzD ds[j] → Kept (PMK pb sb fv') (wr.alloc (.cells #[.int .i64 pp, .slice po pn pc, .iface ti xv] 62)) w1 → NewF (wr.alloc (.cells #[.int .i64 pp, .slice po pn pc, .iface ti xv] 62)) fv' fv2 →
          ∃ (j' : Nat) (P' : Rd.PR (List Rd.F)) (fv' : Value) (n' : Nat), Value.int .i64 ((j : Int) + 1) = .int .i64 (j' : Nat) ∧ j' + (gk - 1) = ds.length ∧ Hid (P'.fine ∧ P'.app (Rd.kTops f (ds.drop j')) = Rd.kTops f ds) ∧ FormingK pb sb (sb + 1) [] none (.slice none 0 0) 0 (Rd.kzL ds - Rd.kzL (ds.drop j')) w2 (pb + 1) ds.length P' j' fv' n' (w1.setCell ⟨pb + 1, j, none⟩ v)) := by
        intro v fv2 n2 w1 a1 a2 a3 a4 a5 a6
        have hA := HA.out
        have hpush := hF.push (by omega) (by omega) hlt a1 a2 a3 a4 a5 a6
        rw [show Rd.kzL ds - Rd.kzL (ds.drop j) + Rd.kzD ds[j] = Rd.kzL ds - Rd.kzL (ds.drop (j + 1)) by omega] at hpush
        exact ⟨j + 1, _, fv2, n2, by go_num, by omega, ⟨Rd.PR.app_fine _ _, HX2.out⟩, hpush⟩
      clear HP hP hsr hsl hrepd hpar hkept hci hels hrow hF0 hp hF hcz hpar2 hrepd2
      rw [Nat.mul_comm 3 j] at d0 d1 d2
      go_wp2_with (go_at_call 36; refine HC.out.mono ?_; rintro e w3 ⟨v, fv2, n2, rfl, hI, hrf, hp1, hn2, hk1, hnw1⟩; have hrow3 := hk1.at hng hrow2; have c3 : w3.cell? ⟨pb + 1, j, none⟩ = some .nilIface := (by rw [cell_of_at hrow3 j, hc1]); have f3 := free_of_at hrow3 j; have HREL := (show Hid _ from HMK.out v fv2 n2 w3 hI hrf hp1 hn2 hk1 hnw1); clear hrf hp1 hk1 hnw1; rcases hI with rfl | ⟨tv, yv, rfl⟩)
      all_goals
        go_roundg (gk - 1)
        case measure => omega
        case rel => exact HREL.out
    · have : j = ds.length := by omega
      subst this
      have hP := HP.out.2
      rw [List.drop_length, show Rd.kTops f [] = .ok [] from rfl, Rd.PR.app_nil _ HP.out.1] at hP
      have HR := (show Hid _ from hP)
      have hfine := HP.out.1
      obtain ⟨fa, fc, rfl⟩ := hpar.slice
      obtain ⟨⟨T, hb⟩, _, _, _⟩ := hpar.par
      have c3 := cell_of_at hb 3
      simp only [List.getElem?_toArray, List.getElem?_cons_zero, List.getElem?_cons_succ] at c3
      have hBB : Below w.heap.size w wr := by
        obtain ⟨a1, a2, a3, a4⟩ := HA.out
        have hkb := hkept.below (B := sb) (by omega) (fun k h => by rcases h with h | h | h; omega; omega; cases h)
        rw [a2]
        exact hb02.trans hkb
      cases P with
      | no q => exact hfine.elim
      | ok xs =>
        obtain rfl : n' = 0 := hpar.flt.none rfl
        obtain ⟨hl, he⟩ := hels xs rfl
        have HFIN : Hid (ParseR w (Rd.kTops f ds) (.returned (.tuple #[.slice (some ⟨pb + 1, 0, none⟩) ds.length ds.length, .int .i64 0, .int .i64 0])) wr) := by
          obtain ⟨a1, a2, a3, a4⟩ := HA.out
          refine ⟨?_, ?_, hBB⟩
          · intro ys hys
            rw [← HR.out] at hys
            cases hys
            refine ⟨_, rfl, ?_⟩
            rw [← hl]
            refine .list (pb + 1) 0 _ c 96 xs vf (by omega) hrow (Nat.le_refl _) (by omega) ?_ ?_
            · intro i hi
              rw [Nat.zero_add]
              exact (hci i (by omega)).1
            · intro i hi
              exact (he i hi).mono fun k _ h => ⟨by have h1 := h.1; omega, rfl⟩
          · intro q hq
            rw [← HR.out] at hq
            cases hq
        clear hsl hF0 HP hp hP hpar hkept hels hci hcz hF hb hfine
        go_wp2
        go_ret3
        exact HFIN.out
      | bad q =>
        obtain ⟨fg, rfl, -, hpos, hle, hc0⟩ := flt_cell hpar.flt
        have HFIN : Hid (ParseR w (Rd.kTops f ds) (.returned (.tuple #[.slice none 0 0, .int .i64 4, .int .i64 q])) wr.drew) := by
          refine ⟨?_, ?_, hBB.drew⟩
          · intro ys hys
            rw [← HR.out] at hys
            cases hys
          · intro q' hq
            rw [← HR.out] at hq
            cases hq
            rfl
        have i1 : (0 : Int) < (n' : Int) := by omega
        clear hsl hF0 HP hp hP hpar hkept hels hci hcz hF hb hfine HR
        go_wp2
        go_region
        go_wp2
        go_ret3
        exact HFIN.out
end Go.Proofs.YtodeeegbajgafaaGreatDoor

namespace Go.Proofs.YtodeeegbajgafaaGreatDoor
namespace Kc
open Go.RowKit
theorem eql_diff {t t' : TypeId} {x x' : Value} (w : World) (h : t ≠ t') : (binOp .eql 60 (.iface t x) (.iface t' x')).run Tryz.prog w = .ok (.bool false) w := by
  have u := Tryz.underlying60
  have h1 : (Op.equal 60 (.iface t x) (.iface t' x')).run Tryz.prog w = .ok false w := by
    unfold Op.equal Op.maxDepth
    rw [show (10000 : Nat) = 9999 + 1 from rfl]
    unfold Op.equalIn
    simp [run_underlying u]
    intro e
    exact absurd e h
  simp only [binOp]
  simp [h1]
theorem eql_num (a b : Int) (w : World) : (binOp .eql 60 (.iface 147 (.int .i64 a)) (.iface 147 (.int .i64 b))).run Tryz.prog w = .ok (.bool (a == b)) w := by
  have u := Tryz.underlying60
  have u' := Tryz.underlying147
  have hc : Tryz.t147.comparable = true := by kernel_rfl
  have h1 : (Op.equal 60 (.iface 147 (.int .i64 a)) (.iface 147 (.int .i64 b))).run Tryz.prog w = .ok (a == b) w := by
    unfold Op.equal Op.maxDepth
    rw [show (10000 : Nat) = 9998 + 1 + 1 from rfl]
    unfold Op.equalIn
    simp [run_underlying u, hc]
    unfold Op.equalIn
    simp [run_underlying u']
  simp only [binOp]
  simp [h1]
theorem eql_truth (a b : Bool) (w : World) : (binOp .eql 60 (.iface 150 (.bool a)) (.iface 150 (.bool b))).run Tryz.prog w = .ok (.bool (a == b)) w := by
  have u := Tryz.underlying60
  have u' := Tryz.underlying150
  have hc : Tryz.t150.comparable = true := by kernel_rfl
  have h1 : (Op.equal 60 (.iface 150 (.bool a)) (.iface 150 (.bool b))).run Tryz.prog w = .ok (a == b) w := by
    unfold Op.equal Op.maxDepth
    rw [show (10000 : Nat) = 9998 + 1 + 1 from rfl]
    unfold Op.equalIn
    simp [run_underlying u, hc]
    unfold Op.equalIn
    simp [run_underlying u']
  simp only [binOp]
  simp [h1]
theorem eql_sym (a b : List UInt8) (w : World) : (binOp .eql 60 (.iface 115 (.string ⟨a.toArray⟩)) (.iface 115 (.string ⟨b.toArray⟩))).run Tryz.prog w = .ok (.bool (a == b)) w := by
  have u := Tryz.underlying60
  have u' := Tryz.underlying115
  have hc : Tryz.t115.comparable = true := by kernel_rfl
  have h1 : (Op.equal 60 (.iface 115 (.string ⟨a.toArray⟩)) (.iface 115 (.string ⟨b.toArray⟩))).run Tryz.prog w = .ok (a == b) w := by
    unfold Op.equal Op.maxDepth
    rw [show (10000 : Nat) = 9998 + 1 + 1 from rfl]
    unfold Op.equalIn
    simp [run_underlying u, hc]
    unfold Op.equalIn
    simp [run_underlying u', bytes_beq]
  simp only [binOp]
  simp [h1]
theorem eql_empty (w : World) : (binOp .eql 60 (.iface 146 (.agg #[])) (.iface 146 (.agg #[]))).run Tryz.prog w = .ok (.bool true) w := by kernel_rfl
set_option maxHeartbeats 2000000 in
theorem same_147 (w : World) (g o cap : Nat) (hcap : 2 ≤ cap) (z0 z1 : Value) (t1 : TypeId) (r : Bool) (c0 : w.cell? ⟨g, o, none⟩ = some (.iface 147 z0)) (c1 : w.cell? ⟨g, o + 1, none⟩ = some (.iface t1 z1)) (hq : ∀ W, (binOp .eql 60 (.iface 147 z0) (.iface t1 z1)).run Tryz.prog W = .ok (.bool r) W) :
    Calls Tryz.prog 88 #[.slice (some ⟨g, o, none⟩) 2 cap] w fun e w' => e = .returned (.tuple #[.iface 150 (.bool r), .int .i64 0]) ∧ Below w.heap.size w w' := by
  have m147 := fun W => ta_hit147 z0 W
  have m150 := fun W => ta_miss150 147 z0 W (by decide)
  have m115 := fun W => ta_miss115 147 z0 W (by decide)
  have m146 := fun W => ta_miss146 147 z0 W (by decide)
  have hB : Below w.heap.size w w.drew := (Below.refl _ w).drew
  have j1 : ¬ cap = 0 := by omega
  have j2 : ¬ cap = 1 := by omega
  go_enter Tryz.func88, Tryz.ntmps88
  go_wp2
  go_region
  all_goals
    go_wp2
    go_ret2
    exact ⟨rfl, hB⟩
set_option maxHeartbeats 2000000 in
theorem same_150 (w : World) (g o cap : Nat) (hcap : 2 ≤ cap) (z0 z1 : Value) (t1 : TypeId) (r : Bool) (c0 : w.cell? ⟨g, o, none⟩ = some (.iface 150 z0)) (c1 : w.cell? ⟨g, o + 1, none⟩ = some (.iface t1 z1)) (hq : ∀ W, (binOp .eql 60 (.iface 150 z0) (.iface t1 z1)).run Tryz.prog W = .ok (.bool r) W) :
    Calls Tryz.prog 88 #[.slice (some ⟨g, o, none⟩) 2 cap] w fun e w' => e = .returned (.tuple #[.iface 150 (.bool r), .int .i64 0]) ∧ Below w.heap.size w w' := by
  have m147 := fun W => ta_miss147 150 z0 W (by decide)
  have m150 := fun W => ta_hit150 z0 W
  have m115 := fun W => ta_miss115 150 z0 W (by decide)
  have m146 := fun W => ta_miss146 150 z0 W (by decide)
  have hB : Below w.heap.size w w.drew := (Below.refl _ w).drew
  have j1 : ¬ cap = 0 := by omega
  have j2 : ¬ cap = 1 := by omega
  go_enter Tryz.func88, Tryz.ntmps88
  go_wp2
  go_region
  all_goals
    go_wp2
    go_ret2
    exact ⟨rfl, hB⟩
set_option maxHeartbeats 2000000 in
theorem same_115 (w : World) (g o cap : Nat) (hcap : 2 ≤ cap) (z0 z1 : Value) (t1 : TypeId) (r : Bool) (c0 : w.cell? ⟨g, o, none⟩ = some (.iface 115 z0)) (c1 : w.cell? ⟨g, o + 1, none⟩ = some (.iface t1 z1)) (hq : ∀ W, (binOp .eql 60 (.iface 115 z0) (.iface t1 z1)).run Tryz.prog W = .ok (.bool r) W) :
    Calls Tryz.prog 88 #[.slice (some ⟨g, o, none⟩) 2 cap] w fun e w' => e = .returned (.tuple #[.iface 150 (.bool r), .int .i64 0]) ∧ Below w.heap.size w w' := by
  have m147 := fun W => ta_miss147 115 z0 W (by decide)
  have m150 := fun W => ta_miss150 115 z0 W (by decide)
  have m115 := fun W => ta_hit115 z0 W
  have m146 := fun W => ta_miss146 115 z0 W (by decide)
  have hB : Below w.heap.size w w.drew := (Below.refl _ w).drew
  have j1 : ¬ cap = 0 := by omega
  have j2 : ¬ cap = 1 := by omega
  go_enter Tryz.func88, Tryz.ntmps88
  go_wp2
  go_region
  all_goals
    go_wp2
    go_ret2
    exact ⟨rfl, hB⟩
set_option maxHeartbeats 2000000 in
theorem same_146 (w : World) (g o cap : Nat) (hcap : 2 ≤ cap) (z0 z1 : Value) (t1 : TypeId) (r : Bool) (c0 : w.cell? ⟨g, o, none⟩ = some (.iface 146 z0)) (c1 : w.cell? ⟨g, o + 1, none⟩ = some (.iface t1 z1)) (hq : ∀ W, (binOp .eql 60 (.iface 146 z0) (.iface t1 z1)).run Tryz.prog W = .ok (.bool r) W) :
    Calls Tryz.prog 88 #[.slice (some ⟨g, o, none⟩) 2 cap] w fun e w' => e = .returned (.tuple #[.iface 150 (.bool r), .int .i64 0]) ∧ Below w.heap.size w w' := by
  have m147 := fun W => ta_miss147 146 z0 W (by decide)
  have m150 := fun W => ta_miss150 146 z0 W (by decide)
  have m115 := fun W => ta_miss115 146 z0 W (by decide)
  have m146 := fun W => ta_hit146 z0 W
  have hB : Below w.heap.size w w.drew := (Below.refl _ w).drew
  have j1 : ¬ cap = 0 := by omega
  have j2 : ¬ cap = 1 := by omega
  go_enter Tryz.func88, Tryz.ntmps88
  go_wp2
  go_region
  all_goals
    go_wp2
    go_ret2
    exact ⟨rfl, hB⟩
set_option maxHeartbeats 2000000 in
theorem same_no (w : World) (g o cap : Nat) (hcap : 2 ≤ cap) (z0 : Value) (t0 : TypeId) (h147 : t0 ≠ 147) (h150 : t0 ≠ 150) (h115 : t0 ≠ 115) (h146 : t0 ≠ 146) (c0 : w.cell? ⟨g, o, none⟩ = some (.iface t0 z0)) :
    Calls Tryz.prog 88 #[.slice (some ⟨g, o, none⟩) 2 cap] w fun e w' => e = .returned (.tuple #[.iface 150 (.bool false), .int .i64 0]) ∧ Below w.heap.size w w' := by
  have m147 := fun W => ta_miss147 t0 z0 W h147
  have m150 := fun W => ta_miss150 t0 z0 W h150
  have m115 := fun W => ta_miss115 t0 z0 W h115
  have m146 := fun W => ta_miss146 t0 z0 W h146
  have hB : Below w.heap.size w w := Below.refl _ w
  have j1 : ¬ cap = 0 := by omega
  have j2 : ¬ cap = 1 := by omega
  go_enter Tryz.func88, Tryz.ntmps88
  go_wp2
  go_ret2
  exact ⟨rfl, hB⟩
def sameV : V → V → Bool
  | .atom a, .atom b => a == b
  | _, _ => false
/-- A value's type: another than an atom's, if it is none. -/
theorem RepM.notAtom {t : Gt} {ok : Nat → Prop} {w : World} {y : Value} {v : V} (h : RepM t ok w y (.val v)) (hn : ∀ a, v ≠ .atom a) : ∃ k z, y = .iface k z ∧ k ≠ 147 ∧ k ≠ 150 ∧ k ≠ 115 ∧ k ≠ 146 := by
  cases h with
  | atom a => exact absurd rfl (hn a)
  | pair => exact ⟨_, _, rfl, by decide⟩
  | basic0 => exact ⟨_, _, rfl, by decide⟩
  | basic1 => exact ⟨_, _, rfl, by decide⟩
  | clo => exact ⟨_, _, rfl, by decide⟩
  | cont => exact ⟨_, _, rfl, by decide⟩
theorem eql_atoms (a b : Rd.A) (w : World) : ∃ t0 z0 t1 z1, aV a = .iface t0 z0 ∧ aV b = .iface t1 z1 ∧ (binOp .eql 60 (.iface t0 z0) (.iface t1 z1)).run Tryz.prog w = .ok (.bool (a == b)) w := by
  cases a with
  | num n =>
    cases b with
    | num m => exact ⟨_, _, _, _, rfl, rfl, by rw [eql_num]; congr 2; rw [Bool.eq_iff_iff]; simp⟩
    | truth c => exact ⟨_, _, _, _, rfl, rfl, eql_diff w (by decide)⟩
    | sym c => exact ⟨_, _, _, _, rfl, rfl, eql_diff w (by decide)⟩
    | empty => exact ⟨_, _, _, _, rfl, rfl, eql_diff w (by decide)⟩
  | truth n =>
    cases b with
    | num m => exact ⟨_, _, _, _, rfl, rfl, eql_diff w (by decide)⟩
    | truth c => exact ⟨_, _, _, _, rfl, rfl, by rw [eql_truth]; congr 2; rw [Bool.eq_iff_iff]; simp⟩
    | sym c => exact ⟨_, _, _, _, rfl, rfl, eql_diff w (by decide)⟩
    | empty => exact ⟨_, _, _, _, rfl, rfl, eql_diff w (by decide)⟩
  | sym n =>
    cases b with
    | num m => exact ⟨_, _, _, _, rfl, rfl, eql_diff w (by decide)⟩
    | truth c => exact ⟨_, _, _, _, rfl, rfl, eql_diff w (by decide)⟩
    | sym c => exact ⟨_, _, _, _, rfl, rfl, by rw [eql_sym]; congr 2; rw [Bool.eq_iff_iff]; simp⟩
    | empty => exact ⟨_, _, _, _, rfl, rfl, eql_diff w (by decide)⟩
  | empty =>
    cases b with
    | num m => exact ⟨_, _, _, _, rfl, rfl, eql_diff w (by decide)⟩
    | truth c => exact ⟨_, _, _, _, rfl, rfl, eql_diff w (by decide)⟩
    | sym c => exact ⟨_, _, _, _, rfl, rfl, eql_diff w (by decide)⟩
    | empty => exact ⟨_, _, _, _, rfl, rfl, eql_empty w⟩
theorem same_k (mb : Gt) (ok : Nat → Prop) (w : World) (x : Value) (u v : V) (hx : SlotAt mb ok w x [u, v]) :
    Calls Tryz.prog 88 #[x] w (DoR mb ok w (.atom (.truth (sameV u v)))) := by
  obtain ⟨g, o, cap, rfl, hn, hcap, hat⟩ := hx.atK
  obtain ⟨y0, c0, h0⟩ := hat 0 (by simp)
  obtain ⟨y1, c1, h1⟩ := hat 1 (by simp)
  simp only [List.length_cons, List.length_nil, Nat.add_zero, Nat.zero_add, List.getElem_cons_zero, List.getElem_cons_succ] at *
  have fin : ∀ {r : Bool}, (Calls Tryz.prog 88 #[.slice (some ⟨g, o, none⟩) 2 cap] w fun e w' => e = .returned (.tuple #[.iface 150 (.bool r), .int .i64 0]) ∧ Below w.heap.size w w') → Calls Tryz.prog 88 #[.slice (some ⟨g, o, none⟩) 2 cap] w (DoR mb ok w (.atom (.truth r))) := fun h => h.mono fun e w' ⟨h1, h2⟩ => ⟨_, h1, .atom (.truth _), h2⟩
  apply fin
  by_cases hu : ∃ a, u = .atom a
  case neg =>
    obtain ⟨k, z, rfl, k1, k2, k3, k4⟩ := h0.notAtom (fun a e => hu ⟨a, e⟩)
    have hs : sameV u v = false := by
      cases u with
      | atom a => exact absurd ⟨a, rfl⟩ hu
      | pair => rfl
      | basic => rfl
      | clo => rfl
      | cont => rfl
    rw [hs]
    exact same_no w g o cap hn z k k1 k2 k3 k4 c0
  obtain ⟨a, rfl⟩ := hu
  obtain rfl := h0.atom_inv
  have hq : ∃ t1 z1, y1 = .iface t1 z1 ∧ ∀ t0 z0, aV a = .iface t0 z0 → ∀ W, (binOp .eql 60 (.iface t0 z0) (.iface t1 z1)).run Tryz.prog W = .ok (.bool (sameV (.atom a) v)) W := by
    by_cases hv : ∃ b, v = .atom b
    · obtain ⟨b, rfl⟩ := hv
      obtain rfl := h1.atom_inv
      obtain ⟨t0, z0, t1, z1, e0, e1, _⟩ := eql_atoms a b w
      refine ⟨t1, z1, e1, fun t z h W => ?_⟩
      obtain ⟨t0', z0', t1', z1', f0, f1, f2⟩ := eql_atoms a b W
      rw [h] at f0
      rw [e1] at f1
      cases f0
      cases f1
      exact f2
    · obtain ⟨k, z, rfl, k1, k2, k3, k4⟩ := h1.notAtom (fun b e => hv ⟨b, e⟩)
      have hs : sameV (.atom a) v = false := by
        cases v with
        | atom b => exact absurd ⟨b, rfl⟩ hv
        | pair => rfl
        | basic => rfl
        | clo => rfl
        | cont => rfl
      rw [hs]
      refine ⟨k, z, rfl, fun t0 z0 h W => eql_diff W ?_⟩
      cases a with
      | num n => cases h; exact fun e => k1 e.symm
      | truth n => cases h; exact fun e => k2 e.symm
      | sym n => cases h; exact fun e => k3 e.symm
      | empty => cases h; exact fun e => k4 e.symm
  obtain ⟨t1, z1, rfl, hq⟩ := hq
  cases a with
  | num n => exact same_147 w g o cap hn _ z1 t1 _ c0 c1 (hq _ _ rfl)
  | truth n => exact same_150 w g o cap hn _ z1 t1 _ c0 c1 (hq _ _ rfl)
  | sym n => exact same_115 w g o cap hn _ z1 t1 _ c0 c1 (hq _ _ rfl)
  | empty => exact same_146 w g o cap hn _ z1 t1 _ c0 c1 (hq _ _ rfl)
end Kc
end Go.Proofs.YtodeeegbajgafaaGreatDoor

namespace Go.Proofs.YtodeeegbajgafaaGreatDoor
namespace Kc
open Go.RowKit
/-- What a procedure that is there answers. -/
def DoResK (mb : Gt) (ok : Nat → Prop) (w : World) : Res → Ending → World → Prop
  | .val v => DoR mb ok w v
  | .wrong y => fun e w' => e = .returned (.tuple #[.nilIface, .int .i64 y]) ∧ Below w.heap.size w w'
  | .shows _ => fun _ _ => False
theorem NumR.do {mb : Gt} {ok : Nat → Prop} {w : World} {r : Res} {e : Ending} {w' : World} (h : NumR w r e w') : DoResK mb ok w r e w' := by
  obtain ⟨⟨v, y, rfl, hr⟩, hb⟩ := h
  match r, hr with
  | .val (.atom a), ⟨h1, h2⟩ =>
    subst h1 h2
    exact ⟨_, rfl, .atom a, hb⟩
  | .wrong k, ⟨h1, h2⟩ =>
    subst h1 h2
    exact ⟨rfl, hb⟩
theorem nums_len : ∀ (vs : List V) (ns : List Int), nums vs = some ns → ns.length = vs.length
  | [], ns, h => by rw [nums] at h; cases h; rfl
  | v :: vs, ns, h => by
    by_cases hv : ∃ n, v = .atom (.num n)
    · obtain ⟨n, rfl⟩ := hv
      rw [nums_cons_num] at h
      cases h1 : nums vs with
      | none => rw [h1] at h; cases h
      | some ms =>
        rw [h1] at h
        cases h
        simp [nums_len vs ms h1]
    · rw [nums_cons_no (fun n e => hv ⟨n, e⟩)] at h
      cases h
theorem RepM.no115 {t : Gt} {ok : Nat → Prop} {w : World} {y : Value} {v : V} (h : RepM t ok w y (.val v)) (hn : ∀ a, v ≠ .atom (.sym a)) : ∃ k z, y = .iface k z ∧ k ≠ 115 := by
  cases h with
  | atom a => cases a <;> first | exact ⟨_, _, rfl, by decide⟩ | exact absurd rfl (hn _)
  | pair => exact ⟨_, _, rfl, by decide⟩
  | basic0 => exact ⟨_, _, rfl, by decide⟩
  | basic1 => exact ⟨_, _, rfl, by decide⟩
  | clo => exact ⟨_, _, rfl, by decide⟩
  | cont => exact ⟨_, _, rfl, by decide⟩
theorem RepM.no150 {t : Gt} {ok : Nat → Prop} {w : World} {y : Value} {v : V} (h : RepM t ok w y (.val v)) (hn : ∀ a, v ≠ .atom (.truth a)) : ∃ k z, y = .iface k z ∧ k ≠ 150 := by
  cases h with
  | atom a => cases a <;> first | exact ⟨_, _, rfl, by decide⟩ | exact absurd rfl (hn _)
  | pair => exact ⟨_, _, rfl, by decide⟩
  | basic0 => exact ⟨_, _, rfl, by decide⟩
  | basic1 => exact ⟨_, _, rfl, by decide⟩
  | clo => exact ⟨_, _, rfl, by decide⟩
  | cont => exact ⟨_, _, rfl, by decide⟩
theorem missing_some (want : Array (String × TypeId)) (got : Array Method) (h : (want.toList.filter (fun x => match x with | (name, sig) => !got.any fun m => m.name == name && m.sig == sig)).map (fun x => x.fst) = ["Takes"]) : ∃ m, Instr.missingMethod want got = some m := by
  unfold Instr.missingMethod
  simp only [h]
  cases hc : ("Takes".contains (Char.ofNat 46)) <;> simp [List.partition, List.partition.loop, hc, Instr.least]
theorem tp_miss (t : TypeId) (got : Array Method) (v : Value) (w : World) (h : ∃ m, Instr.missingMethod #[("AppendShown", 64), ("Takes", 159)] got = some m) (ht : ∀ w, ∃ i, (typeInfo t).run Tryz.prog w = .ok i w ∧ i.methods = got) : (Instr.typeAssert (.iface t v) 60 149 true).run Tryz.prog w = .ok (.tuple #[.nilIface, .bool false]) w := by
  obtain ⟨m, hm⟩ := h
  obtain ⟨i, h1, h2⟩ := ht w
  subst h2
  simp [Instr.typeAssert, run_underlying Tryz.underlying149, Tryz.zeroValue149, h1, hm, go_sem]
theorem tp_115 (v : Value) (w : World) : (Instr.typeAssert (.iface 115 v) 60 149 true).run Tryz.prog w = .ok (.tuple #[.nilIface, .bool false]) w := tp_miss 115 Tryz.t115.methods v w (missing_some _ _ (by kernel_rfl)) (fun w => ⟨Tryz.t115, by kernel_rfl, rfl⟩)
theorem tp_124 (v : Value) (w : World) : (Instr.typeAssert (.iface 124 v) 60 149 true).run Tryz.prog w = .ok (.tuple #[.nilIface, .bool false]) w := tp_miss 124 Tryz.t124.methods v w (missing_some _ _ (by kernel_rfl)) (fun w => ⟨Tryz.t124, by kernel_rfl, rfl⟩)
theorem tp_146 (v : Value) (w : World) : (Instr.typeAssert (.iface 146 v) 60 149 true).run Tryz.prog w = .ok (.tuple #[.nilIface, .bool false]) w := tp_miss 146 Tryz.t146.methods v w (missing_some _ _ (by kernel_rfl)) (fun w => ⟨Tryz.t146, by kernel_rfl, rfl⟩)
theorem tp_147 (v : Value) (w : World) : (Instr.typeAssert (.iface 147 v) 60 149 true).run Tryz.prog w = .ok (.tuple #[.nilIface, .bool false]) w := tp_miss 147 Tryz.t147.methods v w (missing_some _ _ (by kernel_rfl)) (fun w => ⟨Tryz.t147, by kernel_rfl, rfl⟩)
theorem tp_150 (v : Value) (w : World) : (Instr.typeAssert (.iface 150 v) 60 149 true).run Tryz.prog w = .ok (.tuple #[.nilIface, .bool false]) w := tp_miss 150 Tryz.t150.methods v w (missing_some _ _ (by kernel_rfl)) (fun w => ⟨Tryz.t150, by kernel_rfl, rfl⟩)
theorem RepM.ta149 {t : Gt} {ok : Nat → Prop} {w : World} {y : Value} {v : V} (h : RepM t ok w y (.val v)) : ∃ k z u, y = .iface k z ∧ ∀ W, (Instr.typeAssert (.iface k z) 60 149 true).run Tryz.prog W = .ok (.tuple #[u, .bool (isProc v)]) W := by
  cases h with
  | atom a =>
    cases a with
    | num n => exact ⟨_, _, _, rfl, fun W => tp_147 _ W⟩
    | truth b => exact ⟨_, _, _, rfl, fun W => tp_150 _ W⟩
    | sym n => exact ⟨_, _, _, rfl, fun W => tp_115 _ W⟩
    | empty => exact ⟨_, _, _, rfl, fun W => tp_146 _ W⟩
  | pair => exact ⟨_, _, _, rfl, fun W => tp_124 _ W⟩
  | basic0 => exact ⟨_, _, _, rfl, fun W => tp_111 _ W⟩
  | basic1 => exact ⟨_, _, _, rfl, fun W => tp_111 _ W⟩
  | clo => exact ⟨_, _, _, rfl, fun W => tp_226 _ W⟩
  | cont => exact ⟨_, _, _, rfl, fun W => tp_258 _ W⟩
theorem one_of {vs : List V} (h : vs.length = 1) : ∃ v, vs = [v] := by
  match vs, h with
  | [v], _ => exact ⟨v, rfl⟩
theorem two_of {vs : List V} (h : vs.length = 2) : ∃ u v, vs = [u, v] := by
  match vs, h with
  | [u, v], _ => exact ⟨u, v, rfl⟩
/-- A function that is called by its number. -/
def Ent (k : Nat) : Prop := ∀ (args : Array Value) (w : World), Sem.run Tryz.prog (callFunc k args) w = .ok (.enter k args) w
theorem ent77 : Ent 77 := fun _ _ => by kernel_rfl
theorem ent81 : Ent 81 := fun _ _ => by kernel_rfl
theorem ent82 : Ent 82 := fun _ _ => by kernel_rfl
theorem ent83 : Ent 83 := fun _ _ => by kernel_rfl
theorem ent84 : Ent 84 := fun _ _ => by kernel_rfl
theorem ent85 : Ent 85 := fun _ _ => by kernel_rfl
theorem ent86 : Ent 86 := fun _ _ => by kernel_rfl
theorem ent87 : Ent 87 := fun _ _ => by kernel_rfl
theorem ent88 : Ent 88 := fun _ _ => by kernel_rfl
theorem ent89 : Ent 89 := fun _ _ => by kernel_rfl
theorem ent115 : Ent 115 := fun _ _ => by kernel_rfl
theorem ent127 : Ent 127 := fun _ _ => by kernel_rfl
theorem ent129 : Ent 129 := fun _ _ => by kernel_rfl
/-- What its function does. -/
def FunK (mb : Gt) (ok : Nat → Prop) (w : World) (x fv : Value) (r : Res) : Prop := (∃ k, Ent k ∧ fv = fnV k ∧ Calls Tryz.prog k #[x] w (DoResK mb ok w r)) ∨ ∃ k c, Ent k ∧ fv = capFn k [c] ∧ Calls Tryz.prog k #[x, ptrV c] w (DoResK mb ok w r)
def FvAt (mb : Gt) (ok : Nat → Prop) (w : World) (i : Nat) (fv : Value) : Prop := ((basicTab mb.m i).2.2.2 = none ∧ fv = fnV (basicTab mb.m i).2.2.1) ∨ ∃ c y T', (basicTab mb.m i).2.2.2 = some y ∧ fv = capFn (basicTab mb.m i).2.2.1 [c] ∧ ok c ∧ w.heap[c]? = some (.cells #[y] T' (0, 0))
theorem takes_n {i n k : Nat} (h : takesB i n = true) (ha : arity i = (k, some k)) : n = k := by
  unfold takesB at h
  rw [ha] at h
  simp at h
  omega
theorem takes_1 {i n : Nat} (h : takesB i n = true) (ha : arity i = (1, none)) : 1 ≤ n := by
  unfold takesB at h
  rw [ha] at h
  simp at h
  omega
theorem diff_eq : (fun ns : List Int => (match ns with
    | [] => Res.wrong 0
    | [n] => numR (fold (· - ·) 0 [n])
    | n :: ns => numR (fold (· - ·) n ns))) = diffR := by
  funext ns
  rcases ns with _ | ⟨a, _ | ⟨b, r⟩⟩ <;> rfl
theorem basic_doK {mb : Gt} {ok : Nat → Prop} {w : World} (hok : ∀ k, w.heap.size ≤ k → ok k) {i : Nat} {x : Value} {vs : List V} (hx : SlotAt mb ok w x vs) (ht : takesB i vs.length = true) (hs : ∀ v, basicDo i vs ≠ .shows v) (hfine : ∀ v, v ∈ vs → fine v) (hlen : vs.length ≤ 100000) {fv : Value}
    (hf : FvAt mb ok w i fv) : FunK mb ok w x fv (basicDo i vs) := by
  have num : ∀ (k : Nat) (hk : k = 68 ∨ k = 69 ∨ k = 70 ∨ k = 72 ∨ k = 73 ∨ k = 74 ∨ k = 75 ∨ k = 76) (do_ : List Int → Res) (P : List Int → Prop), NumK k do_ P → (∀ ns, nums vs = some ns → P ns) → (basicTab mb.m i).2.2.1 = 115 → (basicTab mb.m i).2.2.2 = some (fnV k) → basicDo i vs = ofNums do_ vs → FunK mb ok w x fv (basicDo i vs) := by
    intro k hk do_ P HK hP h1 h2 h0
    rw [h0]
    rcases hf with ⟨h3, _⟩ | ⟨c, y, T', h3, rfl, hc, hh⟩
    · rw [h2] at h3; cases h3
    · rw [h2] at h3
      cases h3
      rw [h1]
      exact Or.inr ⟨115, c, ent115, rfl, (ofNumbers_k k hk do_ P HK mb ok w x vs hx hP hfine hlen c T' hh).mono fun _ _ => NumR.do⟩
  have fn : ∀ (k : Nat), Ent k → (basicTab mb.m i).2.2.1 = k → (basicTab mb.m i).2.2.2 = none → Calls Tryz.prog k #[x] w (DoResK mb ok w (basicDo i vs)) → FunK mb ok w x fv (basicDo i vs) := by
    intro k he h1 h2 H
    rcases hf with ⟨_, rfl⟩ | ⟨c, y, T', h3, _⟩
    · rw [h1]
      exact Or.inl ⟨k, he, rfl, H⟩
    · rw [h2] at h3; cases h3
  have ne : ∀ ns, nums vs = some ns → 1 ≤ vs.length → ns ≠ [] := fun ns h h1 e => by
    have := nums_len vs ns h
    rw [e] at this
    simp at this
    omega
  match i with
  | 0 => exact num 68 (by decide) _ _ sum_k (fun _ _ => trivial) rfl rfl rfl
  | 1 => exact num 69 (by decide) _ _ product_k (fun _ _ => trivial) rfl rfl rfl
  | 2 => exact num 70 (by decide) _ _ difference_k (fun ns h => ne ns h (takes_1 ht rfl)) rfl rfl (by rw [← diff_eq]; rfl)
  | 3 => exact num 72 (by decide) _ _ quotient_k (fun ns h => by rw [nums_len vs ns h]; exact takes_n ht rfl) rfl rfl rfl
  | 4 => exact num 73 (by decide) _ _ remainder_k (fun ns h => by rw [nums_len vs ns h]; exact takes_n ht rfl) rfl rfl rfl
  | 5 => exact num 74 (by decide) _ _ less_k (fun ns h => ne ns h (takes_1 ht rfl)) rfl rfl rfl
  | 6 => exact num 75 (by decide) _ _ greater_k (fun ns h => ne ns h (takes_1 ht rfl)) rfl rfl rfl
  | 7 => exact num 76 (by decide) _ _ equal_k (fun ns h => ne ns h (takes_1 ht rfl)) rfl rfl rfl
  | 8 =>
    obtain ⟨u, v, rfl⟩ := two_of (takes_n ht rfl)
    exact fn 77 ent77 rfl rfl (doCons mb ok w hok x u v hx)
  | 9 =>
    obtain ⟨v, rfl⟩ := one_of (takes_n ht rfl)
    rcases hf with ⟨h3, _⟩ | ⟨c, y, T', h3, rfl, hc, hh⟩
    · cases h3
    · cases h3
      refine Or.inr ⟨127, c, ent127, rfl, ?_⟩
      cases v with
      | pair a b => exact doCar mb ok w x a b hx c T' hh
      | atom a => exact (doNoPair mb ok w x _ (fun _ _ e => by cases e) hx c).mono fun _ _ ⟨h1, h2⟩ => ⟨h1, h2 ▸ Below.refl _ _⟩
      | basic a => exact (doNoPair mb ok w x _ (fun _ _ e => by cases e) hx c).mono fun _ _ ⟨h1, h2⟩ => ⟨h1, h2 ▸ Below.refl _ _⟩
      | clo a b e => exact (doNoPair mb ok w x _ (fun _ _ e => by cases e) hx c).mono fun _ _ ⟨h1, h2⟩ => ⟨h1, h2 ▸ Below.refl _ _⟩
      | cont a => exact (doNoPair mb ok w x _ (fun _ _ e => by cases e) hx c).mono fun _ _ ⟨h1, h2⟩ => ⟨h1, h2 ▸ Below.refl _ _⟩
  | 10 =>
    obtain ⟨v, rfl⟩ := one_of (takes_n ht rfl)
    rcases hf with ⟨h3, _⟩ | ⟨c, y, T', h3, rfl, hc, hh⟩
    · cases h3
    · cases h3
      refine Or.inr ⟨127, c, ent127, rfl, ?_⟩
      cases v with
      | pair a b => exact doCdr mb ok w x a b hx c T' hh
      | atom a => exact (doNoPair mb ok w x _ (fun _ _ e => by cases e) hx c).mono fun _ _ ⟨h1, h2⟩ => ⟨h1, h2 ▸ Below.refl _ _⟩
      | basic a => exact (doNoPair mb ok w x _ (fun _ _ e => by cases e) hx c).mono fun _ _ ⟨h1, h2⟩ => ⟨h1, h2 ▸ Below.refl _ _⟩
      | clo a b e => exact (doNoPair mb ok w x _ (fun _ _ e => by cases e) hx c).mono fun _ _ ⟨h1, h2⟩ => ⟨h1, h2 ▸ Below.refl _ _⟩
      | cont a => exact (doNoPair mb ok w x _ (fun _ _ e => by cases e) hx c).mono fun _ _ ⟨h1, h2⟩ => ⟨h1, h2 ▸ Below.refl _ _⟩
  | 11 => exact fn 81 ent81 rfl rfl (doList mb ok w hok x vs hx)
  | 12 =>
    obtain ⟨v, rfl⟩ := one_of (takes_n ht rfl)
    refine fn 82 ent82 rfl rfl ?_
    have no : leaf v → ∀ y, RepM mb ok w y (.val v) → ∃ t z u, y = .iface t z ∧ ∀ W, (Instr.typeAssert (.iface t z) 60 124 true).run Tryz.prog W = .ok (.tuple #[u, .bool false]) W := fun hl y hy => by
      obtain ⟨k, z, rfl, hk⟩ := hy.no124 hl
      exact ⟨_, _, _, rfl, fun W => ta_miss124 k z W hk⟩
    cases v with
    | pair a b => exact isPair_k mb ok w x _ true hx fun y hy => by obtain ⟨b, y0, z0, T, rfl, _⟩ := hy.pair_inv; exact ⟨_, _, _, rfl, fun W => ta_hit124 _ W⟩
    | atom a => exact isPair_k mb ok w x _ false hx (no (fun _ _ e => by cases e))
    | basic a => exact isPair_k mb ok w x _ false hx (no (fun _ _ e => by cases e))
    | clo a b e => exact isPair_k mb ok w x _ false hx (no (fun _ _ e => by cases e))
    | cont a => exact isPair_k mb ok w x _ false hx (no (fun _ _ e => by cases e))
  | 13 =>
    obtain ⟨v, rfl⟩ := one_of (takes_n ht rfl)
    refine fn 83 ent83 rfl rfl ?_
    have no : v ≠ .atom .empty → ∀ y, RepM mb ok w y (.val v) → ∃ t z, y = .iface t z ∧ ∀ W, (Instr.typeAssert (.iface t z) 60 146 true).run Tryz.prog W = .ok (.tuple #[.agg #[], .bool false]) W := fun hl y hy => by
      obtain ⟨k, z, rfl, hk⟩ := hy.no146 hl
      exact ⟨_, _, rfl, fun W => ta_miss146 k z W hk⟩
    cases v with
    | atom a =>
      cases a with
      | empty => exact isNull_k mb ok w x _ true hx fun y hy => by obtain rfl := hy.atom_inv; exact ⟨_, _, rfl, fun W => ta_hit146 _ W⟩
      | num n => exact isNull_k mb ok w x _ false hx (no (fun e => by cases e))
      | truth n => exact isNull_k mb ok w x _ false hx (no (fun e => by cases e))
      | sym n => exact isNull_k mb ok w x _ false hx (no (fun e => by cases e))
    | pair a b => exact isNull_k mb ok w x _ false hx (no (fun e => by cases e))
    | basic a => exact isNull_k mb ok w x _ false hx (no (fun e => by cases e))
    | clo a b e => exact isNull_k mb ok w x _ false hx (no (fun e => by cases e))
    | cont a => exact isNull_k mb ok w x _ false hx (no (fun e => by cases e))
  | 14 =>
    obtain ⟨v, rfl⟩ := one_of (takes_n ht rfl)
    refine fn 84 ent84 rfl rfl ?_
    have no : (∀ n, v ≠ .atom (.num n)) → ∀ y, RepM mb ok w y (.val v) → ∃ t z u, y = .iface t z ∧ ∀ W, (Instr.typeAssert (.iface t z) 60 147 true).run Tryz.prog W = .ok (.tuple #[u, .bool false]) W := fun hl y hy => by
      obtain ⟨k, z, rfl, hk⟩ := hy.no147 hl
      exact ⟨_, _, _, rfl, fun W => ta_miss147 k z W hk⟩
    cases v with
    | atom a =>
      cases a with
      | num n => exact isNum_k mb ok w x _ true hx fun y hy => by obtain rfl := hy.atom_inv; exact ⟨_, _, _, rfl, fun W => ta_hit147 _ W⟩
      | empty => exact isNum_k mb ok w x _ false hx (no (fun _ e => by cases e))
      | truth n => exact isNum_k mb ok w x _ false hx (no (fun _ e => by cases e))
      | sym n => exact isNum_k mb ok w x _ false hx (no (fun _ e => by cases e))
    | pair a b => exact isNum_k mb ok w x _ false hx (no (fun _ e => by cases e))
    | basic a => exact isNum_k mb ok w x _ false hx (no (fun _ e => by cases e))
    | clo a b e => exact isNum_k mb ok w x _ false hx (no (fun _ e => by cases e))
    | cont a => exact isNum_k mb ok w x _ false hx (no (fun _ e => by cases e))
  | 15 =>
    obtain ⟨v, rfl⟩ := one_of (takes_n ht rfl)
    refine fn 85 ent85 rfl rfl ?_
    have no : (∀ n, v ≠ .atom (.sym n)) → ∀ y, RepM mb ok w y (.val v) → ∃ t z u, y = .iface t z ∧ ∀ W, (Instr.typeAssert (.iface t z) 60 115 true).run Tryz.prog W = .ok (.tuple #[u, .bool false]) W := fun hl y hy => by
      obtain ⟨k, z, rfl, hk⟩ := hy.no115 hl
      exact ⟨_, _, _, rfl, fun W => ta_miss115 k z W hk⟩
    cases v with
    | atom a =>
      cases a with
      | sym n => exact isSym_k mb ok w x _ true hx fun y hy => by obtain rfl := hy.atom_inv; exact ⟨_, _, _, rfl, fun W => ta_hit115 _ W⟩
      | empty => exact isSym_k mb ok w x _ false hx (no (fun _ e => by cases e))
      | truth n => exact isSym_k mb ok w x _ false hx (no (fun _ e => by cases e))
      | num n => exact isSym_k mb ok w x _ false hx (no (fun _ e => by cases e))
    | pair a b => exact isSym_k mb ok w x _ false hx (no (fun _ e => by cases e))
    | basic a => exact isSym_k mb ok w x _ false hx (no (fun _ e => by cases e))
    | clo a b e => exact isSym_k mb ok w x _ false hx (no (fun _ e => by cases e))
    | cont a => exact isSym_k mb ok w x _ false hx (no (fun _ e => by cases e))
  | 16 =>
    obtain ⟨v, rfl⟩ := one_of (takes_n ht rfl)
    exact fn 86 ent86 rfl rfl (isProc_k mb ok w x v (isProc v) hx fun y hy => hy.ta149)
  | 17 =>
    obtain ⟨v, rfl⟩ := one_of (takes_n ht rfl)
    refine fn 87 ent87 rfl rfl ?_
    have no : (∀ n, v ≠ .atom (.truth n)) → ∀ y, RepM mb ok w y (.val v) → ∃ t z u, y = .iface t z ∧ ∀ W, (Instr.typeAssert (.iface t z) 60 150 true).run Tryz.prog W = .ok (.tuple #[u, .bool false]) W := fun hl y hy => by
      obtain ⟨k, z, rfl, hk⟩ := hy.no150 hl
      exact ⟨_, _, _, rfl, fun W => ta_miss150 k z W hk⟩
    cases v with
    | atom a =>
      cases a with
      | truth n => exact isTruth_k mb ok w x _ true hx fun y hy => by obtain rfl := hy.atom_inv; exact ⟨_, _, _, rfl, fun W => ta_hit150 _ W⟩
      | empty => exact isTruth_k mb ok w x _ false hx (no (fun _ e => by cases e))
      | sym n => exact isTruth_k mb ok w x _ false hx (no (fun _ e => by cases e))
      | num n => exact isTruth_k mb ok w x _ false hx (no (fun _ e => by cases e))
    | pair a b => exact isTruth_k mb ok w x _ false hx (no (fun _ e => by cases e))
    | basic a => exact isTruth_k mb ok w x _ false hx (no (fun _ e => by cases e))
    | clo a b e => exact isTruth_k mb ok w x _ false hx (no (fun _ e => by cases e))
    | cont a => exact isTruth_k mb ok w x _ false hx (no (fun _ e => by cases e))
  | 18 =>
    obtain ⟨u, v, rfl⟩ := two_of (takes_n ht rfl)
    refine fn 88 ent88 rfl rfl ?_
    have e0 : basicDo 18 [u, v] = .val (.atom (.truth (sameV u v))) := by cases u <;> cases v <;> rfl
    rw [e0]
    exact same_k mb ok w x u v hx
  | 19 =>
    obtain ⟨v, rfl⟩ := one_of (takes_n ht rfl)
    exact fn 89 ent89 rfl rfl (not_k mb ok w x v hx)
  | n + 20 =>
    obtain ⟨v, rfl⟩ := one_of (takes_n ht rfl)
    exact absurd rfl (hs v)
/-- What goes wrong has a reason. -/
theorem wrong_ne {i : Nat} {vs : List V} (ht : takesB i vs.length = true) {y : Nat} (h : basicDo i vs = .wrong y) : y ≠ 0 := by
  have num : ∀ (do_ : List Int → Res) (ns : List Int → Prop), (∀ ms, nums vs = some ms → ns ms) → (∀ ms k, ns ms → do_ ms = .wrong k → k ≠ 0) → ofNums do_ vs = .wrong y → y ≠ 0 := by
    intro do_ P hP hd h
    unfold ofNums at h
    cases hn : nums vs with
    | none => rw [hn] at h; cases h; decide
    | some ms => rw [hn] at h; exact hd ms y (hP ms hn) h
  have numR_ne : ∀ (r : Option Int) (k : Nat), numR r = .wrong k → k ≠ 0 := fun r k h => by
    cases r with
    | none => cases h; decide
    | some n => cases h
  have div_ne : ∀ (op : Int → Int → Int) (ms : List Int) (k : Nat), ms.length = 2 → divR op ms = .wrong k → k ≠ 0 := fun op ms k hl h => by
    match ms, hl with
    | [a, b], _ =>
      unfold divR at h
      simp only at h
      split at h
      · cases h; decide
      · split at h
        · cases h; decide
        · cases h
  match i with
  | 0 => exact num _ (fun _ => True) (fun _ _ => trivial) (fun ms k _ h => numR_ne _ k h) h
  | 1 => exact num _ (fun _ => True) (fun _ _ => trivial) (fun ms k _ h => numR_ne _ k h) h
  | 2 =>
    have h' : ofNums diffR vs = .wrong y := by rw [← diff_eq]; exact h
    refine num _ (fun ms => ms ≠ []) (fun ms hn e => ?_) (fun ms k hm h => ?_) h'
    · have := nums_len vs ms hn
      have := takes_1 ht rfl
      rw [e] at *
      simp at *
      omega
    · match ms, hm with
      | [a], _ => exact numR_ne _ k h
      | a :: b :: r, _ => exact numR_ne _ k h
  | 3 => exact num _ (fun ms => ms.length = 2) (fun ms hn => by rw [nums_len vs ms hn]; exact takes_n ht rfl) (fun ms k hm h => div_ne _ ms k hm h) h
  | 4 => exact num _ (fun ms => ms.length = 2) (fun ms hn => by rw [nums_len vs ms hn]; exact takes_n ht rfl) (fun ms k hm h => div_ne _ ms k hm h) h
  | 5 => exact num _ (fun _ => True) (fun _ _ => trivial) (fun ms k _ h => by cases h) h
  | 6 => exact num _ (fun _ => True) (fun _ _ => trivial) (fun ms k _ h => by cases h) h
  | 7 => exact num _ (fun _ => True) (fun _ _ => trivial) (fun ms k _ h => by cases h) h
  | 8 => obtain ⟨u, v, rfl⟩ := two_of (takes_n ht rfl); cases h
  | 9 => obtain ⟨v, rfl⟩ := one_of (takes_n ht rfl); cases v <;> cases h <;> decide
  | 10 => obtain ⟨v, rfl⟩ := one_of (takes_n ht rfl); cases v <;> cases h <;> decide
  | 11 => cases h
  | 12 => obtain ⟨v, rfl⟩ := one_of (takes_n ht rfl); cases v <;> cases h
  | 13 => obtain ⟨v, rfl⟩ := one_of (takes_n ht rfl); rcases v with (_ | _ | _ | _) | _ | _ | _ | _ <;> cases h
  | 14 => obtain ⟨v, rfl⟩ := one_of (takes_n ht rfl); rcases v with (_ | _ | _ | _) | _ | _ | _ | _ <;> cases h
  | 15 => obtain ⟨v, rfl⟩ := one_of (takes_n ht rfl); rcases v with (_ | _ | _ | _) | _ | _ | _ | _ <;> cases h
  | 16 => obtain ⟨v, rfl⟩ := one_of (takes_n ht rfl); cases h
  | 17 => obtain ⟨v, rfl⟩ := one_of (takes_n ht rfl); rcases v with (_ | _ | _ | _) | _ | _ | _ | _ <;> cases h
  | 18 => obtain ⟨u, v, rfl⟩ := two_of (takes_n ht rfl); cases u <;> cases v <;> cases h
  | 19 => obtain ⟨v, rfl⟩ := one_of (takes_n ht rfl); cases h
  | n + 20 => obtain ⟨v, rfl⟩ := one_of (takes_n ht rfl); cases h
theorem shows_of {i : Nat} {vs : List V} (ht : takesB i vs.length = true) {v : V} (h : basicDo i vs = .shows v) : 20 ≤ i ∧ vs = [v] := by
  have num : ∀ (do_ : List Int → Res), (∀ ms, do_ ms ≠ .shows v) → ofNums do_ vs ≠ .shows v := by
    intro do_ hd h
    unfold ofNums at h
    cases hn : nums vs with
    | none => rw [hn] at h; cases h
    | some ms => rw [hn] at h; exact hd ms h
  have numR_ne : ∀ (r : Option Int), numR r ≠ .shows v := fun r h => by cases r <;> cases h
  have div_ne : ∀ (op : Int → Int → Int) (ms : List Int), divR op ms ≠ .shows v := fun op ms h => by
    unfold divR at h
    split at h
    · split at h
      · cases h
      · split at h <;> cases h
    · cases h
  match i with
  | 0 => exact absurd h (num _ fun _ => numR_ne _)
  | 1 => exact absurd h (num _ fun _ => numR_ne _)
  | 2 =>
    have h' : ofNums diffR vs = .shows v := by rw [← diff_eq]; exact h
    refine absurd h' (num _ fun ms => ?_)
    rcases ms with _ | ⟨a, _ | ⟨b, r⟩⟩
    · intro e; cases e
    · exact numR_ne _
    · exact numR_ne _
  | 3 => exact absurd h (num _ (div_ne _))
  | 4 => exact absurd h (num _ (div_ne _))
  | 5 => exact absurd h (num _ fun _ e => by cases e)
  | 6 => exact absurd h (num _ fun _ e => by cases e)
  | 7 => exact absurd h (num _ fun _ e => by cases e)
  | 8 => obtain ⟨u, v, rfl⟩ := two_of (takes_n ht rfl); cases h
  | 9 => obtain ⟨v, rfl⟩ := one_of (takes_n ht rfl); cases v <;> cases h
  | 10 => obtain ⟨v, rfl⟩ := one_of (takes_n ht rfl); cases v <;> cases h
  | 11 => cases h
  | 12 => obtain ⟨v, rfl⟩ := one_of (takes_n ht rfl); cases v <;> cases h
  | 13 => obtain ⟨v, rfl⟩ := one_of (takes_n ht rfl); rcases v with (_ | _ | _ | _) | _ | _ | _ | _ <;> cases h
  | 14 => obtain ⟨v, rfl⟩ := one_of (takes_n ht rfl); rcases v with (_ | _ | _ | _) | _ | _ | _ | _ <;> cases h
  | 15 => obtain ⟨v, rfl⟩ := one_of (takes_n ht rfl); rcases v with (_ | _ | _ | _) | _ | _ | _ | _ <;> cases h
  | 16 => obtain ⟨v, rfl⟩ := one_of (takes_n ht rfl); cases h
  | 17 => obtain ⟨v, rfl⟩ := one_of (takes_n ht rfl); rcases v with (_ | _ | _ | _) | _ | _ | _ | _ <;> cases h
  | 18 => obtain ⟨u, v, rfl⟩ := two_of (takes_n ht rfl); cases u <;> cases v <;> cases h
  | 19 => obtain ⟨v, rfl⟩ := one_of (takes_n ht rfl); cases h
  | n + 20 =>
    obtain ⟨u, rfl⟩ := one_of (takes_n ht rfl)
    cases h
    exact ⟨by omega, rfl⟩
end Kc
end Go.Proofs.YtodeeegbajgafaaGreatDoor
