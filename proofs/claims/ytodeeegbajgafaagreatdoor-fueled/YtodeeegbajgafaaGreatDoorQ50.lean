/- rondokeep's fresh. Fueled: of any source, some fuel and more. Fueled: the walk. Fueled: sources that are evaluated. Fueled: too little fuel, and the whole. -/
import Derived.Test.YtodeeegbajgafaaGreatDoorQ48
import Derived.Test.YtodeeegbajgafaaGreatDoorQ49
import Derived.Deep.Cut
namespace Go.Proofs.YtodeeegbajgafaaGreatDoor
open Go.RowKit
/-- What is there at the start is not written. -/
def Olk (B : Nat) (k : Nat) : Prop := k < B ∧ k ≠ tabBlock
theorem machK_below {N : Nat → Prop} {B ob : Nat} {G : List (Rd.Sym × Kc.V)} {C : List (List Kc.V)} {w w' : World} {g : Kc.Gh} (h : Kc.MachK N B ob G C w g) (hb : Below w.heap.size w w') : Kc.MachK N B ob G C w' g := ⟨Below.at hb h.box, h.fix, h.m.below hb, h.high⟩
set_option maxHeartbeats 8000000 in
set_option maxRecDepth 20000 in
theorem freshK (N : Nat → Prop) (w : World) (hN : ∀ k, N k → k < w.heap.size) (hNt : ¬ N tabBlock) (htab : TabOk w) (hE : ErrsAt w) :
    Calls Tryz.prog 10 #[] w fun e w' => ∃ ob g, e = .returned (ptrV ob) ∧ Mach N w.heap.size ob Mc.G0 w' g ∧ Below w.heap.size w w' := by
  have H1 : Hid (Calls Tryz.prog 23 #[] w fun e w' => ∃ ob g, e = .returned (.pointer (some ⟨ob, 0, none⟩)) ∧ Mach N w.heap.size ob Mc.G0 w' g ∧ Below w.heap.size w w') := new23 N w hN hNt htab
  have H2 : Hid (∀ w1, Below w.heap.size w w1 → Calls Tryz.prog 23 #[] w1 fun e w' => ∃ ob g, e = .returned (.pointer (some ⟨ob, 0, none⟩)) ∧ Mach N w1.heap.size ob Mc.G0 w' g ∧ Below w1.heap.size w1 w') := fun w1 hb => new23 N w1 (fun k e => Nat.lt_of_lt_of_le (hN k e) hb.size) hNt (htab.on (hb.block _ htab.lt))
  have tabs : ∀ W, Below w.heap.size w W → TabOk W := fun W hb => htab.on (hb.block _ htab.lt)
  have errs : ∀ W, Below w.heap.size w W → ErrsAt W := fun W hb => hE.kept (Kept.of_below hb (fun _ => False)) id id
  have H3 : Hid (∀ w1 w2 ob g, Below w.heap.size w w1 → Below w1.heap.size w1 w2 → Mach N w1.heap.size ob Mc.G0 w2 g → Calls Tryz.prog 13 #[.pointer (some ⟨ob, 0, none⟩), .string ⟨#[40, 100, 101, 102, 105, 110, 101, 32, 107, 32, 48, 41, 32, 40, 114, 101, 115, 101, 116, 32, 40, 43, 32, 49, 32, 40, 115, 104, 105, 102, 116, 32, 99, 32, 40, 98, 101, 103, 105, 110, 32, 40, 115, 101, 116, 33, 32, 107, 32, 99, 41, 32, 48, 41, 41, 41, 41, 32, 40, 107, 32, 49, 48, 41]⟩] w2 fun e w' => ∃ g' sa sn sc, e = .returned (.tuple #[.agg #[.int .i64 1, .string ⟨#[49, 49]⟩, .int .i64 0, .int .i64 Kc.tA3.steps, .slice sa sn sc], .bool true]) ∧ Kc.MachK N w1.heap.size ob Kc.tA3.G Kc.tA3.sc w' g' ∧ Below w1.heap.size w1 w') := fun w1 w2 ob g hb1 hb2 hM => (Kc.fresh_runA N w1.heap.size ob (ghOf g) w2 (machK hM) hb2.size (Nat.lt_of_lt_of_le htab.lt hb1.size) (tabs _ (hb1.trans (hb2.mono hb1.size))) (errs _ (hb1.trans (hb2.mono hb1.size)))).mono fun e w' ⟨g', sa, sn, sc, he, h1, h2⟩ => ⟨g', sa, sn, sc, he, h1, hb2.trans h2⟩
  have H4 : Hid (∀ w1 w2 ob g, Below w.heap.size w w1 → Below w1.heap.size w1 w2 → Kc.MachK N w1.heap.size ob Kc.tA3.G Kc.tA3.sc w2 g → Calls Tryz.prog 13 #[.pointer (some ⟨ob, 0, none⟩), .string ⟨#[40, 99, 97, 114, 32, 49, 41]⟩] w2 fun e w' => ∃ sa sn sc, e = .returned (.tuple #[.agg #[.int .i64 2, .string ⟨#[]⟩, .int .i64 2, .int .i64 Kc.tB.steps, .slice sa sn sc], .bool true]) ∧ Below w1.heap.size w1 w' ∧ Kept g.mut w2 w') := fun w1 w2 ob g hb1 hb2 hM => (Kc.fresh_runB N w1.heap.size ob g w2 hM hb2.size (Nat.lt_of_lt_of_le htab.lt hb1.size) (tabs _ (hb1.trans (hb2.mono hb1.size))) (errs _ (hb1.trans (hb2.mono hb1.size)))).mono fun e w' ⟨sa, sn, sc, he, h2, h3⟩ => ⟨sa, sn, sc, he, hb2.trans h2, h3⟩
  clear hN tabs htab hE errs
  generalize Kc.tA3.steps = n1 at *
  generalize Kc.tB.steps = n2 at *
  go_enter Tryz.func10, Tryz.ntmps10
  go_upto_region 2 with (first | (go_at_call 23; refine H1.out.mono ?_; rintro e1 w1 ⟨ob1, g1, rfl, hM1, hb1⟩; have HM1 := (show Hid _ from hM1); have HB1 := (show Hid _ from hb1); clear hM1 hb1))
  go_upto_region 5 with (first | (go_at_call 23; refine (H2.out _ HB1.out).mono ?_; rintro e2 w2 ⟨ob2, g2, rfl, hM2, hb2⟩; have HM2 := (show Hid _ from hM2); have HB2 := (show Hid _ from hb2); clear hM2 hb2))
  go_upto_region 6 with (first | (go_at_call 13; refine (H3.out _ _ _ _ HB1.out HB2.out HM2.out).mono ?_; rintro e3 w3 ⟨g3, sa3, sn3, sc3, rfl, hM3, hb3⟩; have HM3 : Hid (Kc.MachK N w1.heap.size ob2 Kc.tA3.G Kc.tA3.sc (w3.alloc (.cells #[.int .i64 1, .string ⟨#[49, 49]⟩, .int .i64 0, .int .i64 n1, .slice sa3 sn3 sc3] 34)) g3) := machK_below hM3 ((Below.refl _ w3).alloc (Nat.le_refl _) _); have HB3 : Hid (Below w1.heap.size w1 (w3.alloc (.cells #[.int .i64 1, .string ⟨#[49, 49]⟩, .int .i64 0, .int .i64 n1, .slice sa3 sn3 sc3] 34))) := hb3.alloc hb3.size _; have hnm : ¬ g3.mut w3.heap.size := fun e => Nat.lt_irrefl _ (Kc.Gh.low hM3.m _ e); clear hM3 hb3))
  have ha3 := at_new w3 (.cells #[.int .i64 1, .string ⟨#[49, 49]⟩, .int .i64 0, .int .i64 n1, .slice sa3 sn3 sc3] 34)
  have HA3 := (show Hid _ from ha3)
  clear ha3
  go_wp2_with (first | (go_at_call 13; refine (H4.out _ _ _ _ HB1.out HB3.out HM3.out).mono ?_; rintro e4 w4 ⟨sa4, sn4, sc4, rfl, hb4, hk4⟩; have hat := hk4.at hnm HA3.out; have hl := lt_of_at hat; have hne : w4.heap.size ≠ w3.heap.size := (by omega); have f0 : w4.cell? ⟨w3.heap.size, 0, none⟩ = some (.int .i64 1) := cell_of_at hat 0; have f1 : w4.cell? ⟨w3.heap.size, 1, none⟩ = some (.string ⟨#[49, 49]⟩) := cell_of_at hat 1; have HB4 := (show Hid _ from hb4); clear hb4 hk4 hat))
  go_ret
  have hbf : Below w1.heap.size w1 (w4.alloc (.cells #[.int .i64 2, .string ⟨#[]⟩, .int .i64 2, .int .i64 n2, .slice sa4 sn4 sc4] 34)) := HB4.out.alloc HB4.out.size _
  exact ⟨ob1, g1, rfl, HM1.out.below hbf, HB1.out.trans (hbf.mono HB1.out.size)⟩
end Go.Proofs.YtodeeegbajgafaaGreatDoor

namespace Go.Proofs.YtodeeegbajgafaaGreatDoor
open Go.RowKit
theorem fenceB {N : Nat → Prop} {B ob : Nat} {w w' : World} {g : Gh} (h : Mach N B ob Mc.G0 w g) (hb : Below w.heap.size w w') : Mach (fun k => N k ∨ w.heap.size ≤ k ∧ k < w'.heap.size) B ob Mc.G0 w' g := by
  refine ⟨Below.at hb h.box, h.low, h.fix, ?_, h.high⟩
  refine h.m.kept (fun k hm => hb.block k (Gh.low h.m k hm)) (fun k hk ho => ⟨⟨fun e => by rcases e with e | e; exact ho.1 e; omega, ho.2⟩, hb.block k hk⟩) ?_ ?_
  · rintro k (e | e)
    · have := h.m.low k e; have := hb.size; omega
    · exact e.2
  · rintro k hm (e | e)
    · exact h.m.disj k hm e
    · have := Gh.low h.m k hm; omega
theorem fenceA {N M : Nat → Prop} {B ob : Nat} {w w' : World} {g : Gh} (h : Mach N B ob Mc.G0 w g) (hk : Kept M w w') (hM : ∀ k, M k → N k) (ho : ¬ M ob) : Mach (fun k => N k ∨ w.heap.size ≤ k ∧ k < w'.heap.size) B ob Mc.G0 w' g := by
  refine ⟨hk.at ho h.box, h.low, h.fix, ?_, h.high⟩
  refine h.m.kept (fun k hm => hk.block k (Gh.low h.m k hm) (fun e => h.m.disj k hm (hM k e))) (fun k hk' ho' => ⟨⟨fun e => by rcases e with e | e; exact ho'.1 e; omega, ho'.2⟩, hk.block k hk' (fun e => ho'.1 (hM k e))⟩) ?_ ?_
  · rintro k (e | e)
    · have := h.m.low k e; have := hk.size; omega
    · exact e.2
  · rintro k hm (e | e)
    · exact h.m.disj k hm e
    · have := Gh.low h.m k hm; omega
theorem cells_shown {w : World} {v : Value} {sh : List (List UInt8)} (h : ∃ B, w.ownsRow B 9 1 v sh.length (sh.map strV)) : ∃ a cap, v = .slice a sh.length cap ∧ sh.length ≤ cap ∧ ∀ j (hj : j < sh.length), ∃ g, a = some ⟨g, 0, none⟩ ∧ w.cell? ⟨g, j, none⟩ = some (strV sh[j]) := by
  obtain ⟨B, hx, h | ⟨g, cap, cur, rfl, hg, hh, hn, hcap, hcs, htk⟩⟩ := h
  · obtain ⟨rfl, h0⟩ := h
    exact ⟨none, 0, by rw [h0], by omega, fun j hj => by omega⟩
  · refine ⟨_, cap, rfl, hn, fun j hj => ⟨g, rfl, ?_⟩⟩
    have h1 : (cur.toList.take (sh.length * 1))[j]? = (sh.map strV)[j]? := by rw [htk]
    rw [List.getElem?_take, if_pos (by omega)] at h1
    rw [cell_of_at hh, ← Array.getElem?_toList, h1]
    simp [hj]
/-- Two new machines, one behind the other. -/
structure Two (W w1 w2 : World) (oa ob : Nat) (ga gb : Gh) : Prop where
  tab : TabOk W
  err : ErrsAt W
  b1 : Below W.heap.size W w1
  b2 : Below w1.heap.size w1 w2
  ma : Mach (Olk W.heap.size) W.heap.size oa Mc.G0 w1 ga
  mb : Mach (Olk w1.heap.size) w1.heap.size ob Mc.G0 w2 gb
theorem Two.bw {W w1 w2 : World} {oa ob : Nat} {ga gb : Gh} (h : Two W w1 w2 oa ob ga gb) : Below W.heap.size W w2 := h.b1.trans (h.b2.mono h.b1.size)
/-- What the first evaluation leaves. -/
structure AftA (W w1 w2 w3 : World) (ga : Gh) (la : List (List UInt8)) (va : Value) : Prop where
  kept : Kept ga.mut w2 w3
  shn : Kc.ShownK (fun k => Olk W.heap.size k ∨ w1.heap.size ≤ k ∧ k < w2.heap.size) la w3 va
theorem evalA {W w1 w2 : World} {oa ob : Nat} {ga gb : Gh} (h : Two W w1 w2 oa ob ga gb) {s : ByteArray} {fs : List Rd.F} (hs : Kc.preK s = .inr fs) {F : Nat} (hF : F ≤ 900) {t : Kc.St} (ht : Kc.Ends F (Kc.begin_ G0k []) fs t) :
    Calls Tryz.prog 17 #[ptrV oa, .string s, .int .i64 F] w2 fun e w' => ∃ sa sn sc, e = .returned (.tuple #[Kc.outcomeK t fs.isEmpty (.slice sa sn sc), .int .i64 0, .int .i64 0]) ∧ AftA W w1 w2 w' ga t.shown (.slice sa sn sc) := by
  have hM := machK (fenceB h.ma h.b2)
  refine ((Kc.eval_inr hs).2 _ _ _ W.heap.size oa F (ghOf ga) w2 t (by omega) hM h.bw.size h.tab.lt (h.tab.on (h.bw.block _ h.tab.lt)) (h.err.kept (Kept.of_below h.bw (fun _ => False)) id id) (ht.toI hF (Kc.begin_rests F) (Kc.eval_inr hs).1)).mono ?_
  rintro e w' ⟨g', sa, sn, sc, he, _, hk, _, hsh⟩
  exact ⟨sa, sn, sc, he, hk.mono fun k _ e => ghOf_mut.1 e, hsh⟩
theorem AftA.below {W w1 w2 w3 : World} {oa ob : Nat} {ga gb : Gh} (h : Two W w1 w2 oa ob ga gb) {la : List (List UInt8)} {va : Value} (ha : AftA W w1 w2 w3 ga la va) : Below W.heap.size W w3 := h.bw.trans (ha.kept.below h.bw.size h.ma.high)
/-- What the second leaves. -/
structure AftB (W w1 w2 w3 w4 : World) (gb : Gh) (lb : List (List UInt8)) (vb : Value) : Prop where
  kept : Kept gb.mut w3 w4
  shn : ∃ B, w4.ownsRow B 9 1 vb lb.length (lb.map strV)
theorem evalB {W w1 w2 w3 : World} {oa ob : Nat} {ga gb : Gh} (h : Two W w1 w2 oa ob ga gb) {la : List (List UInt8)} {va : Value} (ha : AftA W w1 w2 w3 ga la va) (o : Obj) {s : ByteArray} {fs : List Rd.F} (hs : Kc.preK s = .inr fs) {F : Nat} (hF : F ≤ 900) {t : Kc.St} (ht : Kc.Ends F (Kc.begin_ G0k []) fs t) :
    Calls Tryz.prog 17 #[ptrV ob, .string s, .int .i64 F] (w3.alloc o) fun e w' => ∃ sa sn sc, e = .returned (.tuple #[Kc.outcomeK t fs.isEmpty (.slice sa sn sc), .int .i64 0, .int .i64 0]) ∧ AftB W w1 w2 (w3.alloc o) w' gb t.shown (.slice sa sn sc) := by
  have hsub : ∀ k, ga.mut k → Olk w1.heap.size k := fun k e => ⟨Gh.low h.ma.m k e, fun e' => by have := h.ma.high k e; have := h.tab.lt; omega⟩
  have hob : ¬ ga.mut ob := fun e => by have := (hsub ob e).1; have := h.mb.low; omega
  have hB3 : Below w3.heap.size w3 (w3.alloc o) := (Below.refl _ w3).alloc (Nat.le_refl _) _
  have hbw3 : Below W.heap.size W (w3.alloc o) := (ha.below h).alloc (ha.below h).size _
  have hM := machK ((fenceA h.mb ha.kept hsub hob).below hB3)
  refine ((Kc.eval_inr hs).2 _ _ _ w1.heap.size ob F (ghOf gb) (w3.alloc o) t (by omega) hM (by have := h.b2.size; have := ha.kept.size; simp; omega) (Nat.lt_of_lt_of_le h.tab.lt h.b1.size) (h.tab.on (hbw3.block _ h.tab.lt)) (h.err.kept (Kept.of_below hbw3 (fun _ => False)) id id) (ht.toI hF (Kc.begin_rests F) (Kc.eval_inr hs).1)).mono ?_
  rintro e w' ⟨g', sa, sn, sc, he, _, hk, _, hsh⟩
  exact ⟨sa, sn, sc, he, hk.mono fun k _ e => ghOf_mut.1 e, hsh.1⟩
/-- What lies in memory behind both. -/
structure Both (W : World) (bx by_ : Nat) (ox oy : Obj) (la lb : List (List UInt8)) (va vb : Value) (w : World) : Prop where
  x : w.heap[bx]? = some ox
  y : w.heap[by_]? = some oy
  a : ∃ B, w.ownsRow B 9 1 va la.length (la.map strV)
  b : ∃ B, w.ownsRow B 9 1 vb lb.length (lb.map strV)
  below : Below W.heap.size W w
theorem both_of {W w1 w2 w3 w4 : World} {oa ob : Nat} {ga gb : Gh} (h : Two W w1 w2 oa ob ga gb) {la lb : List (List UInt8)} {va vb : Value} {ox oy : Obj} (ha : AftA W w1 w2 w3 ga la va) (hb : AftB W w1 w2 (w3.alloc ox) w4 gb lb vb) :
    Both W w3.heap.size w4.heap.size ox oy la lb va vb (w4.alloc oy) := by
  have hs23 : w2.heap.size ≤ w3.heap.size := ha.kept.size
  have hgb : ∀ k, gb.mut k → w1.heap.size ≤ k ∧ k < w2.heap.size := fun k e => ⟨h.mb.high k e, Gh.low h.mb.m k e⟩
  have hK4 : Kept gb.mut (w3.alloc ox) (w4.alloc oy) := hb.kept.alloc oy
  have hx : (w3.alloc ox).heap[w3.heap.size]? = some ox := at_new w3 _
  refine ⟨hK4.at (fun e => by have := (hgb _ e).2; omega) hx, at_new w4 _, ?_, ?_, ?_⟩
  · have h3 : Kept gb.mut w3 (w4.alloc oy) := ((Kept.refl gb.mut w3).alloc ox).trans hK4
    exact (ha.shn.kept (N' := fun _ => False) h3 (fun k e => Or.inr (hgb k e)) (fun k e => e.elim)).1
  · obtain ⟨B, hB⟩ := hb.shn
    exact ⟨B, hB.alloc _⟩
  · have hW3 := (ha.below h).alloc (ha.below h).size ox
    have h1w : W.heap.size ≤ w1.heap.size := h.b1.size
    exact (hW3.trans (hb.kept.below hW3.size (fun k e => by have := (hgb k e).1; omega))).alloc (Nat.le_trans hW3.size hb.kept.size) oy
theorem Both.kept {W : World} {bx by_ : Nat} {ox oy : Obj} {la lb : List (List UInt8)} {va vb : Value} {w : World} (h : Both W bx by_ ox oy la lb va vb w) : Both W bx by_ ox oy la lb va vb w.drew := by
  obtain ⟨h1, h2, ⟨B, h3⟩, ⟨B', h4⟩, h5⟩ := h
  have hk : Kept (fun _ => False) w w.drew := (Kept.refl _ w).drew
  exact ⟨h1, h2, ⟨B, own_kept' h3 hk (fun _ _ => id)⟩, ⟨B', own_kept' h4 hk (fun _ _ => id)⟩, h5.drew⟩
theorem outK_ne3 {t : Kc.St} {em : Bool} (h : t.kind ≠ 3) : (Kc.outK t em).1 ≠ 3 := by
  unfold Kc.outK
  split
  · exact h
  · split
    · decide
    · split
      · split <;> simp
      · decide
end Go.Proofs.YtodeeegbajgafaaGreatDoor

namespace Go.Proofs.YtodeeegbajgafaaGreatDoor
open Go.RowKit
set_option maxHeartbeats 8000000 in
set_option maxRecDepth 20000 in
/-- A source that is refused. -/
theorem fueled_no (W : World) (s : ByteArray) (fuel more : Int) (hf0 : -9223372036854775808 ≤ fuel) (hf1 : fuel ≤ 9223372036854775807) (hm0 : -9223372036854775808 ≤ more) (hm1 : more ≤ 9223372036854775807) (htab : TabOk W) (hE : ErrsAt W) (n p : Nat) (hp : Kc.preK s = .inl (n, p)) :
    Calls Tryz.prog 5 #[.string s, .int .i64 fuel, .int .i64 more] W fun e w' => e = .returned (.bool true) ∧ Below W.heap.size W w' := by
  have hlt := htab.lt
  have HT : Hid (∀ w', Below W.heap.size W w' → TabOk w') := fun w' hb => htab.on (hb.block _ hlt)
  have HF2 : Hid (∀ w1, Below W.heap.size W w1 → Calls Tryz.prog 10 #[] w1 fun e w' => ∃ ob, e = .returned (.pointer (some ⟨ob, 0, none⟩)) ∧ Below w1.heap.size w1 w') := fun w1 hb => (freshK (Olk w1.heap.size) w1 (fun _ h => h.1) (fun h => h.2 rfl) (HT.out _ hb) (hE.kept (Kept.of_below hb (fun _ => False)) id id)).mono fun e w' ⟨ob, g, h1, _, h3⟩ => ⟨ob, h1, h3⟩
  have HF : Hid (Calls Tryz.prog 10 #[] W fun e w' => ∃ ob, e = .returned (.pointer (some ⟨ob, 0, none⟩)) ∧ Below W.heap.size W w') := HF2.out W (Below.refl _ _)
  have HP : Hid (∀ w, Calls Tryz.prog 14 #[.int .i64 fuel, .int .i64 400] w fun e w' => e = .returned (.int .i64 (Rd.pickN fuel 400 : Nat)) ∧ w' = w) := fun w => pick14 fuel 400 hf0 hf1 (by omega) (by omega) w
  have HQ : Hid (∀ w, Calls Tryz.prog 14 #[.int .i64 more, .int .i64 400] w fun e w' => e = .returned (.int .i64 (Rd.pickN more 400 : Nat)) ∧ w' = w) := fun w => pick14 more 400 hm0 hm1 (by omega) (by omega) w
  have hr := Rd.pickN_lt fuel 400 (by omega)
  have hq := Rd.pickN_lt more 400 (by omega)
  generalize Rd.pickN fuel 400 = f at *
  generalize Rd.pickN more 400 = q at *
  obtain ⟨hn, hev⟩ := Kc.eval_inl hp
  have HE1 : Hid (∀ ob w, Below W.heap.size W w → Calls Tryz.prog 17 #[.pointer (some ⟨ob, 0, none⟩), .string s, .int .i64 (f : Nat)] w fun e w' => e = .returned (.tuple #[.agg #[.int .i64 0, .string ⟨#[]⟩, .int .i64 0, .int .i64 0, .slice none 0 0], .int .i64 n, .int .i64 p]) ∧ Below w.heap.size w w') := fun ob w hb => hev ob f w (hE.kept (Kept.of_below hb (fun _ => False)) id id)
  have HE2 : Hid (∀ ob w, Below W.heap.size W w → Calls Tryz.prog 17 #[.pointer (some ⟨ob, 0, none⟩), .string s, .int .i64 ((f : Int) + (q : Int))] w fun e w' => e = .returned (.tuple #[.agg #[.int .i64 0, .string ⟨#[]⟩, .int .i64 0, .int .i64 0, .slice none 0 0], .int .i64 n, .int .i64 p]) ∧ Below w.heap.size w w') := fun ob w hb => by
    have := hev ob (f + q) w (hE.kept (Kept.of_below hb (fun _ => False)) id id)
    rw [show ((f + q : Nat) : Int) = (f : Int) + (q : Int) by omega] at this
    exact this
  have k1 : -9223372036854775808 ≤ (f : Int) + (q : Int) := by omega
  have k2 : (f : Int) + (q : Int) ≤ 9223372036854775807 := by omega
  have k3 : ¬ (f : Int) < 0 := by omega
  have k4 : ¬ (n : Int) = 0 := by omega
  clear htab hE hp hn hev hlt
  go_enter Tryz.func5, Tryz.ntmps5
  go_upto_region 5 with (first | (go_at_call 10; first | (refine HF.out.mono ?_; rintro e1 w1 ⟨oa, rfl, hb1⟩; have HB1 : Hid (Below W.heap.size W w1) := hb1; clear hb1) | (refine (HF2.out _ HB1.out).mono ?_; rintro e2 w2 ⟨ob, rfl, hb2⟩; have HB2 : Hid (Below W.heap.size W w2) := HB1.out.trans (hb2.mono HB1.out.size); clear hb2)))
  go_upto_region 6 with (first | (go_at_call 14; refine (HP.out _).mono ?_; rintro e3 w3 ⟨rfl, rfl⟩))
  go_upto_region 7 with (first | (go_at_call 17; refine (HE1.out _ _ HB2.out).mono ?_; rintro e4 w4 ⟨rfl, hb4⟩; have HB4 : Hid (Below W.heap.size W (w4.alloc (.cells #[.int .i64 0, .string ⟨#[]⟩, .int .i64 0, .int .i64 0, .slice none 0 0] 34))) := (HB2.out.trans (hb4.mono HB2.out.size)).alloc (Nat.le_trans HB2.out.size hb4.size) _; clear hb4))
  have HX := (show Hid _ from at_new w4 (.cells #[.int .i64 0, .string ⟨#[]⟩, .int .i64 0, .int .i64 0, .slice none 0 0] 34))
  go_upto_region 8 with (first | (go_at_call 14; refine (HQ.out _).mono ?_; rintro e5 w5 ⟨rfl, rfl⟩) | (go_at_call 17; refine (HE2.out _ _ HB4.out).mono ?_; rintro e6 w6 ⟨rfl, hb6⟩; have HX6 : Hid ((w6.alloc (.cells #[.int .i64 0, .string ⟨#[]⟩, .int .i64 0, .int .i64 0, .slice none 0 0] 34)).heap[w4.heap.size]? = some (.cells #[.int .i64 0, .string ⟨#[]⟩, .int .i64 0, .int .i64 0, .slice none 0 0] 34)) := at_alloc (Below.at hb6 HX.out) _; have HB6 : Hid (Below W.heap.size W (w6.alloc (.cells #[.int .i64 0, .string ⟨#[]⟩, .int .i64 0, .int .i64 0, .slice none 0 0] 34))) := (HB4.out.trans (hb6.mono HB4.out.size)).alloc (Nat.le_trans HB4.out.size hb6.size) _; clear hb6))
  have HY6 := (show Hid _ from at_new w6 (.cells #[.int .i64 0, .string ⟨#[]⟩, .int .i64 0, .int .i64 0, .slice none 0 0] 34))
  generalize w6.alloc (.cells #[.int .i64 0, .string ⟨#[]⟩, .int .i64 0, .int .i64 0, .slice none 0 0] 34) = w7 at *
  have x0 := cell_of_at HX6.out 0
  have x3 := cell_of_at HX6.out 3
  have y0 := cell_of_at HY6.out 0
  simp only [List.getElem?_toArray, List.getElem?_cons_zero, List.getElem?_cons_succ] at x0 x3 y0
  go_wp2
  go_ret
  exact ⟨rfl, HB6.out⟩
end Go.Proofs.YtodeeegbajgafaaGreatDoor

namespace Go.Proofs.YtodeeegbajgafaaGreatDoor
open Go.RowKit
/-- What fresh gives, twice. -/
theorem fresh_two (W : World) (htab : TabOk W) (hE : ErrsAt W) : Hid (Calls Tryz.prog 10 #[] W fun e w' => ∃ oa ga, e = .returned (.pointer (some ⟨oa, 0, none⟩)) ∧ Hid (Mach (Olk W.heap.size) W.heap.size oa Mc.G0 w' ga ∧ Below W.heap.size W w')) ∧
    Hid (∀ w1 oa ga, Hid (Mach (Olk W.heap.size) W.heap.size oa Mc.G0 w1 ga ∧ Below W.heap.size W w1) → Calls Tryz.prog 10 #[] w1 fun e w' => ∃ ob gb, e = .returned (.pointer (some ⟨ob, 0, none⟩)) ∧ Hid (Two W w1 w' oa ob ga gb)) := by
  have hlt := htab.lt
  refine ⟨(freshK (Olk W.heap.size) W (fun _ h => h.1) (fun h => h.2 rfl) htab hE).mono fun e w' ⟨ob, g, h1, h2, h3⟩ => ⟨ob, g, h1, h2, h3⟩, fun w1 oa ga hh => ?_⟩
  obtain ⟨hM, hb⟩ := hh.out
  exact (freshK (Olk w1.heap.size) w1 (fun _ h => h.1) (fun h => h.2 rfl) (htab.on (hb.block _ hlt)) (hE.kept (Kept.of_below hb (fun _ => False)) id id)).mono fun e w' ⟨ob, g, h1, h2, h3⟩ => ⟨ob, g, h1, htab, hE, hb, h3, hM, h2⟩
set_option maxHeartbeats 8000000 in
set_option maxRecDepth 20000 in
/-- Enough fuel. -/
theorem fueled_same (W : World) (s : ByteArray) (fuel more : Int) (hf0 : -9223372036854775808 ≤ fuel) (hf1 : fuel ≤ 9223372036854775807) (hm0 : -9223372036854775808 ≤ more) (hm1 : more ≤ 9223372036854775807) (htab : TabOk W) (hE : ErrsAt W) (fs : List Rd.F) (hp : Kc.preK s = .inr fs) (t : Kc.St)
    (h1 : Kc.Ends (Rd.pickN fuel 400) (Kc.begin_ G0k []) fs t) (h2 : Kc.Ends (Rd.pickN fuel 400 + Rd.pickN more 400) (Kc.begin_ G0k []) fs t) (hst : t.steps ≤ Rd.pickN fuel 400) (hk : t.kind ≠ 3) :
    Calls Tryz.prog 5 #[.string s, .int .i64 fuel, .int .i64 more] W fun e w' => e = .returned (.bool true) ∧ Below W.heap.size W w' := by
  obtain ⟨HF, HF2⟩ := fresh_two W htab hE
  have HP : Hid (∀ w, Calls Tryz.prog 14 #[.int .i64 fuel, .int .i64 400] w fun e w' => e = .returned (.int .i64 (Rd.pickN fuel 400 : Nat)) ∧ w' = w) := fun w => pick14 fuel 400 hf0 hf1 (by omega) (by omega) w
  have HQ : Hid (∀ w, Calls Tryz.prog 14 #[.int .i64 more, .int .i64 400] w fun e w' => e = .returned (.int .i64 (Rd.pickN more 400 : Nat)) ∧ w' = w) := fun w => pick14 more 400 hm0 hm1 (by omega) (by omega) w
  have hr := Rd.pickN_lt fuel 400 (by omega)
  have hq := Rd.pickN_lt more 400 (by omega)
  generalize Rd.pickN fuel 400 = f at *
  generalize Rd.pickN more 400 = q at *
  have hk3 := outK_ne3 (em := fs.isEmpty) hk
  obtain ⟨k, tx, y, hout⟩ : ∃ k tx y, ∀ sh, Kc.outcomeK t fs.isEmpty sh = .agg #[.int .i64 (k : Nat), .string tx, .int .i64 (y : Nat), .int .i64 t.steps, sh] ∧ k = (Kc.outK t fs.isEmpty).1 := ⟨_, _, _, fun sh => ⟨rfl, rfl⟩⟩
  have hk4 : ¬ (k : Int) = 3 := by rw [(hout (.slice none 0 0)).2]; omega
  have HEA : Hid (∀ w1 w2 oa ob ga gb, Hid (Two W w1 w2 oa ob ga gb) → Calls Tryz.prog 17 #[.pointer (some ⟨oa, 0, none⟩), .string s, .int .i64 (f : Nat)] w2 fun e w' => ∃ sa sc, e = .returned (.tuple #[.agg #[.int .i64 (k : Nat), .string tx, .int .i64 (y : Nat), .int .i64 t.steps, .slice sa t.shown.length sc], .int .i64 0, .int .i64 0]) ∧ Hid (AftA W w1 w2 w' ga t.shown (.slice sa t.shown.length sc))) := fun w1 w2 oa ob ga gb h => (evalA h.out hp (by omega) h1).mono fun e w' ⟨sa, sn, sc, he, ha⟩ => by
    obtain ⟨a, cap, e1, _⟩ := cells_shown ha.shn.1
    cases e1
    exact ⟨sa, sc, by rw [he, (hout _).1], ha⟩
  have HEB : Hid (∀ w1 w2 w3 oa ob ga gb va o, Hid (Two W w1 w2 oa ob ga gb) → Hid (AftA W w1 w2 w3 ga t.shown va) → Calls Tryz.prog 17 #[.pointer (some ⟨ob, 0, none⟩), .string s, .int .i64 ((f : Int) + (q : Int))] (w3.alloc o) fun e w' => ∃ sa sc, e = .returned (.tuple #[.agg #[.int .i64 (k : Nat), .string tx, .int .i64 (y : Nat), .int .i64 t.steps, .slice sa t.shown.length sc], .int .i64 0, .int .i64 0]) ∧ Hid (AftB W w1 w2 (w3.alloc o) w' gb t.shown (.slice sa t.shown.length sc))) := fun w1 w2 w3 oa ob ga gb va o h ha => by
    have := evalB h.out ha.out o hp (F := f + q) (by omega) h2
    rw [show ((f + q : Nat) : Int) = (f : Int) + (q : Int) by omega] at this
    exact this.mono fun e w' ⟨sa, sn, sc, he, hb⟩ => by
      obtain ⟨a, cap, e1, _⟩ := cells_shown hb.shn
      cases e1
      exact ⟨sa, sc, by rw [he, (hout _).1], hb⟩
  generalize t.shown = sh at *
  generalize t.steps = st at *
  have k1 : -9223372036854775808 ≤ (f : Int) + (q : Int) := by omega
  have k2 : (f : Int) + (q : Int) ≤ 9223372036854775807 := by omega
  have k3 : ¬ (f : Int) < (st : Int) := by omega
  clear htab hE hp h1 h2 hk hk3 hout
  go_enter Tryz.func5, Tryz.ntmps5
  go_upto_region 5 with (first | (go_at_call 10; first | (refine HF.out.mono ?_; rintro e1 w1 ⟨oa, ga, rfl, HM1⟩) | (refine (HF2.out _ _ _ HM1).mono ?_; rintro e2 w2 ⟨ob, gb, rfl, HTW⟩)))
  go_upto_region 6 with (first | (go_at_call 14; refine (HP.out _).mono ?_; rintro e3 w3 ⟨rfl, rfl⟩))
  go_upto_region 7 with (first | (go_at_call 17; refine (HEA.out _ _ _ _ _ _ HTW).mono ?_; rintro e4 w4 ⟨sa, sc, rfl, HAA⟩))
  go_upto_region 8 with (first | (go_at_call 14; refine (HQ.out _).mono ?_; rintro e5 w5 ⟨rfl, rfl⟩) | (go_at_call 17; refine (HEB.out _ _ _ _ _ _ _ _ _ HTW HAA).mono ?_; rintro e6 w6 ⟨sb, sd, rfl, HBB⟩))
  have HBO : Hid (Both W w4.heap.size w6.heap.size _ _ sh sh _ _ (w6.alloc (.cells #[.int .i64 (k : Nat), .string tx, .int .i64 (y : Nat), .int .i64 st, .slice sb sh.length sd] 34))) := both_of HTW.out HAA.out HBB.out
  generalize w6.alloc (.cells #[.int .i64 (k : Nat), .string tx, .int .i64 (y : Nat), .int .i64 st, .slice sb sh.length sd] 34) = w7 at *
  have x0 := cell_of_at HBO.out.x 0
  have x1 := cell_of_at HBO.out.x 1
  have x2 := cell_of_at HBO.out.x 2
  have x3 := cell_of_at HBO.out.x 3
  have x4 := cell_of_at HBO.out.x 4
  have y0 := cell_of_at HBO.out.y 0
  have y1 := cell_of_at HBO.out.y 1
  have y2 := cell_of_at HBO.out.y 2
  have y3 := cell_of_at HBO.out.y 3
  have y4 := cell_of_at HBO.out.y 4
  simp only [List.getElem?_toArray, List.getElem?_cons_zero, List.getElem?_cons_succ] at x0 x1 x2 x3 x4 y0 y1 y2 y3 y4
  go_wp2
  go_ret
  exact ⟨rfl, HBO.out.below⟩
end Go.Proofs.YtodeeegbajgafaaGreatDoor

namespace Go.Proofs.YtodeeegbajgafaaGreatDoor
open Go.RowKit
set_option maxHeartbeats 8000000 in
set_option maxRecDepth 20000 in
/-- Too little fuel. -/
theorem fueled_dry (W : World) (s : ByteArray) (fuel more : Int) (hf0 : -9223372036854775808 ≤ fuel) (hf1 : fuel ≤ 9223372036854775807) (hm0 : -9223372036854775808 ≤ more) (hm1 : more ≤ 9223372036854775807) (htab : TabOk W) (hE : ErrsAt W) (fs : List Rd.F) (hp : Kc.preK s = .inr fs) (t u : Kc.St)
    (h1 : Kc.Ends (Rd.pickN fuel 400) (Kc.begin_ G0k []) fs t) (h2 : Kc.Ends (Rd.pickN fuel 400 + Rd.pickN more 400) (Kc.begin_ G0k []) fs u) (hk : t.kind = 3) (hy : t.why = 0) (hst : t.steps = Rd.pickN fuel 400) (hsu : t.steps ≤ u.steps) (hl : ∃ l, u.shown = t.shown ++ l) (hlen : u.shown.length < 1000000) :
    Calls Tryz.prog 5 #[.string s, .int .i64 fuel, .int .i64 more] W fun e w' => e = .returned (.bool true) ∧ Below W.heap.size W w' := by
  obtain ⟨HF, HF2⟩ := fresh_two W htab hE
  have HP : Hid (∀ w, Calls Tryz.prog 14 #[.int .i64 fuel, .int .i64 400] w fun e w' => e = .returned (.int .i64 (Rd.pickN fuel 400 : Nat)) ∧ w' = w) := fun w => pick14 fuel 400 hf0 hf1 (by omega) (by omega) w
  have HQ : Hid (∀ w, Calls Tryz.prog 14 #[.int .i64 more, .int .i64 400] w fun e w' => e = .returned (.int .i64 (Rd.pickN more 400 : Nat)) ∧ w' = w) := fun w => pick14 more 400 hm0 hm1 (by omega) (by omega) w
  have hr := Rd.pickN_lt fuel 400 (by omega)
  have hq := Rd.pickN_lt more 400 (by omega)
  generalize Rd.pickN fuel 400 = f at *
  generalize Rd.pickN more 400 = q at *
  have hxo : ∀ sh, Kc.outcomeK t fs.isEmpty sh = .agg #[.int .i64 3, .string ⟨#[]⟩, .int .i64 0, .int .i64 (f : Nat), sh] := fun sh => by
    unfold Kc.outcomeK
    rw [Kc.outK_not (by omega), hk, hy, hst]
    rfl
  obtain ⟨kb, ty, yb, hout⟩ : ∃ (kb : Nat) (ty : ByteArray) (yb : Nat), ∀ sh, Kc.outcomeK u fs.isEmpty sh = .agg #[.int .i64 (kb : Nat), .string ty, .int .i64 (yb : Nat), .int .i64 u.steps, sh] := ⟨_, _, _, fun sh => rfl⟩
  have HEA : Hid (∀ w1 w2 oa ob ga gb, Hid (Two W w1 w2 oa ob ga gb) → Calls Tryz.prog 17 #[.pointer (some ⟨oa, 0, none⟩), .string s, .int .i64 (f : Nat)] w2 fun e w' => ∃ sa sc, e = .returned (.tuple #[.agg #[.int .i64 3, .string ⟨#[]⟩, .int .i64 0, .int .i64 (f : Nat), .slice sa t.shown.length sc], .int .i64 0, .int .i64 0]) ∧ Hid (AftA W w1 w2 w' ga t.shown (.slice sa t.shown.length sc))) := fun w1 w2 oa ob ga gb h => (evalA h.out hp (by omega) h1).mono fun e w' ⟨sa, sn, sc, he, ha⟩ => by
    obtain ⟨a, cap, e1, _⟩ := cells_shown ha.shn.1
    cases e1
    exact ⟨sa, sc, by rw [he, hxo], ha⟩
  have HEB : Hid (∀ w1 w2 w3 oa ob ga gb va o, Hid (Two W w1 w2 oa ob ga gb) → Hid (AftA W w1 w2 w3 ga t.shown va) → Calls Tryz.prog 17 #[.pointer (some ⟨ob, 0, none⟩), .string s, .int .i64 ((f : Int) + (q : Int))] (w3.alloc o) fun e w' => ∃ sa sc, e = .returned (.tuple #[.agg #[.int .i64 (kb : Nat), .string ty, .int .i64 (yb : Nat), .int .i64 u.steps, .slice sa u.shown.length sc], .int .i64 0, .int .i64 0]) ∧ Hid (AftB W w1 w2 (w3.alloc o) w' gb u.shown (.slice sa u.shown.length sc))) := fun w1 w2 w3 oa ob ga gb va o h ha => by
    have := evalB h.out ha.out o hp (F := f + q) (by omega) h2
    rw [show ((f + q : Nat) : Int) = (f : Int) + (q : Int) by omega] at this
    exact this.mono fun e w' ⟨sa, sn, sc, he, hb⟩ => by
      obtain ⟨a, cap, e1, _⟩ := cells_shown hb.shn
      cases e1
      exact ⟨sa, sc, by rw [he, hout], hb⟩
  obtain ⟨l, hl⟩ := hl
  have hla : t.shown.length ≤ u.shown.length := by rw [hl, List.length_append]; omega
  have HSAME : Hid (∀ i (hi : i < t.shown.length) (hj : i < u.shown.length), u.shown[i] = t.shown[i]) := fun i hi hj => by
    have : u.shown[i]? = t.shown[i]? := by rw [hl, List.getElem?_append_left hi]
    rw [List.getElem?_eq_getElem hi, List.getElem?_eq_getElem hj] at this
    exact Option.some.inj this
  have k5 : ¬ (u.steps : Int) < (f : Int) := by omega
  clear hl hxo hout h1 h2 hsu hst hk hy
  generalize t.shown = la at *
  generalize u.shown = lb at *
  generalize u.steps = su at *
  have k1 : -9223372036854775808 ≤ (f : Int) + (q : Int) := by omega
  have k2 : (f : Int) + (q : Int) ≤ 9223372036854775807 := by omega
  have k6 : ¬ (lb.length : Int) < (la.length : Int) := by omega
  clear htab hE hp
  go_enter Tryz.func5, Tryz.ntmps5
  go_upto_region 5 with (first | (go_at_call 10; first | (refine HF.out.mono ?_; rintro e1 w1 ⟨oa, ga, rfl, HM1⟩) | (refine (HF2.out _ _ _ HM1).mono ?_; rintro e2 w2 ⟨ob, gb, rfl, HTW⟩)))
  go_upto_region 6 with (first | (go_at_call 14; refine (HP.out _).mono ?_; rintro e3 w3 ⟨rfl, rfl⟩))
  go_upto_region 7 with (first | (go_at_call 17; refine (HEA.out _ _ _ _ _ _ HTW).mono ?_; rintro e4 w4 ⟨sa, sc, rfl, HAA⟩))
  go_upto_region 8 with (first | (go_at_call 14; refine (HQ.out _).mono ?_; rintro e5 w5 ⟨rfl, rfl⟩) | (go_at_call 17; refine (HEB.out _ _ _ _ _ _ _ _ _ HTW HAA).mono ?_; rintro e6 w6 ⟨sb, sd, rfl, HBB⟩))
  have HBO : Hid (Both W w4.heap.size w6.heap.size (.cells #[.int .i64 3, .string ⟨#[]⟩, .int .i64 0, .int .i64 (f : Nat), .slice sa la.length sc] 34) (.cells #[.int .i64 (kb : Nat), .string ty, .int .i64 (yb : Nat), .int .i64 su, .slice sb lb.length sd] 34) la lb (.slice sa la.length sc) (.slice sb lb.length sd) (w6.alloc (.cells #[.int .i64 (kb : Nat), .string ty, .int .i64 (yb : Nat), .int .i64 su, .slice sb lb.length sd] 34))) := both_of HTW.out HAA.out HBB.out
  generalize w4.heap.size = bx at *
  generalize hby : w6.heap.size = by_ at *
  generalize hw7 : w6.alloc (.cells #[.int .i64 (kb : Nat), .string ty, .int .i64 (yb : Nat), .int .i64 su, .slice sb lb.length sd] 34) = w7 at *
  clear hw7 hby HAA HBB HTW HM1
  have x0 := cell_of_at HBO.out.x 0
  have x1 := cell_of_at HBO.out.x 1
  have x2 := cell_of_at HBO.out.x 2
  have x3 := cell_of_at HBO.out.x 3
  have x4 := cell_of_at HBO.out.x 4
  have y0 := cell_of_at HBO.out.y 0
  have y1 := cell_of_at HBO.out.y 1
  have y2 := cell_of_at HBO.out.y 2
  have y3 := cell_of_at HBO.out.y 3
  have y4 := cell_of_at HBO.out.y 4
  simp only [List.getElem?_toArray, List.getElem?_cons_zero, List.getElem?_cons_succ] at x0 x1 x2 x3 x4 y0 y1 y2 y3 y4
  go_wp2
  go_loopg [16] la.length (fun k v16 wr => ∃ i, i + k = la.length ∧ v16 = .int .i64 (i : Nat) ∧ Both W bx by_ (.cells #[.int .i64 3, .string ⟨#[]⟩, .int .i64 0, .int .i64 (f : Nat), .slice sa la.length sc] 34) (.cells #[.int .i64 (kb : Nat), .string ty, .int .i64 (yb : Nat), .int .i64 su, .slice sb lb.length sd] 34) la lb (.slice sa la.length sc) (.slice sb lb.length sd) wr)
  case atStart => exact ⟨0, by omega, rfl, HBO.out⟩
  case round =>
    obtain ⟨i, hik, rfl, hB⟩ := hrel
    have HB := (show Hid _ from hB)
    have z4 := cell_of_at hB.x 4
    have w4' := cell_of_at hB.y 4
    simp only [List.getElem?_toArray, List.getElem?_cons_zero, List.getElem?_cons_succ] at z4 w4'
    clear x0 x1 x2 x3 x4 y0 y1 y2 y3 y4
    cases gk with
    | zero =>
      have i1 : ¬ (i : Int) < (la.length : Int) := by omega
      clear hB
      go_wp2
      go_ret
      exact ⟨rfl, HB.out.below⟩
    | succ gk =>
      have hi : i < la.length := by omega
      have hj : i < lb.length := by omega
      obtain ⟨aa, ca, e1, hca, hcell⟩ := cells_shown hB.a
      cases e1
      obtain ⟨ab, cb, e2, hcb, hcell'⟩ := cells_shown hB.b
      cases e2
      obtain ⟨g1, rfl, d1⟩ := hcell i hi
      obtain ⟨g2, rfl, d2⟩ := hcell' i hj
      rw [HSAME.out i hi hj] at d2
      unfold strV at d1 d2
      generalize (⟨la[i].toArray⟩ : ByteArray) = S at *
      have i1 : (i : Int) < (la.length : Int) := by omega
      have i2 : (i : Int) < (lb.length : Int) := by omega
      have i3 : -9223372036854775808 ≤ (i : Int) + 1 := by omega
      have i4 : (i : Int) + 1 ≤ 9223372036854775807 := by omega
      have HN : Hid (∃ j, j + gk = la.length ∧ Value.int .i64 ((i : Int) + 1) = .int .i64 (j : Nat) ∧ Both W bx by_ (.cells #[.int .i64 3, .string ⟨#[]⟩, .int .i64 0, .int .i64 (f : Nat), .slice (some ⟨g1, 0, none⟩) la.length sc] 34) (.cells #[.int .i64 (kb : Nat), .string ty, .int .i64 (yb : Nat), .int .i64 su, .slice (some ⟨g2, 0, none⟩) lb.length sd] 34) la lb (.slice (some ⟨g1, 0, none⟩) la.length sc) (.slice (some ⟨g2, 0, none⟩) lb.length sd) wr.drew) := ⟨i + 1, by omega, by simp, HB.out.kept⟩
      clear hB hcell hcell' HSAME hi hj
      go_wp2
      go_region
      all_goals
        go_wp2
        go_roundg gk
        case measure => omega
        case rel => exact HN.out
theorem fueled5 (W : World) (s : ByteArray) (fuel more : Int) (hf0 : -9223372036854775808 ≤ fuel) (hf1 : fuel ≤ 9223372036854775807) (hm0 : -9223372036854775808 ≤ more) (hm1 : more ≤ 9223372036854775807) (htab : TabOk W) (hE : ErrsAt W) :
    Calls Tryz.prog 5 #[.string s, .int .i64 fuel, .int .i64 more] W fun e w' => e = .returned (.bool true) ∧ Below W.heap.size W w' := by
  cases hp : Kc.preK s with
  | inl np => exact fueled_no W s fuel more hf0 hf1 hm0 hm1 htab hE np.1 np.2 hp
  | inr fs =>
    have hr := Rd.pickN_lt fuel 400 (by omega)
    have hq := Rd.pickN_lt more 400 (by omega)
    obtain ⟨t, u, h1, h2, h3, h4, h5⟩ := Kc.fuels fs (Kc.eval_inr hp).1 (Rd.pickN fuel 400) (Rd.pickN fuel 400 + Rd.pickN more 400) (by omega)
    rcases h5 with ⟨k1, k2, k3, k4, k5⟩ | ⟨k1, rfl⟩
    · exact fueled_dry W s fuel more hf0 hf1 hm0 hm1 htab hE fs hp t u h1 h2 k1 k2 k3 k4 k5 (h4.short (by omega))
    · exact fueled_same W s fuel more hf0 hf1 hm0 hm1 htab hE fs hp u h1 h2 h3.st k1
end Go.Proofs.YtodeeegbajgafaaGreatDoor
