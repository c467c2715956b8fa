/- The rules of procedures: what lambda, and a define of one, make. The rule of if. The rule of define. A list that begins with a keyword goes by its rule. Any datum as a form. A form of a source: a define, or any other form. Parsing a source's data. -/
import Derived.Test.YtodeeegbajgafaaGreatDoorQ20
import Derived.Test.YtodeeegbajgafaaGreatDoorQ01
import Derived.Deep.DeepFit
namespace Go.Proofs.YtodeeegbajgafaaGreatDoor
open Go.RowKit

set_option maxHeartbeats 2000000 in
set_option maxRecDepth 10000 in
theorem procedure_any (f : Nat) (HF : FormsC f) (pb sb kb : Nat) (env : List (List Rd.Sym)) (w : World) (p : Int) (g o cap : Nat) (d0 d1 : Rd.D) (rest ps : List Rd.D) (psl : Value) (ns : List Rd.Sym) (xs : List Rd.F) (hp : PAt pb sb kb env w) (hf : env.length + 1 + f ≤ 5000)
    (hs : RepS (fun k => ¬ PM pb sb k) w (.slice (some ⟨g, o, none⟩) (rest.length + 2) cap) (d0 :: d1 :: rest)) (hps : RepS (fun _ => True) w psl ps) (hpl : ps.length ≤ 5000) (hr : rest ≠ []) (hn : Rd.names ps [] = some ns) (hx : Rd.pForms f (ns :: env) rest = some xs) :
    Calls Tryz.prog 102 #[.pointer (some ⟨pb, 0, none⟩), lsV p g o (rest.length + 2) cap, psl] w (RuleR pb sb kb env w (.lam ns.length xs)) := by
  have hlen : 0 < rest.length := List.length_pos_iff.2 hr
  have hcap := hs.len.2
  simp only [List.length_cons] at hcap
  have hlp := hp.lt
  have hnl := Rd.names_length _ _ _ hn
  simp only [List.length_nil, Nat.zero_add] at hnl
  have hnl5 : ns.length ≤ 5000 := by omega
  clear hnl
  have hdf := Rd.names_differ _ _ _ (fun i j hi _ _ => absurd hi (Nat.not_lt_zero _)) hn
  have hp2 := hp.kept ((Below.refl _ w).alloc (Nat.le_refl _) (.cells #[.int .i64 p, .slice (some ⟨g, o, none⟩) (rest.length + 2) cap, .iface 146 (.agg #[])] 62))
  have hps2 := hps.mono (ok' := fun _ => True) (w' := w.alloc (.cells #[.int .i64 p, .slice (some ⟨g, o, none⟩) (rest.length + 2) cap, .iface 146 (.agg #[])] 62)) (fun k hk _ => ⟨trivial, Below.heap_alloc _ _ _ hk⟩)
  have hd := hs.drop 2 (by simp)
  simp only [List.length_cons, List.drop_succ_cons, List.drop_zero, show rest.length + 1 + 1 - 2 = rest.length by omega, show 3 * 2 = 6 by omega] at hd
  have HX := (show Hid _ from hx)
  have HN := (show Hid _ from hn)
  have hshort := (Rd.pForms_short _ _ _ _ hx).1
  obtain ⟨bb, pc, rfl, hpc⟩ : ∃ b cap, psl = .slice b ps.length cap ∧ ps.length ≤ cap := by
    rcases hps with ⟨rfl, rfl⟩ | ⟨g, o, cap, c, T, va, vb, vc, rfl, _, _, hn, _⟩
    · exact ⟨none, 0, rfl, Nat.le_refl _⟩
    · exact ⟨_, cap, rfl, hn⟩
  clear hx hn hs hps
  unfold lsV
  go_enter Tryz.func102, Tryz.ntmps102
  go_wp2_with (first | (go_at_call 103; refine (namesOf_any pb sb kb env _ ps ns _ hp2 hps2 HN.out hpl).mono ?_; rintro e w1 ⟨nv, rfl, hnv, hb1⟩; obtain ⟨na, nc, rfl, hnc⟩ := hnv.shape; have hsz1 : w.heap.size < w1.heap.size := (by have := hb1.size; simp at this; omega); obtain ⟨q0, q1, q2, _, _, _⟩ := cells3 (Below.at hb1 (at_new w _))))
  have hb01 : Below w.heap.size w w1 := ((Below.refl _ w).alloc (Nat.le_refl _) _).trans (hb1.mono (by simp))
  have hnv2 : RepN (fun k => ¬ PM pb sb k) w1 (.slice na ns.length nc) ns := hnv.mono fun k _ hge => ⟨fun h => by
    have : w.heap.size + 1 ≤ k := by simpa using hge
    rcases h with h | h <;> omega, rfl⟩
  have hd2 := hd.mono (ok' := fun k => ¬ PM pb sb k) (fun k hk h => ⟨h, hb01.block k hk⟩)
  have hp1 := hp2.kept hb1
  go_fit (formsWithin_any f HF pb sb kb env w1 ns _ rest xs _ hp1 hf (by omega) hnv2 hdf hd2 HX.out hr)
  rintro e w2 ⟨fv, rfl, hrep, hp3, hk3⟩
  obtain ⟨fa, fc, rfl, _, _⟩ := RepFs.shape hrep
  go_wp2
  go_ret
  exact ⟨_, rfl, .lam _ _ _ (hrep.mono fun k _ hge => ⟨by omega, rfl⟩), hp3, (Kept.of_below hb01 _).trans hk3⟩

/-- A part of a list that is a list: its three cells. -/
theorem RepS.listAt {ok : Nat → Prop} {w : World} {g o cap n : Nat} {ds : List Rd.D} (h : RepS ok w (.slice (some ⟨g, o, none⟩) n cap) ds) (i : Nat) (hi : i < ds.length) {p : Nat} {ps : List Rd.D} {en : Rd.A} (hd : ds[i] = .mk p ps en) :
    ∃ po pc, w.cell? ⟨g, o + 3 * i, none⟩ = some (.int .i64 p) ∧ w.cell? ⟨g, o + 3 * i + 1, none⟩ = some (.slice po ps.length pc) ∧ w.cell? ⟨g, o + 3 * i + 2, none⟩ = some (aV en) ∧ ok g ∧ RepS ok w (.slice po ps.length pc) ps := by
  obtain ⟨g', o', cap', pp, po, pn, pc, ti, xv, heq, hok, _, d0, d1, d2, hrep⟩ := h.cells i hi
  simp only [Value.slice.injEq, Option.some.injEq, Addr.mk.injEq, and_true] at heq
  obtain ⟨⟨rfl, rfl⟩, _, rfl⟩ := heq
  rw [hd] at hrep
  obtain ⟨sl', hv', hsl'⟩ := hrep.inv
  simp only [Value.agg.injEq, Array.mk.injEq, List.cons.injEq, and_true] at hv'
  obtain ⟨h1, h2, h3⟩ := hv'
  subst h2
  have := hsl'.len.1
  subst this
  exact ⟨po, pc, by rw [d0, h1], d1, by rw [d2, h3], hok, hsl'⟩

set_option maxHeartbeats 2000000 in
set_option maxRecDepth 10000 in
theorem lambda_any (f : Nat) (HF : FormsC f) (pb sb kb : Nat) (env : List (List Rd.Sym)) (w : World) (p : Int) (g o cap : Nat) (d0 : Rd.D) (rest ps : List Rd.D) (q : Nat) (ns : List Rd.Sym) (xs : List Rd.F) (hp : PAt pb sb kb env w) (hf : env.length + 1 + f ≤ 5000)
    (hs : RepS (fun k => ¬ PM pb sb k) w (.slice (some ⟨g, o, none⟩) (rest.length + 2) cap) (d0 :: .mk q ps .empty :: rest)) (hpl : ps.length ≤ 5000) (hr : rest ≠ []) (hn : Rd.names ps [] = some ns) (hx : Rd.pForms f (ns :: env) rest = some xs) :
    Calls Tryz.prog 51 #[.pointer (some ⟨pb, 0, none⟩), lsV p g o (rest.length + 2) cap] w (RuleR pb sb kb env w (.lam ns.length xs)) := by
  have hlen : 0 < rest.length := List.length_pos_iff.2 hr
  have hcap := hs.len.2
  simp only [List.length_cons] at hcap
  have hlp := hp.lt
  have hshort := (Rd.pForms_short _ _ _ _ hx).1
  have hnb : ¬ PM pb sb w.heap.size := fun h => by rcases h with h | h <;> omega
  have hp2 := hp.kept ((Below.refl _ w).alloc (Nat.le_refl _) (.cells #[.int .i64 p, .slice (some ⟨g, o, none⟩) (rest.length + 2) cap, .iface 146 (.agg #[])] 62))
  have hs2 := hs.mono (ok' := fun k => ¬ PM pb sb k) (w' := w.alloc (.cells #[.int .i64 p, .slice (some ⟨g, o, none⟩) (rest.length + 2) cap, .iface 146 (.agg #[])] 62)) (fun k hk h => ⟨h, Below.heap_alloc _ _ _ hk⟩)
  obtain ⟨po, pc, e0, e1, e2, hok, hps⟩ := hs2.listAt 1 (by simp) (p := q) (ps := ps) (en := .empty) rfl
  simp only [Nat.mul_one, aV] at e0 e1 e2
  have HN := (show Hid _ from hn)
  have HX := (show Hid _ from hx)
  have HI : Hid (∀ W, Calls Tryz.prog 60 #[.agg #[.int .i64 q, .slice po ps.length pc, .iface 146 (.agg #[])]] W fun e w' => e = .returned (.bool true) ∧ Below W.heap.size W w') := fun W => isList_any q po ps.length pc .empty W
  clear hn hx hs
  unfold lsV
  go_enter Tryz.func51, Tryz.ntmps51
  go_wp2_with (go_at_call 60; refine (HI.out _).mono ?_; rintro e w1 ⟨rfl, hb1⟩; have hsz1 : w.heap.size < w1.heap.size := (by have := hb1.size; simp at this; omega); obtain ⟨q0, q1, q2, _, _, _⟩ := cells3 (Below.at hb1 (at_new w _)); have y0 := (Kept.of_below hb1 (PM pb sb)).cell hok e0; have y1 := (Kept.of_below hb1 (PM pb sb)).cell hok e1; have y2 := (Kept.of_below hb1 (PM pb sb)).cell hok e2)
  have hb01 : Below w.heap.size w w1 := ((Below.refl _ w).alloc (Nat.le_refl _) _).trans (hb1.mono (by simp))
  have hs3 := hs2.mono (ok' := fun k => ¬ PM pb sb k) (fun k hk h => ⟨h, hb1.block k hk⟩)
  have hps3 := hps.mono (ok' := fun _ => True) (fun k hk _ => ⟨trivial, hb1.block k hk⟩)
  have hp3 : PAt pb sb kb env w1.drew := hp2.kept hb1.drew
  have hs3 : RepS (fun k => ¬ PM pb sb k) w1.drew (.slice (some ⟨g, o, none⟩) (rest.length + 2) cap) (d0 :: .mk q ps .empty :: rest) := hs3.mono fun k _ h => ⟨h, rfl⟩
  have hps3 : RepS (fun _ => True) w1.drew (.slice po ps.length pc) ps := hps3.mono fun k _ h => ⟨h, rfl⟩
  have HPR : Hid (Calls Tryz.prog 102 #[.pointer (some ⟨pb, 0, none⟩), .agg #[.int .i64 p, .slice (some ⟨g, o, none⟩) (rest.length + 2) cap, .iface 146 (.agg #[])], .slice po ps.length pc] w1.drew (RuleR pb sb kb env w1.drew (.lam ns.length xs))) := procedure_any f HF pb sb kb env w1.drew p g o cap d0 (.mk q ps .empty) rest ps _ ns xs hp3 hf hs3 hps3 hpl hr HN.out HX.out
  clear hs2 hps hp2 hb1 e0 e1 e2
  go_region_held3 (fun W => W.cell? ⟨w.heap.size, 0, none⟩ = some (.int .i64 p) ∧ W.cell? ⟨w.heap.size, 1, none⟩ = some (.slice (some ⟨g, o, none⟩) (rest.length + 2) cap) ∧ W.cell? ⟨w.heap.size, 2, none⟩ = some (.iface 146 (.agg #[])) ∧ W.cell? ⟨g, o + 3 + 1, none⟩ = some (.slice po ps.length pc)) (first | go_keep) (first | (go_at_call 102; refine HPR.out.mono ?_; rintro e w2 ⟨fv, rfl, hrf, hp4, hk4⟩; have z0 := hk4.cell hnb q0; have z1 := hk4.cell hnb q1; have z2 := hk4.cell hnb q2; have z3 := hk4.cell hok y1))
  go_wp2
  go_ret
  have hk5 : Kept (PM pb sb) w1 w2 := ⟨hk4.os, hk4.tape, hk4.output, hk4.size, hk4.block⟩
  exact ⟨_, rfl, hrf.mono fun k _ hge => ⟨by have : w1.heap.size ≤ k := hge
                                             omega, rfl⟩, hp4, (Kept.of_below hb01 _).trans hk5⟩
end Go.Proofs.YtodeeegbajgafaaGreatDoor

namespace Go.Proofs.YtodeeegbajgafaaGreatDoor
open Go.RowKit

theorem RepFs.cells {ok : Nat → Prop} {w : World} {v : Value} {fs : List Rd.F} (h : RepFs ok w v fs) : ∃ g o cap, v = .slice (some ⟨g, o, none⟩) fs.length cap ∧ ok g ∧ fs.length ≤ cap ∧ cap ≤ 100000 ∧ ∀ i (hi : i < fs.length), ∃ t x, w.cell? ⟨g, o + i, none⟩ = some (.iface t x) ∧ RepF ok w (.iface t x) fs[i] := by
  cases h with
  | list g o cap c T _ vf hg hh hn hcap hc hs =>
    refine ⟨g, o, cap, rfl, hg, hn, hcap, fun i hi => ?_⟩
    obtain ⟨t, x, hx⟩ := RepF.iface (hs i hi)
    refine ⟨t, x, ?_, ?_⟩
    · rw [cell_of_at hh, hc i hi, hx]
    · rw [← hx]; exact hs i hi

set_option maxHeartbeats 2000000 in
set_option maxRecDepth 10000 in
theorem choice_any (f : Nat) (HF : FormsC f) (pb sb kb : Nat) (env : List (List Rd.Sym)) (w : World) (p : Int) (g o cap : Nat) (d0 d1 d2 d3 : Rd.D) (t a e : Rd.F) (hp : PAt pb sb kb env w) (hf : env.length + f ≤ 5000)
    (hs : RepS (fun k => ¬ PM pb sb k) w (.slice (some ⟨g, o, none⟩) 4 cap) [d0, d1, d2, d3]) (hx : Rd.pForms f env [d1, d2, d3] = some [t, a, e]) :
    Calls Tryz.prog 50 #[.pointer (some ⟨pb, 0, none⟩), lsV p g o 4 cap] w (RuleR pb sb kb env w (.ite t a e)) := by
  have hcap := hs.len.2
  simp only [List.length_cons, List.length_nil] at hcap
  have hd := hs.drop 1 (by simp)
  simp only [List.length_cons, List.length_nil, List.drop_one, List.tail_cons, Nat.mul_one, Nat.zero_add, Nat.reduceAdd, Nat.reduceSub] at hd
  have hd2 := hd.mono (ok' := fun k => ¬ PM pb sb k) (w' := w.alloc (.cells #[.int .i64 p, .slice (some ⟨g, o, none⟩) 4 cap, .iface 146 (.agg #[])] 62)) (fun k hk h => ⟨h, Below.heap_alloc _ _ _ hk⟩)
  have hp2 := hp.kept ((Below.refl _ w).alloc (Nat.le_refl _) (.cells #[.int .i64 p, .slice (some ⟨g, o, none⟩) 4 cap, .iface 146 (.agg #[])] 62))
  have HX := (show Hid _ from hx)
  have hlp := hp.lt
  clear hx hs hd
  unfold lsV
  go_enter Tryz.func50, Tryz.ntmps50
  go_wp2_with (go_at_call 101; refine (HF pb sb kb env _ [d1, d2, d3] [t, a, e] _ hp2 hf hd2 HX.out (by simp)).mono ?_; rintro e' w1 ⟨fv, rfl, hrep, hp1, hk1⟩; obtain ⟨fg, fo, fc, rfl, _, hfl, _, hcl⟩ := RepFs.cells hrep; obtain ⟨t0, x0, z0, r0⟩ := hcl 0 (by simp); obtain ⟨t1, x1, z1, r1⟩ := hcl 1 (by simp); obtain ⟨t2, x2, z2, r2⟩ := hcl 2 (by simp); simp only [List.length_cons, List.length_nil, Nat.zero_add, Nat.reduceAdd, Nat.add_zero, List.getElem_cons_succ, List.getElem_cons_zero] at hfl z0 z1 z2 r0 r1 r2 ⊢; clear hcl)
  go_region
  all_goals
    go_wp2
    go_ret
    refine ⟨_, rfl, .ite _ _ _ _ _ _ ?_ ?_ ?_, hp1.kept (Below.refl _ _).drew, ((Kept.refl _ w).alloc _).trans (hk1.drew)⟩
    · exact fresh_of (r0.mono fun k _ h => ⟨h, rfl⟩)
    · exact fresh_of (r1.mono fun k _ h => ⟨h, rfl⟩)
    · exact fresh_of (r2.mono fun k _ h => ⟨h, rfl⟩)
end Go.Proofs.YtodeeegbajgafaaGreatDoor

namespace Go.Proofs.YtodeeegbajgafaaGreatDoor
open Go.RowKit

set_option maxHeartbeats 2000000 in
set_option maxRecDepth 10000 in
theorem define_name (f : Nat) (HF : FormC f) (pb sb kb : Nat) (env : List (List Rd.Sym)) (w : World) (p : Int) (g o cap : Nat) (d0 v : Rd.D) (q : Nat) (n : Rd.Sym) (x : Rd.F) (hp : PAt pb sb kb env w) (hf : env.length + f ≤ 5000)
    (hs : RepS (fun k => ¬ PM pb sb k) w (.slice (some ⟨g, o, none⟩) 3 cap) [d0, .mk q [] (.sym n), v]) (hkey : Rd.keys.contains n = false) (hx : Rd.pForm f env v = some x) :
    Calls Tryz.prog 62 #[.pointer (some ⟨pb, 0, none⟩), lsV p g o 3 cap] w (RuleR pb sb kb env w (.define n x)) := by
  have hcap := hs.len.2
  simp only [List.length_cons, List.length_nil] at hcap
  have hlp := hp.lt
  have hs2 := hs.mono (ok' := fun k => ¬ PM pb sb k) (w' := w.alloc (.cells #[.int .i64 p, .slice (some ⟨g, o, none⟩) 3 cap, .iface 146 (.agg #[])] 62)) (fun k hk h => ⟨h, Below.heap_alloc _ _ _ hk⟩)
  obtain ⟨po, pc, e0, e1, e2⟩ := hs2.symAt 1 (by simp) (p := q) (m := n) rfl
  simp only [Nat.mul_one] at e0 e1 e2
  have hp2 := hp.kept ((Below.refl _ w).alloc (Nat.le_refl _) (.cells #[.int .i64 p, .slice (some ⟨g, o, none⟩) 3 cap, .iface 146 (.agg #[])] 62))
  have HX := (show Hid _ from hx)
  have HK := (show Hid _ from hkey)
  clear hx hkey
  unfold lsV
  go_enter Tryz.func62, Tryz.ntmps62
  go_wp2_with (first | (go_at_call 105; refine (nameOf_any pb sb kb env _ po pc n _ hp2 HK.out).mono ?_; rintro e w1 ⟨rfl, hb1⟩; simp only [symV]; have hsz1 : w.heap.size < w1.heap.size := (by have := hb1.size; simp at this; omega); obtain ⟨q0, q1, q2, _, _, _⟩ := cells3 (Below.at hb1 (at_new w _)); have hs3 := hs2.mono (ok' := fun k => ¬ PM pb sb k) (fun k hk h => ⟨h, hb1.block k hk⟩); obtain ⟨g', o', cap', pp, po', pn, pc', ti, xv, heq, hgok, _, y0, y1, y2, hrepv⟩ := hs3.cells 2 (by simp); simp only [Value.slice.injEq, Option.some.injEq, Addr.mk.injEq, and_true] at heq; obtain ⟨⟨rfl, rfl⟩, _, rfl⟩ := heq; simp only [List.getElem_cons_succ, List.getElem_cons_zero, show 3 * 2 = 6 by omega] at hrepv y0 y1 y2) | (go_at_call 63; refine (HF pb sb kb env _ v x _ (hp2.kept hb1) hf hrepv HX.out).mono ?_; rintro e w2 ⟨fv, rfl, hrf, hp4, hk4⟩; obtain ⟨tf, xf, rfl⟩ := RepF.iface hrf))
  go_ret
  have hb01 : Below w.heap.size w w1 := ((Below.refl _ w).alloc (Nat.le_refl _) _).trans (hb1.mono (by simp))
  exact ⟨_, rfl, .define n _ _ (hrf.mono fun k _ hge => ⟨by omega, rfl⟩), hp4, (Kept.of_below hb01 _).trans hk4⟩

set_option maxHeartbeats 2000000 in
set_option maxRecDepth 10000 in
theorem defineProcedure_any (f : Nat) (HF : FormsC f) (pb sb kb : Nat) (env : List (List Rd.Sym)) (w : World) (p : Int) (g o cap : Nat) (d0 nm : Rd.D) (q : Nat) (rest ps : List Rd.D) (n : Rd.Sym) (ns : List Rd.Sym) (xs : List Rd.F) (hp : PAt pb sb kb env w) (hf : env.length + 1 + f ≤ 5000)
    (hs : RepS (fun k => ¬ PM pb sb k) w (.slice (some ⟨g, o, none⟩) (rest.length + 2) cap) (d0 :: .mk q (nm :: ps) .empty :: rest)) (hpl : ps.length ≤ 4000) (hps0 : ps ≠ []) (hr : rest ≠ []) (hn : nm.name = some n) (hns : Rd.names ps [] = some ns) (hx : Rd.pForms f (ns :: env) rest = some xs) :
    Calls Tryz.prog 108 #[.pointer (some ⟨pb, 0, none⟩), lsV p g o (rest.length + 2) cap] w (RuleR pb sb kb env w (.define n (.lam ns.length xs))) := by
  have hlen : 0 < rest.length := List.length_pos_iff.2 hr
  have hpsl : 0 < ps.length := List.length_pos_iff.2 hps0
  have hcap := hs.len.2
  simp only [List.length_cons] at hcap
  have hlp := hp.lt
  have hshort := (Rd.pForms_short _ _ _ _ hx).1
  obtain ⟨p', hd', hkey⟩ := sym_of_name hn
  have hp2 := hp.kept ((Below.refl _ w).alloc (Nat.le_refl _) (.cells #[.int .i64 p, .slice (some ⟨g, o, none⟩) (rest.length + 2) cap, .iface 146 (.agg #[])] 62))
  have hs2 := hs.mono (ok' := fun k => ¬ PM pb sb k) (w' := w.alloc (.cells #[.int .i64 p, .slice (some ⟨g, o, none⟩) (rest.length + 2) cap, .iface 146 (.agg #[])] 62)) (fun k hk h => ⟨h, Below.heap_alloc _ _ _ hk⟩)
  obtain ⟨po, pc, e0, e1, e2, hok, hps⟩ := hs2.listAt 1 (by simp) (p := q) (ps := nm :: ps) (en := .empty) rfl
  simp only [Nat.mul_one, aV, List.length_cons] at e0 e1 e2 hps
  obtain ⟨gh, oh, rfl⟩ : ∃ gh oh, po = some ⟨gh, oh, none⟩ := by
    rcases hps with ⟨h, _⟩ | ⟨g', o', cap', c, T, va, vb, vc, h, _⟩
    · simp at h
    · simp only [Value.slice.injEq] at h; exact ⟨_, _, h.1⟩
  obtain ⟨po', pc', n0, n1, n2⟩ := hps.symAt 0 (by simp) (p := p') (m := n) hd'
  simp only [Nat.mul_zero, Nat.add_zero] at n0 n1 n2
  have hpc := hps.len.2
  simp only [List.length_cons] at hpc
  generalize hH : Obj.cells #[.int .i64 q, .slice (some ⟨gh, oh, none⟩) (ps.length + 1) pc, .iface 146 (.agg #[])] 62 = H
  have hal : Below (w.alloc (.cells #[.int .i64 p, .slice (some ⟨g, o, none⟩) (rest.length + 2) cap, .iface 146 (.agg #[])] 62)).heap.size (w.alloc (.cells #[.int .i64 p, .slice (some ⟨g, o, none⟩) (rest.length + 2) cap, .iface 146 (.agg #[])] 62)) ((w.alloc (.cells #[.int .i64 p, .slice (some ⟨g, o, none⟩) (rest.length + 2) cap, .iface 146 (.agg #[])] 62)).alloc H) := (Below.refl _ _).alloc (Nat.le_refl _) _
  have hkal := Kept.of_below hal (fun _ => False)
  have m0 := hkal.cell id n0
  have m1 := hkal.cell id n1
  have m2 := hkal.cell id n2
  have hp3 := hp2.kept hal
  have hs3 := hs2.mono (ok' := fun k => ¬ PM pb sb k) (fun k hk h => ⟨h, hal.block k hk⟩)
  have hps3 := (hps.drop 1 (by simp)).mono (ok' := fun _ => True) (fun k hk _ => ⟨trivial, hal.block k hk⟩)
  simp only [List.length_cons, List.drop_one, List.tail_cons, Nat.add_sub_cancel, Nat.mul_one] at hps3
  have HN := (show Hid _ from hns)
  have HX := (show Hid _ from hx)
  have HK := (show Hid _ from hkey)
  have HI : Hid (∀ W, Calls Tryz.prog 60 #[.agg #[.int .i64 q, .slice (some ⟨gh, oh, none⟩) (ps.length + 1) pc, .iface 146 (.agg #[])]] W fun e w' => e = .returned (.bool true) ∧ Below W.heap.size W w') := fun W => isList_any q _ (ps.length + 1) pc .empty W
  have hnb : ¬ PM pb sb w.heap.size := fun h => by rcases h with h | h <;> omega
  have hnb2 : ¬ PM pb sb (w.heap.size + 1) := fun h => by rcases h with h | h <;> omega
  subst hH
  clear hn hs hns hx hkey n0 n1 n2 hkal
  unfold lsV
  go_enter Tryz.func108, Tryz.ntmps108
  go_wp2_with (first | (go_at_call 105; refine (nameOf_any pb sb kb env _ po' pc' n _ hp3 HK.out).mono ?_; rintro e w1 ⟨rfl, hb1⟩; simp only [symV]; have hsz1 : w.heap.size + 1 < w1.heap.size := (by have := hb1.size; simp at this; omega); obtain ⟨q0, q1, q2, _, _, _⟩ := cells3 (Below.at hb1 (at_alloc (at_new w _) _)); obtain ⟨h0, h1, h2, _, _, _⟩ := cells3 (Below.at hb1 (at_new (w.alloc _) _)); simp only [World.alloc, Array.size_push] at h0 h1 h2) | (go_at_call 60; refine (HI.out _).mono ?_; rintro e w2 ⟨rfl, hb2⟩))
  have hk2 := Kept.of_below hb2 (fun _ => False)
  have y0 := hk2.cell id q0
  have y1 := hk2.cell id q1
  have y2 := hk2.cell id q2
  have y3 := hk2.cell id h1
  have hb12 := hb1.trans (hb2.mono hb1.size)
  have hb12d : Below ((w.alloc (.cells #[.int .i64 p, .slice (some ⟨g, o, none⟩) (rest.length + 2) cap, .iface 146 (.agg #[])] 62)).alloc (.cells #[.int .i64 q, .slice (some ⟨gh, oh, none⟩) (ps.length + 1) pc, .iface 146 (.agg #[])] 62)).heap.size ((w.alloc (.cells #[.int .i64 p, .slice (some ⟨g, o, none⟩) (rest.length + 2) cap, .iface 146 (.agg #[])] 62)).alloc (.cells #[.int .i64 q, .slice (some ⟨gh, oh, none⟩) (ps.length + 1) pc, .iface 146 (.agg #[])] 62)) w2.drew := hb12.drew
  have hp4 : PAt pb sb kb env w2.drew := hp3.kept hb12d
  have hs4 := hs3.mono (ok' := fun k => ¬ PM pb sb k) (fun k hk h => ⟨h, hb12d.block k hk⟩)
  have hps4 := hps3.mono (ok' := fun _ => True) (fun k hk _ => ⟨trivial, hb12d.block k hk⟩)
  have hb02 : Below w.heap.size w w2 := (((Below.refl _ w).alloc (Nat.le_refl _) _).alloc (by simp) _).trans (hb12.mono (by simp; omega))
  have HPR : Hid (Calls Tryz.prog 102 #[.pointer (some ⟨pb, 0, none⟩), .agg #[.int .i64 p, .slice (some ⟨g, o, none⟩) (rest.length + 2) cap, .iface 146 (.agg #[])], .slice (some ⟨gh, oh + 3, none⟩) ps.length (pc - 1)] w2.drew (RuleR pb sb kb env w2.drew (.lam ns.length xs))) := procedure_any f HF pb sb kb env w2.drew p g o cap d0 (.mk q (nm :: ps) .empty) rest ps _ ns xs hp4 hf hs4 hps4 (by omega) hr HN.out HX.out
  clear hs2 hs3 hs4 hps hps3 hps4 hp2 hp3 hal hb1 hb2 hb12 hb12d e0 e1 e2 m0 m1 m2 hk2
  have i1 : ¬ pc = 1 := by omega
  have i2 : (1 : Int) ≤ (ps.length : Int) + 1 := by omega
  have i3 : (ps.length : Int) + 1 ≤ (pc : Int) := by omega
  go_region_held3 (fun W => W.cell? ⟨w.heap.size, 0, none⟩ = some (.int .i64 p) ∧ W.cell? ⟨w.heap.size, 1, none⟩ = some (.slice (some ⟨g, o, none⟩) (rest.length + 2) cap) ∧ W.cell? ⟨w.heap.size, 2, none⟩ = some (.iface 146 (.agg #[])) ∧ W.cell? ⟨w.heap.size + 1, 1, none⟩ = some (.slice (some ⟨gh, oh, none⟩) (ps.length + 1) pc)) (go_keep) (first | (go_at_call 102; refine HPR.out.mono ?_; rintro e w3 ⟨fv, rfl, hrf, hp5, hk5⟩; obtain ⟨tf, xf, rfl⟩ := RepF.iface hrf; have z0 := hk5.cell hnb y0; have z1 := hk5.cell hnb y1; have z2 := hk5.cell hnb y2; have z3 := hk5.cell hnb2 y3))
  go_wp2
  go_ret
  have hk6 : Kept (PM pb sb) w2 w3 := ⟨hk5.os, hk5.tape, hk5.output, hk5.size, hk5.block⟩
  have hs0 := hb02.size
  exact ⟨_, rfl, .define n _ _ (hrf.mono fun k _ hge => ⟨Nat.le_trans hs0 hge, rfl⟩), hp5, (Kept.of_below hb02 _).trans hk6⟩

set_option maxHeartbeats 2000000 in
set_option maxRecDepth 10000 in
theorem define_proc (f : Nat) (HF : FormsC f) (pb sb kb : Nat) (env : List (List Rd.Sym)) (w : World) (p : Int) (g o cap : Nat) (d0 nm : Rd.D) (q : Nat) (rest ps : List Rd.D) (n : Rd.Sym) (ns : List Rd.Sym) (xs : List Rd.F) (hp : PAt pb sb kb env w) (hf : env.length + 1 + f ≤ 5000)
    (hs : RepS (fun k => ¬ PM pb sb k) w (.slice (some ⟨g, o, none⟩) (rest.length + 2) cap) (d0 :: .mk q (nm :: ps) .empty :: rest)) (hpl : ps.length ≤ 4000) (hps0 : ps ≠ []) (hr : rest ≠ []) (hn : nm.name = some n) (hns : Rd.names ps [] = some ns) (hx : Rd.pForms f (ns :: env) rest = some xs) :
    Calls Tryz.prog 62 #[.pointer (some ⟨pb, 0, none⟩), lsV p g o (rest.length + 2) cap] w (RuleR pb sb kb env w (.define n (.lam ns.length xs))) := by
  have hlen : 0 < rest.length := List.length_pos_iff.2 hr
  have hcap := hs.len.2
  simp only [List.length_cons] at hcap
  have hlp := hp.lt
  have hshort := (Rd.pForms_short _ _ _ _ hx).1
  have hp2 := hp.kept ((Below.refl _ w).alloc (Nat.le_refl _) (.cells #[.int .i64 p, .slice (some ⟨g, o, none⟩) (rest.length + 2) cap, .iface 146 (.agg #[])] 62))
  have hs2 := hs.mono (ok' := fun k => ¬ PM pb sb k) (w' := w.alloc (.cells #[.int .i64 p, .slice (some ⟨g, o, none⟩) (rest.length + 2) cap, .iface 146 (.agg #[])] 62)) (fun k hk h => ⟨h, Below.heap_alloc _ _ _ hk⟩)
  obtain ⟨po, pc, e0, e1, e2, hok, hps⟩ := hs2.listAt 1 (by simp) (p := q) (ps := nm :: ps) (en := .empty) rfl
  simp only [Nat.mul_one, aV, List.length_cons] at e0 e1 e2
  have HPR : Hid (Calls Tryz.prog 108 #[.pointer (some ⟨pb, 0, none⟩), .agg #[.int .i64 p, .slice (some ⟨g, o, none⟩) (rest.length + 2) cap, .iface 146 (.agg #[])]] (w.alloc (.cells #[.int .i64 p, .slice (some ⟨g, o, none⟩) (rest.length + 2) cap, .iface 146 (.agg #[])] 62)) (RuleR pb sb kb env (w.alloc (.cells #[.int .i64 p, .slice (some ⟨g, o, none⟩) (rest.length + 2) cap, .iface 146 (.agg #[])] 62)) (.define n (.lam ns.length xs)))) := defineProcedure_any f HF pb sb kb env _ p g o cap d0 nm q rest ps n ns xs hp2 hf hs2 hpl hps0 hr hn hns hx
  clear hs hs2 hps hns hx hn
  unfold lsV
  go_enter Tryz.func62, Tryz.ntmps62
  go_wp2_with (go_at_call 108; refine HPR.out.mono ?_; rintro e w3 ⟨fv, rfl, hrf, hp5, hk5⟩)
  go_ret
  exact ⟨_, rfl, fresh_of hrf, hp5, ((Kept.refl _ w).alloc _).trans hk5⟩
end Go.Proofs.YtodeeegbajgafaaGreatDoor

namespace Go.Proofs.YtodeeegbajgafaaGreatDoor
open Go.RowKit

theorem form_facts {pb sb kb : Nat} {env : List (List Rd.Sym)} {w : World} (hp : PAt pb sb kb env w) (n : Rd.Sym) :
    w.cell? ⟨pb, 2, none⟩ = some (.map (some kb)) ∧ (Instr.lookup 92 (.map (some kb)) (.string ⟨n.toArray⟩) false).run Tryz.prog w = .ok (((symIx n ruleList 0).map (·.2)).getD .nilFunc) w := by
  obtain ⟨⟨T, h1⟩, _, hru, _⟩ := hp
  exact ⟨cell_of_at h1 2, lookup_sym Tryz.underlying92 zero188 hru n⟩

theorem sym_mk {d : Rd.D} {n : Rd.Sym} (h : d.sym = some n) : ∃ p, d = .mk p [] (.sym n) := by
  obtain ⟨p, ds, en⟩ := d
  cases ds with
  | cons a b => simp [Rd.D.sym] at h
  | nil =>
    cases en <;> simp [Rd.D.sym] at h
    subst h
    exact ⟨p, rfl⟩

set_option maxHeartbeats 2000000 in
set_option maxRecDepth 10000 in
theorem form_quote (pb sb kb : Nat) (env : List (List Rd.Sym)) (w : World) (p : Int) (g o cap : Nat) (d0 : Rd.D) (rest : List Rd.D) (x : Rd.F) (hp : PAt pb sb kb env w) (hl : rest.length ≤ 5000) (hs : RepS (fun k => ¬ PM pb sb k) w (.slice (some ⟨g, o, none⟩) (rest.length + 1) cap) (d0 :: rest)) (hk : d0.sym = some Rd.kwQuote)
    (HR : ∀ W, PAt pb sb kb env W → RepS (fun k => ¬ PM pb sb k) W (.slice (some ⟨g, o, none⟩) (rest.length + 1) cap) (d0 :: rest) → Calls Tryz.prog 49 #[.pointer (some ⟨pb, 0, none⟩), lsV p g o (rest.length + 1) cap] W (RuleR pb sb kb env W x)) :
    Calls Tryz.prog 63 #[.pointer (some ⟨pb, 0, none⟩), lsV p g o (rest.length + 1) cap] w (RuleR pb sb kb env w x) := by
  obtain ⟨q, rfl⟩ := sym_mk hk
  have hcap := hs.len.2
  simp only [List.length_cons] at hcap
  have hlp := hp.lt
  have hp2 := hp.kept ((Below.refl _ w).alloc (Nat.le_refl _) (.cells #[.int .i64 p, .slice (some ⟨g, o, none⟩) (rest.length + 1) cap, .iface 146 (.agg #[])] 62))
  have hs2 := hs.mono (ok' := fun k => ¬ PM pb sb k) (w' := w.alloc (.cells #[.int .i64 p, .slice (some ⟨g, o, none⟩) (rest.length + 1) cap, .iface 146 (.agg #[])] 62)) (fun k hk h => ⟨h, Below.heap_alloc _ _ _ hk⟩)
  have hok : ¬ PM pb sb g := by
    obtain ⟨g', o', cap', pp, po0, pn0, pc0, ti, xv, heq, hok, _⟩ := hs2.cells 0 (by simp)
    simp only [Value.slice.injEq, Option.some.injEq, Addr.mk.injEq, and_true] at heq
    obtain ⟨⟨rfl, rfl⟩, _, rfl⟩ := heq
    exact hok
  obtain ⟨po, pc, e0, e1, e2⟩ := hs2.symAt 0 (by simp) (p := q) (m := Rd.kwQuote) rfl
  simp only [Nat.mul_zero, Nat.add_zero, Rd.kwQuote] at e0 e1 e2
  have HI : Hid (∀ W, Calls Tryz.prog 60 #[.agg #[.int .i64 p, .slice (some ⟨g, o, none⟩) (rest.length + 1) cap, .iface 146 (.agg #[])]] W fun e w' => e = .returned (.bool true) ∧ Below W.heap.size W w') := fun W => isList_any p _ (rest.length + 1) cap .empty W
  have hS := fun W => symbol_leaf q po pc (.sym Rd.kwQuote) W
  simp only [aV, Rd.A.symbol, Option.getD_some, Option.isSome_some, Rd.kwQuote] at hS
  have HS := (show Hid _ from hS)
  have HRH := (show Hid _ from HR)
  have hne := nef_func 49
  have hnz : (((rest.length : Int) + 1) == 0) = false := by simp; omega
  clear hS HR hs hk
  unfold lsV
  go_enter Tryz.func63, Tryz.ntmps63
  go_wp2_with (first | (go_at_call 60; refine (HI.out _).mono ?_; rintro e w1 ⟨rfl, hb1⟩; have hsz1 : w.heap.size < w1.heap.size := (by have := hb1.size; simp at this; omega); obtain ⟨q0, q1, q2, _, _, _⟩ := cells3 (Below.at hb1 (at_new w _)); have y0 := (Kept.of_below hb1 (PM pb sb)).cell hok e0; have y1 := (Kept.of_below hb1 (PM pb sb)).cell hok e1; have y2 := (Kept.of_below hb1 (PM pb sb)).cell hok e2) | (go_at_call 61; refine (HS.out _).mono ?_; rintro e w2 ⟨rfl, hb2⟩; have hb12 := hb1.trans (hb2.mono hb1.size); have hp4 := hp2.kept hb12; have hs4 := hs2.mono (ok' := fun k => ¬ PM pb sb k) (fun k hk h => ⟨h, hb12.block k hk⟩); obtain ⟨r0, r1, r2, _, _, _⟩ := cells3 (Below.at hb12 (at_new w _)); obtain ⟨c2, hlk⟩ := form_facts hp4 Rd.kwQuote; have hlk : (Instr.lookup 92 (.map (some kb)) (.string ⟨List.toArray Rd.kwQuote⟩) false).run Tryz.prog w2 = .ok (.func (.func 49) #[] #[]) w2 := hlk; simp only [Rd.kwQuote] at hlk) | (go_at_call 49; refine (HRH.out _ hp4 hs4).mono ?_; rintro e w3 ⟨fv, rfl, hrf, hp5, hk5⟩))
  have hb02 : Below w.heap.size w w2 := ((Below.refl _ w).alloc (Nat.le_refl _) _).trans (hb12.mono (by simp))
  go_ret
  have hs0 := hb02.size
  exact ⟨_, rfl, hrf.mono fun k _ hge => ⟨Nat.le_trans hs0 hge, rfl⟩, hp5, (Kept.of_below hb02 _).trans hk5⟩

set_option maxHeartbeats 2000000 in
set_option maxRecDepth 10000 in
theorem form_if (pb sb kb : Nat) (env : List (List Rd.Sym)) (w : World) (p : Int) (g o cap : Nat) (d0 : Rd.D) (rest : List Rd.D) (x : Rd.F) (hp : PAt pb sb kb env w) (hl : rest.length ≤ 5000) (hs : RepS (fun k => ¬ PM pb sb k) w (.slice (some ⟨g, o, none⟩) (rest.length + 1) cap) (d0 :: rest)) (hk : d0.sym = some Rd.kwIf)
    (HR : ∀ W, PAt pb sb kb env W → RepS (fun k => ¬ PM pb sb k) W (.slice (some ⟨g, o, none⟩) (rest.length + 1) cap) (d0 :: rest) → Calls Tryz.prog 50 #[.pointer (some ⟨pb, 0, none⟩), lsV p g o (rest.length + 1) cap] W (RuleR pb sb kb env W x)) :
    Calls Tryz.prog 63 #[.pointer (some ⟨pb, 0, none⟩), lsV p g o (rest.length + 1) cap] w (RuleR pb sb kb env w x) := by
  obtain ⟨q, rfl⟩ := sym_mk hk
  have hcap := hs.len.2
  simp only [List.length_cons] at hcap
  have hlp := hp.lt
  have hp2 := hp.kept ((Below.refl _ w).alloc (Nat.le_refl _) (.cells #[.int .i64 p, .slice (some ⟨g, o, none⟩) (rest.length + 1) cap, .iface 146 (.agg #[])] 62))
  have hs2 := hs.mono (ok' := fun k => ¬ PM pb sb k) (w' := w.alloc (.cells #[.int .i64 p, .slice (some ⟨g, o, none⟩) (rest.length + 1) cap, .iface 146 (.agg #[])] 62)) (fun k hk h => ⟨h, Below.heap_alloc _ _ _ hk⟩)
  have hok : ¬ PM pb sb g := by
    obtain ⟨g', o', cap', pp, po0, pn0, pc0, ti, xv, heq, hok, _⟩ := hs2.cells 0 (by simp)
    simp only [Value.slice.injEq, Option.some.injEq, Addr.mk.injEq, and_true] at heq
    obtain ⟨⟨rfl, rfl⟩, _, rfl⟩ := heq
    exact hok
  obtain ⟨po, pc, e0, e1, e2⟩ := hs2.symAt 0 (by simp) (p := q) (m := Rd.kwIf) rfl
  simp only [Nat.mul_zero, Nat.add_zero, Rd.kwIf] at e0 e1 e2
  have HI : Hid (∀ W, Calls Tryz.prog 60 #[.agg #[.int .i64 p, .slice (some ⟨g, o, none⟩) (rest.length + 1) cap, .iface 146 (.agg #[])]] W fun e w' => e = .returned (.bool true) ∧ Below W.heap.size W w') := fun W => isList_any p _ (rest.length + 1) cap .empty W
  have hS := fun W => symbol_leaf q po pc (.sym Rd.kwIf) W
  simp only [aV, Rd.A.symbol, Option.getD_some, Option.isSome_some, Rd.kwIf] at hS
  have HS := (show Hid _ from hS)
  have HRH := (show Hid _ from HR)
  have hne := nef_func 50
  have hnz : (((rest.length : Int) + 1) == 0) = false := by simp; omega
  clear hS HR hs hk
  unfold lsV
  go_enter Tryz.func63, Tryz.ntmps63
  go_wp2_with (first | (go_at_call 60; refine (HI.out _).mono ?_; rintro e w1 ⟨rfl, hb1⟩; have hsz1 : w.heap.size < w1.heap.size := (by have := hb1.size; simp at this; omega); obtain ⟨q0, q1, q2, _, _, _⟩ := cells3 (Below.at hb1 (at_new w _)); have y0 := (Kept.of_below hb1 (PM pb sb)).cell hok e0; have y1 := (Kept.of_below hb1 (PM pb sb)).cell hok e1; have y2 := (Kept.of_below hb1 (PM pb sb)).cell hok e2) | (go_at_call 61; refine (HS.out _).mono ?_; rintro e w2 ⟨rfl, hb2⟩; have hb12 := hb1.trans (hb2.mono hb1.size); have hp4 := hp2.kept hb12; have hs4 := hs2.mono (ok' := fun k => ¬ PM pb sb k) (fun k hk h => ⟨h, hb12.block k hk⟩); obtain ⟨r0, r1, r2, _, _, _⟩ := cells3 (Below.at hb12 (at_new w _)); obtain ⟨c2, hlk⟩ := form_facts hp4 Rd.kwIf; have hlk : (Instr.lookup 92 (.map (some kb)) (.string ⟨List.toArray Rd.kwIf⟩) false).run Tryz.prog w2 = .ok (.func (.func 50) #[] #[]) w2 := hlk; simp only [Rd.kwIf] at hlk) | (go_at_call 50; refine (HRH.out _ hp4 hs4).mono ?_; rintro e w3 ⟨fv, rfl, hrf, hp5, hk5⟩))
  have hb02 : Below w.heap.size w w2 := ((Below.refl _ w).alloc (Nat.le_refl _) _).trans (hb12.mono (by simp))
  go_ret
  have hs0 := hb02.size
  exact ⟨_, rfl, hrf.mono fun k _ hge => ⟨Nat.le_trans hs0 hge, rfl⟩, hp5, (Kept.of_below hb02 _).trans hk5⟩

set_option maxHeartbeats 2000000 in
set_option maxRecDepth 10000 in
theorem form_lambda (pb sb kb : Nat) (env : List (List Rd.Sym)) (w : World) (p : Int) (g o cap : Nat) (d0 : Rd.D) (rest : List Rd.D) (x : Rd.F) (hp : PAt pb sb kb env w) (hl : rest.length ≤ 5000) (hs : RepS (fun k => ¬ PM pb sb k) w (.slice (some ⟨g, o, none⟩) (rest.length + 1) cap) (d0 :: rest)) (hk : d0.sym = some Rd.kwLambda)
    (HR : ∀ W, PAt pb sb kb env W → RepS (fun k => ¬ PM pb sb k) W (.slice (some ⟨g, o, none⟩) (rest.length + 1) cap) (d0 :: rest) → Calls Tryz.prog 51 #[.pointer (some ⟨pb, 0, none⟩), lsV p g o (rest.length + 1) cap] W (RuleR pb sb kb env W x)) :
    Calls Tryz.prog 63 #[.pointer (some ⟨pb, 0, none⟩), lsV p g o (rest.length + 1) cap] w (RuleR pb sb kb env w x) := by
  obtain ⟨q, rfl⟩ := sym_mk hk
  have hcap := hs.len.2
  simp only [List.length_cons] at hcap
  have hlp := hp.lt
  have hp2 := hp.kept ((Below.refl _ w).alloc (Nat.le_refl _) (.cells #[.int .i64 p, .slice (some ⟨g, o, none⟩) (rest.length + 1) cap, .iface 146 (.agg #[])] 62))
  have hs2 := hs.mono (ok' := fun k => ¬ PM pb sb k) (w' := w.alloc (.cells #[.int .i64 p, .slice (some ⟨g, o, none⟩) (rest.length + 1) cap, .iface 146 (.agg #[])] 62)) (fun k hk h => ⟨h, Below.heap_alloc _ _ _ hk⟩)
  have hok : ¬ PM pb sb g := by
    obtain ⟨g', o', cap', pp, po0, pn0, pc0, ti, xv, heq, hok, _⟩ := hs2.cells 0 (by simp)
    simp only [Value.slice.injEq, Option.some.injEq, Addr.mk.injEq, and_true] at heq
    obtain ⟨⟨rfl, rfl⟩, _, rfl⟩ := heq
    exact hok
  obtain ⟨po, pc, e0, e1, e2⟩ := hs2.symAt 0 (by simp) (p := q) (m := Rd.kwLambda) rfl
  simp only [Nat.mul_zero, Nat.add_zero, Rd.kwLambda] at e0 e1 e2
  have HI : Hid (∀ W, Calls Tryz.prog 60 #[.agg #[.int .i64 p, .slice (some ⟨g, o, none⟩) (rest.length + 1) cap, .iface 146 (.agg #[])]] W fun e w' => e = .returned (.bool true) ∧ Below W.heap.size W w') := fun W => isList_any p _ (rest.length + 1) cap .empty W
  have hS := fun W => symbol_leaf q po pc (.sym Rd.kwLambda) W
  simp only [aV, Rd.A.symbol, Option.getD_some, Option.isSome_some, Rd.kwLambda] at hS
  have HS := (show Hid _ from hS)
  have HRH := (show Hid _ from HR)
  have hne := nef_func 51
  have hnz : (((rest.length : Int) + 1) == 0) = false := by simp; omega
  clear hS HR hs hk
  unfold lsV
  go_enter Tryz.func63, Tryz.ntmps63
  go_wp2_with (first | (go_at_call 60; refine (HI.out _).mono ?_; rintro e w1 ⟨rfl, hb1⟩; have hsz1 : w.heap.size < w1.heap.size := (by have := hb1.size; simp at this; omega); obtain ⟨q0, q1, q2, _, _, _⟩ := cells3 (Below.at hb1 (at_new w _)); have y0 := (Kept.of_below hb1 (PM pb sb)).cell hok e0; have y1 := (Kept.of_below hb1 (PM pb sb)).cell hok e1; have y2 := (Kept.of_below hb1 (PM pb sb)).cell hok e2) | (go_at_call 61; refine (HS.out _).mono ?_; rintro e w2 ⟨rfl, hb2⟩; have hb12 := hb1.trans (hb2.mono hb1.size); have hp4 := hp2.kept hb12; have hs4 := hs2.mono (ok' := fun k => ¬ PM pb sb k) (fun k hk h => ⟨h, hb12.block k hk⟩); obtain ⟨r0, r1, r2, _, _, _⟩ := cells3 (Below.at hb12 (at_new w _)); obtain ⟨c2, hlk⟩ := form_facts hp4 Rd.kwLambda; have hlk : (Instr.lookup 92 (.map (some kb)) (.string ⟨List.toArray Rd.kwLambda⟩) false).run Tryz.prog w2 = .ok (.func (.func 51) #[] #[]) w2 := hlk; simp only [Rd.kwLambda] at hlk) | (go_at_call 51; refine (HRH.out _ hp4 hs4).mono ?_; rintro e w3 ⟨fv, rfl, hrf, hp5, hk5⟩))
  have hb02 : Below w.heap.size w w2 := ((Below.refl _ w).alloc (Nat.le_refl _) _).trans (hb12.mono (by simp))
  go_ret
  have hs0 := hb02.size
  exact ⟨_, rfl, hrf.mono fun k _ hge => ⟨Nat.le_trans hs0 hge, rfl⟩, hp5, (Kept.of_below hb02 _).trans hk5⟩

set_option maxHeartbeats 2000000 in
set_option maxRecDepth 10000 in
theorem form_begin (pb sb kb : Nat) (env : List (List Rd.Sym)) (w : World) (p : Int) (g o cap : Nat) (d0 : Rd.D) (rest : List Rd.D) (x : Rd.F) (hp : PAt pb sb kb env w) (hl : rest.length ≤ 5000) (hs : RepS (fun k => ¬ PM pb sb k) w (.slice (some ⟨g, o, none⟩) (rest.length + 1) cap) (d0 :: rest)) (hk : d0.sym = some Rd.kwBegin)
    (HR : ∀ W, PAt pb sb kb env W → RepS (fun k => ¬ PM pb sb k) W (.slice (some ⟨g, o, none⟩) (rest.length + 1) cap) (d0 :: rest) → Calls Tryz.prog 52 #[.pointer (some ⟨pb, 0, none⟩), lsV p g o (rest.length + 1) cap] W (RuleR pb sb kb env W x)) :
    Calls Tryz.prog 63 #[.pointer (some ⟨pb, 0, none⟩), lsV p g o (rest.length + 1) cap] w (RuleR pb sb kb env w x) := by
  obtain ⟨q, rfl⟩ := sym_mk hk
  have hcap := hs.len.2
  simp only [List.length_cons] at hcap
  have hlp := hp.lt
  have hp2 := hp.kept ((Below.refl _ w).alloc (Nat.le_refl _) (.cells #[.int .i64 p, .slice (some ⟨g, o, none⟩) (rest.length + 1) cap, .iface 146 (.agg #[])] 62))
  have hs2 := hs.mono (ok' := fun k => ¬ PM pb sb k) (w' := w.alloc (.cells #[.int .i64 p, .slice (some ⟨g, o, none⟩) (rest.length + 1) cap, .iface 146 (.agg #[])] 62)) (fun k hk h => ⟨h, Below.heap_alloc _ _ _ hk⟩)
  have hok : ¬ PM pb sb g := by
    obtain ⟨g', o', cap', pp, po0, pn0, pc0, ti, xv, heq, hok, _⟩ := hs2.cells 0 (by simp)
    simp only [Value.slice.injEq, Option.some.injEq, Addr.mk.injEq, and_true] at heq
    obtain ⟨⟨rfl, rfl⟩, _, rfl⟩ := heq
    exact hok
  obtain ⟨po, pc, e0, e1, e2⟩ := hs2.symAt 0 (by simp) (p := q) (m := Rd.kwBegin) rfl
  simp only [Nat.mul_zero, Nat.add_zero, Rd.kwBegin] at e0 e1 e2
  have HI : Hid (∀ W, Calls Tryz.prog 60 #[.agg #[.int .i64 p, .slice (some ⟨g, o, none⟩) (rest.length + 1) cap, .iface 146 (.agg #[])]] W fun e w' => e = .returned (.bool true) ∧ Below W.heap.size W w') := fun W => isList_any p _ (rest.length + 1) cap .empty W
  have hS := fun W => symbol_leaf q po pc (.sym Rd.kwBegin) W
  simp only [aV, Rd.A.symbol, Option.getD_some, Option.isSome_some, Rd.kwBegin] at hS
  have HS := (show Hid _ from hS)
  have HRH := (show Hid _ from HR)
  have hne := nef_func 52
  have hnz : (((rest.length : Int) + 1) == 0) = false := by simp; omega
  clear hS HR hs hk
  unfold lsV
  go_enter Tryz.func63, Tryz.ntmps63
  go_wp2_with (first | (go_at_call 60; refine (HI.out _).mono ?_; rintro e w1 ⟨rfl, hb1⟩; have hsz1 : w.heap.size < w1.heap.size := (by have := hb1.size; simp at this; omega); obtain ⟨q0, q1, q2, _, _, _⟩ := cells3 (Below.at hb1 (at_new w _)); have y0 := (Kept.of_below hb1 (PM pb sb)).cell hok e0; have y1 := (Kept.of_below hb1 (PM pb sb)).cell hok e1; have y2 := (Kept.of_below hb1 (PM pb sb)).cell hok e2) | (go_at_call 61; refine (HS.out _).mono ?_; rintro e w2 ⟨rfl, hb2⟩; have hb12 := hb1.trans (hb2.mono hb1.size); have hp4 := hp2.kept hb12; have hs4 := hs2.mono (ok' := fun k => ¬ PM pb sb k) (fun k hk h => ⟨h, hb12.block k hk⟩); obtain ⟨r0, r1, r2, _, _, _⟩ := cells3 (Below.at hb12 (at_new w _)); obtain ⟨c2, hlk⟩ := form_facts hp4 Rd.kwBegin; have hlk : (Instr.lookup 92 (.map (some kb)) (.string ⟨List.toArray Rd.kwBegin⟩) false).run Tryz.prog w2 = .ok (.func (.func 52) #[] #[]) w2 := hlk; simp only [Rd.kwBegin] at hlk) | (go_at_call 52; refine (HRH.out _ hp4 hs4).mono ?_; rintro e w3 ⟨fv, rfl, hrf, hp5, hk5⟩))
  have hb02 : Below w.heap.size w w2 := ((Below.refl _ w).alloc (Nat.le_refl _) _).trans (hb12.mono (by simp))
  go_ret
  have hs0 := hb02.size
  exact ⟨_, rfl, hrf.mono fun k _ hge => ⟨Nat.le_trans hs0 hge, rfl⟩, hp5, (Kept.of_below hb02 _).trans hk5⟩

set_option maxHeartbeats 2000000 in
set_option maxRecDepth 10000 in
theorem form_let (pb sb kb : Nat) (env : List (List Rd.Sym)) (w : World) (p : Int) (g o cap : Nat) (d0 : Rd.D) (rest : List Rd.D) (x : Rd.F) (hp : PAt pb sb kb env w) (hl : rest.length ≤ 5000) (hs : RepS (fun k => ¬ PM pb sb k) w (.slice (some ⟨g, o, none⟩) (rest.length + 1) cap) (d0 :: rest)) (hk : d0.sym = some Rd.kwLet)
    (HR : ∀ W, PAt pb sb kb env W → RepS (fun k => ¬ PM pb sb k) W (.slice (some ⟨g, o, none⟩) (rest.length + 1) cap) (d0 :: rest) → Calls Tryz.prog 53 #[.pointer (some ⟨pb, 0, none⟩), lsV p g o (rest.length + 1) cap] W (RuleR pb sb kb env W x)) :
    Calls Tryz.prog 63 #[.pointer (some ⟨pb, 0, none⟩), lsV p g o (rest.length + 1) cap] w (RuleR pb sb kb env w x) := by
  obtain ⟨q, rfl⟩ := sym_mk hk
  have hcap := hs.len.2
  simp only [List.length_cons] at hcap
  have hlp := hp.lt
  have hp2 := hp.kept ((Below.refl _ w).alloc (Nat.le_refl _) (.cells #[.int .i64 p, .slice (some ⟨g, o, none⟩) (rest.length + 1) cap, .iface 146 (.agg #[])] 62))
  have hs2 := hs.mono (ok' := fun k => ¬ PM pb sb k) (w' := w.alloc (.cells #[.int .i64 p, .slice (some ⟨g, o, none⟩) (rest.length + 1) cap, .iface 146 (.agg #[])] 62)) (fun k hk h => ⟨h, Below.heap_alloc _ _ _ hk⟩)
  have hok : ¬ PM pb sb g := by
    obtain ⟨g', o', cap', pp, po0, pn0, pc0, ti, xv, heq, hok, _⟩ := hs2.cells 0 (by simp)
    simp only [Value.slice.injEq, Option.some.injEq, Addr.mk.injEq, and_true] at heq
    obtain ⟨⟨rfl, rfl⟩, _, rfl⟩ := heq
    exact hok
  obtain ⟨po, pc, e0, e1, e2⟩ := hs2.symAt 0 (by simp) (p := q) (m := Rd.kwLet) rfl
  simp only [Nat.mul_zero, Nat.add_zero, Rd.kwLet] at e0 e1 e2
  have HI : Hid (∀ W, Calls Tryz.prog 60 #[.agg #[.int .i64 p, .slice (some ⟨g, o, none⟩) (rest.length + 1) cap, .iface 146 (.agg #[])]] W fun e w' => e = .returned (.bool true) ∧ Below W.heap.size W w') := fun W => isList_any p _ (rest.length + 1) cap .empty W
  have hS := fun W => symbol_leaf q po pc (.sym Rd.kwLet) W
  simp only [aV, Rd.A.symbol, Option.getD_some, Option.isSome_some, Rd.kwLet] at hS
  have HS := (show Hid _ from hS)
  have HRH := (show Hid _ from HR)
  have hne := nef_func 53
  have hnz : (((rest.length : Int) + 1) == 0) = false := by simp; omega
  clear hS HR hs hk
  unfold lsV
  go_enter Tryz.func63, Tryz.ntmps63
  go_wp2_with (first | (go_at_call 60; refine (HI.out _).mono ?_; rintro e w1 ⟨rfl, hb1⟩; have hsz1 : w.heap.size < w1.heap.size := (by have := hb1.size; simp at this; omega); obtain ⟨q0, q1, q2, _, _, _⟩ := cells3 (Below.at hb1 (at_new w _)); have y0 := (Kept.of_below hb1 (PM pb sb)).cell hok e0; have y1 := (Kept.of_below hb1 (PM pb sb)).cell hok e1; have y2 := (Kept.of_below hb1 (PM pb sb)).cell hok e2) | (go_at_call 61; refine (HS.out _).mono ?_; rintro e w2 ⟨rfl, hb2⟩; have hb12 := hb1.trans (hb2.mono hb1.size); have hp4 := hp2.kept hb12; have hs4 := hs2.mono (ok' := fun k => ¬ PM pb sb k) (fun k hk h => ⟨h, hb12.block k hk⟩); obtain ⟨r0, r1, r2, _, _, _⟩ := cells3 (Below.at hb12 (at_new w _)); obtain ⟨c2, hlk⟩ := form_facts hp4 Rd.kwLet; have hlk : (Instr.lookup 92 (.map (some kb)) (.string ⟨List.toArray Rd.kwLet⟩) false).run Tryz.prog w2 = .ok (.func (.func 53) #[] #[]) w2 := hlk; simp only [Rd.kwLet] at hlk) | (go_at_call 53; refine (HRH.out _ hp4 hs4).mono ?_; rintro e w3 ⟨fv, rfl, hrf, hp5, hk5⟩))
  have hb02 : Below w.heap.size w w2 := ((Below.refl _ w).alloc (Nat.le_refl _) _).trans (hb12.mono (by simp))
  go_ret
  have hs0 := hb02.size
  exact ⟨_, rfl, hrf.mono fun k _ hge => ⟨Nat.le_trans hs0 hge, rfl⟩, hp5, (Kept.of_below hb02 _).trans hk5⟩

set_option maxHeartbeats 2000000 in
set_option maxRecDepth 10000 in
theorem form_set (pb sb kb : Nat) (env : List (List Rd.Sym)) (w : World) (p : Int) (g o cap : Nat) (d0 : Rd.D) (rest : List Rd.D) (x : Rd.F) (hp : PAt pb sb kb env w) (hl : rest.length ≤ 5000) (hs : RepS (fun k => ¬ PM pb sb k) w (.slice (some ⟨g, o, none⟩) (rest.length + 1) cap) (d0 :: rest)) (hk : d0.sym = some Rd.kwSet)
    (HR : ∀ W, PAt pb sb kb env W → RepS (fun k => ¬ PM pb sb k) W (.slice (some ⟨g, o, none⟩) (rest.length + 1) cap) (d0 :: rest) → Calls Tryz.prog 54 #[.pointer (some ⟨pb, 0, none⟩), lsV p g o (rest.length + 1) cap] W (RuleR pb sb kb env W x)) :
    Calls Tryz.prog 63 #[.pointer (some ⟨pb, 0, none⟩), lsV p g o (rest.length + 1) cap] w (RuleR pb sb kb env w x) := by
  obtain ⟨q, rfl⟩ := sym_mk hk
  have hcap := hs.len.2
  simp only [List.length_cons] at hcap
  have hlp := hp.lt
  have hp2 := hp.kept ((Below.refl _ w).alloc (Nat.le_refl _) (.cells #[.int .i64 p, .slice (some ⟨g, o, none⟩) (rest.length + 1) cap, .iface 146 (.agg #[])] 62))
  have hs2 := hs.mono (ok' := fun k => ¬ PM pb sb k) (w' := w.alloc (.cells #[.int .i64 p, .slice (some ⟨g, o, none⟩) (rest.length + 1) cap, .iface 146 (.agg #[])] 62)) (fun k hk h => ⟨h, Below.heap_alloc _ _ _ hk⟩)
  have hok : ¬ PM pb sb g := by
    obtain ⟨g', o', cap', pp, po0, pn0, pc0, ti, xv, heq, hok, _⟩ := hs2.cells 0 (by simp)
    simp only [Value.slice.injEq, Option.some.injEq, Addr.mk.injEq, and_true] at heq
    obtain ⟨⟨rfl, rfl⟩, _, rfl⟩ := heq
    exact hok
  obtain ⟨po, pc, e0, e1, e2⟩ := hs2.symAt 0 (by simp) (p := q) (m := Rd.kwSet) rfl
  simp only [Nat.mul_zero, Nat.add_zero, Rd.kwSet] at e0 e1 e2
  have HI : Hid (∀ W, Calls Tryz.prog 60 #[.agg #[.int .i64 p, .slice (some ⟨g, o, none⟩) (rest.length + 1) cap, .iface 146 (.agg #[])]] W fun e w' => e = .returned (.bool true) ∧ Below W.heap.size W w') := fun W => isList_any p _ (rest.length + 1) cap .empty W
  have hS := fun W => symbol_leaf q po pc (.sym Rd.kwSet) W
  simp only [aV, Rd.A.symbol, Option.getD_some, Option.isSome_some, Rd.kwSet] at hS
  have HS := (show Hid _ from hS)
  have HRH := (show Hid _ from HR)
  have hne := nef_func 54
  have hnz : (((rest.length : Int) + 1) == 0) = false := by simp; omega
  clear hS HR hs hk
  unfold lsV
  go_enter Tryz.func63, Tryz.ntmps63
  go_wp2_with (first | (go_at_call 60; refine (HI.out _).mono ?_; rintro e w1 ⟨rfl, hb1⟩; have hsz1 : w.heap.size < w1.heap.size := (by have := hb1.size; simp at this; omega); obtain ⟨q0, q1, q2, _, _, _⟩ := cells3 (Below.at hb1 (at_new w _)); have y0 := (Kept.of_below hb1 (PM pb sb)).cell hok e0; have y1 := (Kept.of_below hb1 (PM pb sb)).cell hok e1; have y2 := (Kept.of_below hb1 (PM pb sb)).cell hok e2) | (go_at_call 61; refine (HS.out _).mono ?_; rintro e w2 ⟨rfl, hb2⟩; have hb12 := hb1.trans (hb2.mono hb1.size); have hp4 := hp2.kept hb12; have hs4 := hs2.mono (ok' := fun k => ¬ PM pb sb k) (fun k hk h => ⟨h, hb12.block k hk⟩); obtain ⟨r0, r1, r2, _, _, _⟩ := cells3 (Below.at hb12 (at_new w _)); obtain ⟨c2, hlk⟩ := form_facts hp4 Rd.kwSet; have hlk : (Instr.lookup 92 (.map (some kb)) (.string ⟨List.toArray Rd.kwSet⟩) false).run Tryz.prog w2 = .ok (.func (.func 54) #[] #[]) w2 := hlk; simp only [Rd.kwSet] at hlk) | (go_at_call 54; refine (HRH.out _ hp4 hs4).mono ?_; rintro e w3 ⟨fv, rfl, hrf, hp5, hk5⟩))
  have hb02 : Below w.heap.size w w2 := ((Below.refl _ w).alloc (Nat.le_refl _) _).trans (hb12.mono (by simp))
  go_ret
  have hs0 := hb02.size
  exact ⟨_, rfl, hrf.mono fun k _ hge => ⟨Nat.le_trans hs0 hge, rfl⟩, hp5, (Kept.of_below hb02 _).trans hk5⟩

set_option maxHeartbeats 2000000 in
set_option maxRecDepth 10000 in
theorem form_or (pb sb kb : Nat) (env : List (List Rd.Sym)) (w : World) (p : Int) (g o cap : Nat) (d0 : Rd.D) (rest : List Rd.D) (x : Rd.F) (hp : PAt pb sb kb env w) (hl : rest.length ≤ 5000) (hs : RepS (fun k => ¬ PM pb sb k) w (.slice (some ⟨g, o, none⟩) (rest.length + 1) cap) (d0 :: rest)) (hk : d0.sym = some Rd.kwOr)
    (HR : ∀ W, PAt pb sb kb env W → RepS (fun k => ¬ PM pb sb k) W (.slice (some ⟨g, o, none⟩) (rest.length + 1) cap) (d0 :: rest) → Calls Tryz.prog 56 #[.pointer (some ⟨pb, 0, none⟩), lsV p g o (rest.length + 1) cap] W (RuleR pb sb kb env W x)) :
    Calls Tryz.prog 63 #[.pointer (some ⟨pb, 0, none⟩), lsV p g o (rest.length + 1) cap] w (RuleR pb sb kb env w x) := by
  obtain ⟨q, rfl⟩ := sym_mk hk
  have hcap := hs.len.2
  simp only [List.length_cons] at hcap
  have hlp := hp.lt
  have hp2 := hp.kept ((Below.refl _ w).alloc (Nat.le_refl _) (.cells #[.int .i64 p, .slice (some ⟨g, o, none⟩) (rest.length + 1) cap, .iface 146 (.agg #[])] 62))
  have hs2 := hs.mono (ok' := fun k => ¬ PM pb sb k) (w' := w.alloc (.cells #[.int .i64 p, .slice (some ⟨g, o, none⟩) (rest.length + 1) cap, .iface 146 (.agg #[])] 62)) (fun k hk h => ⟨h, Below.heap_alloc _ _ _ hk⟩)
  have hok : ¬ PM pb sb g := by
    obtain ⟨g', o', cap', pp, po0, pn0, pc0, ti, xv, heq, hok, _⟩ := hs2.cells 0 (by simp)
    simp only [Value.slice.injEq, Option.some.injEq, Addr.mk.injEq, and_true] at heq
    obtain ⟨⟨rfl, rfl⟩, _, rfl⟩ := heq
    exact hok
  obtain ⟨po, pc, e0, e1, e2⟩ := hs2.symAt 0 (by simp) (p := q) (m := Rd.kwOr) rfl
  simp only [Nat.mul_zero, Nat.add_zero, Rd.kwOr] at e0 e1 e2
  have HI : Hid (∀ W, Calls Tryz.prog 60 #[.agg #[.int .i64 p, .slice (some ⟨g, o, none⟩) (rest.length + 1) cap, .iface 146 (.agg #[])]] W fun e w' => e = .returned (.bool true) ∧ Below W.heap.size W w') := fun W => isList_any p _ (rest.length + 1) cap .empty W
  have hS := fun W => symbol_leaf q po pc (.sym Rd.kwOr) W
  simp only [aV, Rd.A.symbol, Option.getD_some, Option.isSome_some, Rd.kwOr] at hS
  have HS := (show Hid _ from hS)
  have HRH := (show Hid _ from HR)
  have hne := nef_func 56
  have hnz : (((rest.length : Int) + 1) == 0) = false := by simp; omega
  clear hS HR hs hk
  unfold lsV
  go_enter Tryz.func63, Tryz.ntmps63
  go_wp2_with (first | (go_at_call 60; refine (HI.out _).mono ?_; rintro e w1 ⟨rfl, hb1⟩; have hsz1 : w.heap.size < w1.heap.size := (by have := hb1.size; simp at this; omega); obtain ⟨q0, q1, q2, _, _, _⟩ := cells3 (Below.at hb1 (at_new w _)); have y0 := (Kept.of_below hb1 (PM pb sb)).cell hok e0; have y1 := (Kept.of_below hb1 (PM pb sb)).cell hok e1; have y2 := (Kept.of_below hb1 (PM pb sb)).cell hok e2) | (go_at_call 61; refine (HS.out _).mono ?_; rintro e w2 ⟨rfl, hb2⟩; have hb12 := hb1.trans (hb2.mono hb1.size); have hp4 := hp2.kept hb12; have hs4 := hs2.mono (ok' := fun k => ¬ PM pb sb k) (fun k hk h => ⟨h, hb12.block k hk⟩); obtain ⟨r0, r1, r2, _, _, _⟩ := cells3 (Below.at hb12 (at_new w _)); obtain ⟨c2, hlk⟩ := form_facts hp4 Rd.kwOr; have hlk : (Instr.lookup 92 (.map (some kb)) (.string ⟨List.toArray Rd.kwOr⟩) false).run Tryz.prog w2 = .ok (.func (.func 56) #[] #[]) w2 := hlk; simp only [Rd.kwOr] at hlk) | (go_at_call 56; refine (HRH.out _ hp4 hs4).mono ?_; rintro e w3 ⟨fv, rfl, hrf, hp5, hk5⟩))
  have hb02 : Below w.heap.size w w2 := ((Below.refl _ w).alloc (Nat.le_refl _) _).trans (hb12.mono (by simp))
  go_ret
  have hs0 := hb02.size
  exact ⟨_, rfl, hrf.mono fun k _ hge => ⟨Nat.le_trans hs0 hge, rfl⟩, hp5, (Kept.of_below hb02 _).trans hk5⟩

set_option maxHeartbeats 2000000 in
set_option maxRecDepth 10000 in
theorem form_reset (pb sb kb : Nat) (env : List (List Rd.Sym)) (w : World) (p : Int) (g o cap : Nat) (d0 : Rd.D) (rest : List Rd.D) (x : Rd.F) (hp : PAt pb sb kb env w) (hl : rest.length ≤ 5000) (hs : RepS (fun k => ¬ PM pb sb k) w (.slice (some ⟨g, o, none⟩) (rest.length + 1) cap) (d0 :: rest)) (hk : d0.sym = some Rd.kwReset)
    (HR : ∀ W, PAt pb sb kb env W → RepS (fun k => ¬ PM pb sb k) W (.slice (some ⟨g, o, none⟩) (rest.length + 1) cap) (d0 :: rest) → Calls Tryz.prog 57 #[.pointer (some ⟨pb, 0, none⟩), lsV p g o (rest.length + 1) cap] W (RuleR pb sb kb env W x)) :
    Calls Tryz.prog 63 #[.pointer (some ⟨pb, 0, none⟩), lsV p g o (rest.length + 1) cap] w (RuleR pb sb kb env w x) := by
  obtain ⟨q, rfl⟩ := sym_mk hk
  have hcap := hs.len.2
  simp only [List.length_cons] at hcap
  have hlp := hp.lt
  have hp2 := hp.kept ((Below.refl _ w).alloc (Nat.le_refl _) (.cells #[.int .i64 p, .slice (some ⟨g, o, none⟩) (rest.length + 1) cap, .iface 146 (.agg #[])] 62))
  have hs2 := hs.mono (ok' := fun k => ¬ PM pb sb k) (w' := w.alloc (.cells #[.int .i64 p, .slice (some ⟨g, o, none⟩) (rest.length + 1) cap, .iface 146 (.agg #[])] 62)) (fun k hk h => ⟨h, Below.heap_alloc _ _ _ hk⟩)
  have hok : ¬ PM pb sb g := by
    obtain ⟨g', o', cap', pp, po0, pn0, pc0, ti, xv, heq, hok, _⟩ := hs2.cells 0 (by simp)
    simp only [Value.slice.injEq, Option.some.injEq, Addr.mk.injEq, and_true] at heq
    obtain ⟨⟨rfl, rfl⟩, _, rfl⟩ := heq
    exact hok
  obtain ⟨po, pc, e0, e1, e2⟩ := hs2.symAt 0 (by simp) (p := q) (m := Rd.kwReset) rfl
  simp only [Nat.mul_zero, Nat.add_zero, Rd.kwReset] at e0 e1 e2
  have HI : Hid (∀ W, Calls Tryz.prog 60 #[.agg #[.int .i64 p, .slice (some ⟨g, o, none⟩) (rest.length + 1) cap, .iface 146 (.agg #[])]] W fun e w' => e = .returned (.bool true) ∧ Below W.heap.size W w') := fun W => isList_any p _ (rest.length + 1) cap .empty W
  have hS := fun W => symbol_leaf q po pc (.sym Rd.kwReset) W
  simp only [aV, Rd.A.symbol, Option.getD_some, Option.isSome_some, Rd.kwReset] at hS
  have HS := (show Hid _ from hS)
  have HRH := (show Hid _ from HR)
  have hne := nef_func 57
  have hnz : (((rest.length : Int) + 1) == 0) = false := by simp; omega
  clear hS HR hs hk
  unfold lsV
  go_enter Tryz.func63, Tryz.ntmps63
  go_wp2_with (first | (go_at_call 60; refine (HI.out _).mono ?_; rintro e w1 ⟨rfl, hb1⟩; have hsz1 : w.heap.size < w1.heap.size := (by have := hb1.size; simp at this; omega); obtain ⟨q0, q1, q2, _, _, _⟩ := cells3 (Below.at hb1 (at_new w _)); have y0 := (Kept.of_below hb1 (PM pb sb)).cell hok e0; have y1 := (Kept.of_below hb1 (PM pb sb)).cell hok e1; have y2 := (Kept.of_below hb1 (PM pb sb)).cell hok e2) | (go_at_call 61; refine (HS.out _).mono ?_; rintro e w2 ⟨rfl, hb2⟩; have hb12 := hb1.trans (hb2.mono hb1.size); have hp4 := hp2.kept hb12; have hs4 := hs2.mono (ok' := fun k => ¬ PM pb sb k) (fun k hk h => ⟨h, hb12.block k hk⟩); obtain ⟨r0, r1, r2, _, _, _⟩ := cells3 (Below.at hb12 (at_new w _)); obtain ⟨c2, hlk⟩ := form_facts hp4 Rd.kwReset; have hlk : (Instr.lookup 92 (.map (some kb)) (.string ⟨List.toArray Rd.kwReset⟩) false).run Tryz.prog w2 = .ok (.func (.func 57) #[] #[]) w2 := hlk; simp only [Rd.kwReset] at hlk) | (go_at_call 57; refine (HRH.out _ hp4 hs4).mono ?_; rintro e w3 ⟨fv, rfl, hrf, hp5, hk5⟩))
  have hb02 : Below w.heap.size w w2 := ((Below.refl _ w).alloc (Nat.le_refl _) _).trans (hb12.mono (by simp))
  go_ret
  have hs0 := hb02.size
  exact ⟨_, rfl, hrf.mono fun k _ hge => ⟨Nat.le_trans hs0 hge, rfl⟩, hp5, (Kept.of_below hb02 _).trans hk5⟩

set_option maxHeartbeats 2000000 in
set_option maxRecDepth 10000 in
theorem form_shift (pb sb kb : Nat) (env : List (List Rd.Sym)) (w : World) (p : Int) (g o cap : Nat) (d0 : Rd.D) (rest : List Rd.D) (x : Rd.F) (hp : PAt pb sb kb env w) (hl : rest.length ≤ 5000) (hs : RepS (fun k => ¬ PM pb sb k) w (.slice (some ⟨g, o, none⟩) (rest.length + 1) cap) (d0 :: rest)) (hk : d0.sym = some Rd.kwShift)
    (HR : ∀ W, PAt pb sb kb env W → RepS (fun k => ¬ PM pb sb k) W (.slice (some ⟨g, o, none⟩) (rest.length + 1) cap) (d0 :: rest) → Calls Tryz.prog 58 #[.pointer (some ⟨pb, 0, none⟩), lsV p g o (rest.length + 1) cap] W (RuleR pb sb kb env W x)) :
    Calls Tryz.prog 63 #[.pointer (some ⟨pb, 0, none⟩), lsV p g o (rest.length + 1) cap] w (RuleR pb sb kb env w x) := by
  obtain ⟨q, rfl⟩ := sym_mk hk
  have hcap := hs.len.2
  simp only [List.length_cons] at hcap
  have hlp := hp.lt
  have hp2 := hp.kept ((Below.refl _ w).alloc (Nat.le_refl _) (.cells #[.int .i64 p, .slice (some ⟨g, o, none⟩) (rest.length + 1) cap, .iface 146 (.agg #[])] 62))
  have hs2 := hs.mono (ok' := fun k => ¬ PM pb sb k) (w' := w.alloc (.cells #[.int .i64 p, .slice (some ⟨g, o, none⟩) (rest.length + 1) cap, .iface 146 (.agg #[])] 62)) (fun k hk h => ⟨h, Below.heap_alloc _ _ _ hk⟩)
  have hok : ¬ PM pb sb g := by
    obtain ⟨g', o', cap', pp, po0, pn0, pc0, ti, xv, heq, hok, _⟩ := hs2.cells 0 (by simp)
    simp only [Value.slice.injEq, Option.some.injEq, Addr.mk.injEq, and_true] at heq
    obtain ⟨⟨rfl, rfl⟩, _, rfl⟩ := heq
    exact hok
  obtain ⟨po, pc, e0, e1, e2⟩ := hs2.symAt 0 (by simp) (p := q) (m := Rd.kwShift) rfl
  simp only [Nat.mul_zero, Nat.add_zero, Rd.kwShift] at e0 e1 e2
  have HI : Hid (∀ W, Calls Tryz.prog 60 #[.agg #[.int .i64 p, .slice (some ⟨g, o, none⟩) (rest.length + 1) cap, .iface 146 (.agg #[])]] W fun e w' => e = .returned (.bool true) ∧ Below W.heap.size W w') := fun W => isList_any p _ (rest.length + 1) cap .empty W
  have hS := fun W => symbol_leaf q po pc (.sym Rd.kwShift) W
  simp only [aV, Rd.A.symbol, Option.getD_some, Option.isSome_some, Rd.kwShift] at hS
  have HS := (show Hid _ from hS)
  have HRH := (show Hid _ from HR)
  have hne := nef_func 58
  have hnz : (((rest.length : Int) + 1) == 0) = false := by simp; omega
  clear hS HR hs hk
  unfold lsV
  go_enter Tryz.func63, Tryz.ntmps63
  go_wp2_with (first | (go_at_call 60; refine (HI.out _).mono ?_; rintro e w1 ⟨rfl, hb1⟩; have hsz1 : w.heap.size < w1.heap.size := (by have := hb1.size; simp at this; omega); obtain ⟨q0, q1, q2, _, _, _⟩ := cells3 (Below.at hb1 (at_new w _)); have y0 := (Kept.of_below hb1 (PM pb sb)).cell hok e0; have y1 := (Kept.of_below hb1 (PM pb sb)).cell hok e1; have y2 := (Kept.of_below hb1 (PM pb sb)).cell hok e2) | (go_at_call 61; refine (HS.out _).mono ?_; rintro e w2 ⟨rfl, hb2⟩; have hb12 := hb1.trans (hb2.mono hb1.size); have hp4 := hp2.kept hb12; have hs4 := hs2.mono (ok' := fun k => ¬ PM pb sb k) (fun k hk h => ⟨h, hb12.block k hk⟩); obtain ⟨r0, r1, r2, _, _, _⟩ := cells3 (Below.at hb12 (at_new w _)); obtain ⟨c2, hlk⟩ := form_facts hp4 Rd.kwShift; have hlk : (Instr.lookup 92 (.map (some kb)) (.string ⟨List.toArray Rd.kwShift⟩) false).run Tryz.prog w2 = .ok (.func (.func 58) #[] #[]) w2 := hlk; simp only [Rd.kwShift] at hlk) | (go_at_call 58; refine (HRH.out _ hp4 hs4).mono ?_; rintro e w3 ⟨fv, rfl, hrf, hp5, hk5⟩))
  have hb02 : Below w.heap.size w w2 := ((Below.refl _ w).alloc (Nat.le_refl _) _).trans (hb12.mono (by simp))
  go_ret
  have hs0 := hb02.size
  exact ⟨_, rfl, hrf.mono fun k _ hge => ⟨Nat.le_trans hs0 hge, rfl⟩, hp5, (Kept.of_below hb02 _).trans hk5⟩

end Go.Proofs.YtodeeegbajgafaaGreatDoor

namespace Go.Proofs.YtodeeegbajgafaaGreatDoor
open Go.RowKit

set_option maxHeartbeats 2000000 in
set_option maxRecDepth 10000 in
theorem form_call (f : Nat) (HF : FormsC f) (pb sb kb : Nat) (env : List (List Rd.Sym)) (w : World) (p : Int) (g o cap : Nat) (d0 : Rd.D) (rest : List Rd.D) (xs : List Rd.F) (hp : PAt pb sb kb env w) (hf : env.length + f ≤ 5000) (hs : RepS (fun k => ¬ PM pb sb k) w (.slice (some ⟨g, o, none⟩) (rest.length + 1) cap) (d0 :: rest))
    (hk : ∀ n, d0.sym = some n → Rd.keys.contains n = false) (hx : Rd.pForms f env (d0 :: rest) = some xs) :
    Calls Tryz.prog 63 #[.pointer (some ⟨pb, 0, none⟩), lsV p g o (rest.length + 1) cap] w (RuleR pb sb kb env w (.call xs)) := by
  obtain ⟨q, ps, en⟩ := d0
  have hshort := (Rd.pForms_short _ _ _ _ hx).1
  simp only [List.length_cons] at hshort
  have hcap := hs.len.2
  simp only [List.length_cons] at hcap
  have hlp := hp.lt
  have hp2 := hp.kept ((Below.refl _ w).alloc (Nat.le_refl _) (.cells #[.int .i64 p, .slice (some ⟨g, o, none⟩) (rest.length + 1) cap, .iface 146 (.agg #[])] 62))
  have hs2 := hs.mono (ok' := fun k => ¬ PM pb sb k) (w' := w.alloc (.cells #[.int .i64 p, .slice (some ⟨g, o, none⟩) (rest.length + 1) cap, .iface 146 (.agg #[])] 62)) (fun k hk h => ⟨h, Below.heap_alloc _ _ _ hk⟩)
  obtain ⟨po, pc, e0, e1, e2, hok, _⟩ := hs2.listAt 0 (by simp) (p := q) (ps := ps) (en := en) rfl
  simp only [Nat.mul_zero, Nat.add_zero] at e0 e1 e2
  have hS : ∃ (wd : Rd.Sym) (b : Bool), symIx wd ruleList 0 = none ∧ ∀ W, Calls Tryz.prog 61 #[.agg #[.int .i64 q, .slice po ps.length pc, aV en]] W fun e w' => e = .returned (.tuple #[.string ⟨wd.toArray⟩, .bool b]) ∧ Below W.heap.size W w' := by
    cases ps with
    | cons a ps => exact ⟨[], false, by kernel_rfl, fun W => symbol_list q po _ pc en W (by simp)⟩
    | nil =>
      cases en with
      | sym n => exact ⟨n, true, rules_none n (hk n rfl), fun W => symbol_leaf q po pc (.sym n) W⟩
      | num i => exact ⟨[], false, by kernel_rfl, fun W => symbol_leaf q po pc (.num i) W⟩
      | truth b => exact ⟨[], false, by kernel_rfl, fun W => symbol_leaf q po pc (.truth b) W⟩
      | empty => exact ⟨[], false, by kernel_rfl, fun W => symbol_leaf q po pc .empty W⟩
  obtain ⟨wd, wb, hwd, hS⟩ := hS
  obtain ⟨ti, xv, hav⟩ : ∃ t x, aV en = .iface t x := by cases en <;> exact ⟨_, _, rfl⟩
  rw [hav] at hS e2
  have HI : Hid (∀ W, Calls Tryz.prog 60 #[.agg #[.int .i64 p, .slice (some ⟨g, o, none⟩) (rest.length + 1) cap, .iface 146 (.agg #[])]] W fun e w' => e = .returned (.bool true) ∧ Below W.heap.size W w') := fun W => isList_any p _ (rest.length + 1) cap .empty W
  have HS := (show Hid _ from hS)
  have HX := (show Hid _ from hx)
  have HW := (show Hid _ from hwd)
  have hne := nef_nil
  have hnz : (((rest.length : Int) + 1) == 0) = false := by simp; omega
  clear hS hs hk hx hwd hav
  unfold lsV
  go_enter Tryz.func63, Tryz.ntmps63
  go_wp2_with (first | (go_at_call 60; refine (HI.out _).mono ?_; rintro e w1 ⟨rfl, hb1⟩; have hsz1 : w.heap.size < w1.heap.size := (by have := hb1.size; simp at this; omega); obtain ⟨q0, q1, q2, _, _, _⟩ := cells3 (Below.at hb1 (at_new w _)); have y0 := (Kept.of_below hb1 (PM pb sb)).cell hok e0; have y1 := (Kept.of_below hb1 (PM pb sb)).cell hok e1; have y2 := (Kept.of_below hb1 (PM pb sb)).cell hok e2) | (go_at_call 61; refine (HS.out _).mono ?_; rintro e w2 ⟨rfl, hb2⟩; have hb12 := hb1.trans (hb2.mono hb1.size); have hp4 := hp2.kept hb12; have hs4 := hs2.mono (ok' := fun k => ¬ PM pb sb k) (fun k hk h => ⟨h, hb12.block k hk⟩); obtain ⟨r0, r1, r2, _, _, _⟩ := cells3 (Below.at hb12 (at_new w _)); obtain ⟨c2, hlk⟩ := form_facts hp4 wd; rw [HW.out] at hlk; simp only [Option.map_none, Option.getD_none] at hlk) | (go_at_call 101; refine (HF pb sb kb env _ (.mk q ps en :: rest) xs _ hp4 hf hs4 HX.out (by simp)).mono ?_; rintro e w3 ⟨fv, rfl, hrf, hp5, hk5⟩; obtain ⟨fa, fc, rfl, _, _⟩ := RepFs.shape hrf))
  have hb02 : Below w.heap.size w w2 := ((Below.refl _ w).alloc (Nat.le_refl _) _).trans (hb12.mono (by simp))
  go_ret
  have hs0 := hb02.size
  exact ⟨_, rfl, .call _ _ (hrf.mono fun k _ hge => ⟨Nat.le_trans hs0 hge, rfl⟩), hp5, (Kept.of_below hb02 _).trans hk5⟩

set_option maxHeartbeats 2000000 in
set_option maxRecDepth 10000 in
theorem form_leaf (pb sb kb : Nat) (env : List (List Rd.Sym)) (w : World) (p : Nat) (ad : Option Addr) (c : Nat) (en : Rd.A) (x : Rd.F) (hp : PAt pb sb kb env w) (hf : env.length ≤ 5000) (f : Nat) (hx : Rd.pForm (f + 1) env (.mk p [] en) = some x) :
    Calls Tryz.prog 63 #[.pointer (some ⟨pb, 0, none⟩), .agg #[.int .i64 p, .slice ad 0 c, aV en]] w (RuleR pb sb kb env w x) := by
  obtain ⟨ti, xv, hav⟩ : ∃ t x, aV en = .iface t x := by cases en <;> exact ⟨_, _, rfl⟩
  have HA : Hid (∀ W, PAt pb sb kb env W → Calls Tryz.prog 109 #[.pointer (some ⟨pb, 0, none⟩), .agg #[.int .i64 p, .slice ad 0 c, .iface ti xv]] W fun e w' => (∃ fv, e = .returned fv ∧ RepF (fun k => w.heap.size ≤ k) w' fv x) ∧ Below W.heap.size W w') := by
    intro W hW
    rw [← hav]
    rw [Rd.pForm_leaf] at hx
    cases en with
    | num i =>
      simp only at hx
      cases hx
      refine (patom_const pb p ad 0 c (.num i) W (Or.inl ⟨i, rfl⟩)).mono ?_
      rintro e w' ⟨rfl, hb⟩
      exact ⟨⟨_, rfl, .const _⟩, hb⟩
    | truth b =>
      simp only at hx
      cases hx
      refine (patom_const pb p ad 0 c (.truth b) W (Or.inr ⟨b, rfl⟩)).mono ?_
      rintro e w' ⟨rfl, hb⟩
      exact ⟨⟨_, rfl, .const _⟩, hb⟩
    | sym n =>
      simp only at hx
      split at hx
      · cases hx
      · rename_i hk
        cases hx
        refine (patom_name pb sb kb env p ad c n W hW hf (by simpa using hk)).mono ?_
        rintro e w' ⟨rfl, hb⟩
        exact ⟨⟨_, rfl, .name _ _⟩, hb⟩
    | empty => simp at hx
  rw [hav]
  have hp2 := hp.kept ((Below.refl _ w).alloc (Nat.le_refl _) (.cells #[.int .i64 p, .slice ad 0 c, .iface ti xv] 62))
  clear hx hav
  go_enter Tryz.func63, Tryz.ntmps63
  go_wp2_with (go_at_call 109; refine (HA.out _ hp2).mono ?_; rintro e w1 ⟨⟨fv, rfl, hrf⟩, hb⟩)
  go_ret
  have hb01 : Below w.heap.size w w1 := ((Below.refl _ w).alloc (Nat.le_refl _) _).trans (hb.mono (by simp))
  exact ⟨_, rfl, hrf, hp.kept hb01, Kept.of_below hb01 _⟩

/-- What the rule of let does: the names and values of the bindings, then the body. -/
def LetC (f : Nat) : Prop := ∀ (pb sb kb : Nat) (env : List (List Rd.Sym)) (w : World) (p : Int) (g o cap : Nat) (d0 : Rd.D) (q : Nat) (bs rest ks vs : List Rd.D) (ns : List Rd.Sym) (ys xs : List Rd.F), PAt pb sb kb env w → env.length + 1 + f ≤ 5000 →
  RepS (fun k => ¬ PM pb sb k) w (.slice (some ⟨g, o, none⟩) (rest.length + 2) cap) (d0 :: .mk q bs .empty :: rest) → rest ≠ [] → Rd.binds bs = some (ks, vs) → Rd.names ks [] = some ns → Rd.pForms f env vs = some ys → Rd.pForms f (ns :: env) rest = some xs →
  Calls Tryz.prog 53 #[.pointer (some ⟨pb, 0, none⟩), lsV p g o (rest.length + 2) cap] w (RuleR pb sb kb env w (.let_ ys xs))

theorem map_some {α β : Type} {o : Option α} {g : α → β} {y : β} (h : o.map g = some y) : ∃ x, o = some x ∧ y = g x := by
  cases o with
  | none => cases h
  | some x => cases h; exact ⟨x, rfl, rfl⟩

theorem RepD.ls {ok : Nat → Prop} {w : World} {v : Value} {p : Nat} {d0 : Rd.D} {rest : List Rd.D} (h : RepD ok w v (.mk p (d0 :: rest) .empty)) : ∃ g o cap, v = lsV p g o (rest.length + 1) cap ∧ RepS ok w (.slice (some ⟨g, o, none⟩) (rest.length + 1) cap) (d0 :: rest) := by
  obtain ⟨sl, rfl, hs⟩ := h.inv
  rcases hs with ⟨_, h'⟩ | ⟨g, o, cap, c, T, va, vb, vc, rfl, h'⟩
  · cases h'
  · exact ⟨g, o, cap, rfl, Or.inr ⟨g, o, cap, c, T, va, vb, vc, rfl, h'⟩⟩

theorem form_step (f : Nat) (HF : FormsC f) (H1 : FormC f) (HL : LetC f) : FormC (f + 1) := by
  intro pb sb kb env w d x v hp hf hrep hx
  show Calls _ _ _ _ (RuleR pb sb kb env w x)
  obtain ⟨p, ds, en⟩ := d
  cases ds with
  | nil =>
    obtain ⟨sl, rfl, hs⟩ := hrep.inv
    obtain ⟨b, c, rfl⟩ : ∃ b c, sl = .slice b 0 c := by
      rcases hs with ⟨rfl, _⟩ | ⟨g, o, cap, c, T, va, vb, vc, rfl, _⟩ <;> exact ⟨_, _, rfl⟩
    exact form_leaf pb sb kb env w p b c en x hp (by omega) f hx
  | cons d0 rest =>
    rw [Rd.pForm_cons] at hx
    by_cases hen : en = .empty
    case neg => rw [if_pos hen] at hx; cases hx
    subst hen
    rw [if_neg (by simp)] at hx
    obtain ⟨g, o, cap, rfl, hs⟩ := hrep.ls
    cases hkw : d0.sym with
    | none =>
      rw [hkw] at hx
      obtain ⟨xs, hpf, rfl⟩ := map_some hx
      exact form_call f HF pb sb kb env w p g o cap d0 rest xs hp (by omega) hs (fun n h => by rw [hkw] at h; cases h) hpf
    | some kw =>
      rw [hkw] at hx
      simp only at hx
      by_cases k1 : kw = Rd.kwQuote
      · subst k1
        rw [if_pos rfl] at hx
        split at hx
        · cases hx
          exact form_quote pb sb kb env w p g o cap d0 _ _ hp (by simp) hs hkw fun W hW hsW => quote_any pb sb kb env W p g o cap d0 _ _ hW hsW
        · cases hx
      rw [if_neg k1] at hx
      by_cases k2 : kw = Rd.kwIf
      · subst k2
        rw [if_pos rfl] at hx
        split at hx
        · rename_i d1 d2 d3
          split at hx
          · rename_i t a e' hpf
            cases hx
            exact form_if pb sb kb env w p g o cap d0 _ _ hp (by simp) hs hkw fun W hW hsW => choice_any f HF pb sb kb env W p g o cap d0 _ _ _ _ _ _ hW (by omega) hsW hpf
          · cases hx
        · cases hx
      rw [if_neg k2] at hx
      by_cases k3 : kw = Rd.kwLambda
      · subst k3
        rw [if_pos rfl] at hx
        split at hx
        · rename_i q ps b bs
          split at hx
          · rename_i ns hns
            obtain ⟨xs, hpf, rfl⟩ := map_some hx
            exact form_lambda pb sb kb env w p g o cap d0 _ _ hp (by have := (Rd.pForms_short _ _ _ _ hpf).1; simp at this ⊢; omega) hs hkw fun W hW hsW => lambda_any f HF pb sb kb env W p g o cap d0 _ ps q ns xs hW (by omega) hsW (by have h1 := Rd.names_bound _ _ _ (by simp) hns; have h2 := Rd.names_length _ _ _ hns; simp at h2; omega) (by simp) hns hpf
          · cases hx
        · cases hx
      rw [if_neg k3] at hx
      by_cases k4 : kw = Rd.kwBegin
      · subst k4
        rw [if_pos rfl] at hx
        split at hx
        · obtain ⟨xs, hpf, rfl⟩ := map_some hx
          exact form_begin pb sb kb env w p g o cap d0 _ _ hp (by have := (Rd.pForms_short _ _ _ _ hpf).1; omega) hs hkw fun W hW hsW => begin_any f HF pb sb kb env W p g o cap d0 _ xs hW (by omega) hsW (by simp) hpf
        · cases hx
      rw [if_neg k4] at hx
      by_cases k5 : kw = Rd.kwLet
      · subst k5
        rw [if_pos rfl] at hx
        split at hx
        · rename_i q bs b bd
          split at hx
          · rename_i ks vs hb
            split at hx
            · rename_i ns hns
              split at hx
              · rename_i ys hys
                obtain ⟨xs, hpf, rfl⟩ := map_some hx
                exact form_let pb sb kb env w p g o cap d0 _ _ hp (by have := (Rd.pForms_short _ _ _ _ hpf).1; simp at this ⊢; omega) hs hkw fun W hW hsW => HL pb sb kb env W p g o cap d0 q bs _ ks vs ns ys xs hW (by omega) hsW (by simp) hb hns hys hpf
              · cases hx
            · cases hx
          · cases hx
        · cases hx
      rw [if_neg k5] at hx
      by_cases k6 : kw = Rd.kwSet
      · subst k6
        rw [if_pos rfl] at hx
        split at hx
        · rename_i nm v'
          split at hx
          · rename_i n hn
            obtain ⟨y, hpf, rfl⟩ := map_some hx
            exact form_set pb sb kb env w p g o cap d0 _ _ hp (by simp) hs hkw fun W hW hsW => set_any f H1 pb sb kb env W p g o cap d0 nm v' n y hW (by omega) hsW hn hpf
          · cases hx
        · cases hx
      rw [if_neg k6] at hx
      by_cases k7 : kw = Rd.kwAnd
      · rw [if_pos k7] at hx; cases hx
      rw [if_neg k7] at hx
      by_cases k8 : kw = Rd.kwOr
      · subst k8
        rw [if_pos rfl] at hx
        split at hx
        · obtain ⟨xs, hpf, rfl⟩ := map_some hx
          exact form_or pb sb kb env w p g o cap d0 _ _ hp (by have := (Rd.pForms_short _ _ _ _ hpf).1; omega) hs hkw fun W hW hsW => or_any f HF pb sb kb env W p g o cap d0 _ xs hW (by omega) hsW (by simp) hpf
        · cases hx
      rw [if_neg k8] at hx
      by_cases k9 : kw = Rd.kwReset
      · subst k9
        rw [if_pos rfl] at hx
        split at hx
        · obtain ⟨xs, hpf, rfl⟩ := map_some hx
          exact form_reset pb sb kb env w p g o cap d0 _ _ hp (by have := (Rd.pForms_short _ _ _ _ hpf).1; omega) hs hkw fun W hW hsW => reset_any f HF pb sb kb env W p g o cap d0 _ xs hW (by omega) hsW (by simp) hpf
        · cases hx
      rw [if_neg k9] at hx
      by_cases k10 : kw = Rd.kwShift
      · subst k10
        rw [if_pos rfl] at hx
        split at hx
        · rename_i nm b bs
          split at hx
          · rename_i n hn
            obtain ⟨xs, hpf, rfl⟩ := map_some hx
            exact form_shift pb sb kb env w p g o cap d0 _ _ hp (by have := (Rd.pForms_short _ _ _ _ hpf).1; simp at this ⊢; omega) hs hkw fun W hW hsW => shift_any f HF pb sb kb env W p g o cap d0 nm _ n xs hW (by omega) hsW (by simp) hn hpf
          · cases hx
        · cases hx
      rw [if_neg k10] at hx
      by_cases k11 : kw = Rd.kwDefine
      · rw [if_pos k11] at hx; cases hx
      rw [if_neg k11] at hx
      obtain ⟨xs, hpf, rfl⟩ := map_some hx
      refine form_call f HF pb sb kb env w p g o cap d0 rest xs hp (by omega) hs (fun n h => ?_) hpf
      rw [hkw] at h
      cases h
      simp [Rd.keys, k1, k2, k3, k4, k5, k6, k7, k8, k9, k10, k11]
end Go.Proofs.YtodeeegbajgafaaGreatDoor

namespace Go.Proofs.YtodeeegbajgafaaGreatDoor
open Go.RowKit

theorem all_forms (HL : ∀ f, FormsC f → FormC f → LetC f) : ∀ f, FormC f := by
  intro f
  induction f using Nat.strongRecOn with
  | _ f ih =>
    cases f with
    | zero =>
      intro pb sb kb env w d x v hp hf hrep hx
      rw [Rd.pForm.eq_def] at hx
      cases hx
    | succ f =>
      have h1 : FormsC f := forms_any f fun g hg => ih g (by omega)
      have h2 := ih f (by omega)
      exact form_step f h1 h2 (HL f h1 h2)

set_option maxHeartbeats 2000000 in
set_option maxRecDepth 10000 in
/-- A list that begins with 'define'. -/
theorem top_define (pb sb kb : Nat) (w : World) (p : Int) (g o cap : Nat) (d0 : Rd.D) (rest : List Rd.D) (x : Rd.F) (hp : PAt pb sb kb [] w) (hs : RepS (fun k => ¬ PM pb sb k) w (.slice (some ⟨g, o, none⟩) (rest.length + 1) cap) (d0 :: rest)) (hk : d0.sym = some Rd.kwDefine)
    (HR : ∀ W, PAt pb sb kb [] W → RepS (fun k => ¬ PM pb sb k) W (.slice (some ⟨g, o, none⟩) (rest.length + 1) cap) (d0 :: rest) → Calls Tryz.prog 62 #[.pointer (some ⟨pb, 0, none⟩), lsV p g o (rest.length + 1) cap] W (RuleR pb sb kb [] W x)) :
    Calls Tryz.prog 36 #[.pointer (some ⟨pb, 0, none⟩), lsV p g o (rest.length + 1) cap] w (RuleR pb sb kb [] w x) := by
  obtain ⟨q, rfl⟩ := sym_mk hk
  have hcap := hs.len.2
  simp only [List.length_cons] at hcap
  have hlp := hp.lt
  have hp2 := hp.kept ((Below.refl _ w).alloc (Nat.le_refl _) (.cells #[.int .i64 p, .slice (some ⟨g, o, none⟩) (rest.length + 1) cap, .iface 146 (.agg #[])] 62))
  have hs2 := hs.mono (ok' := fun k => ¬ PM pb sb k) (w' := w.alloc (.cells #[.int .i64 p, .slice (some ⟨g, o, none⟩) (rest.length + 1) cap, .iface 146 (.agg #[])] 62)) (fun k hk h => ⟨h, Below.heap_alloc _ _ _ hk⟩)
  have hok : ¬ PM pb sb g := by
    obtain ⟨g', o', cap', pp, po0, pn0, pc0, ti, xv, heq, hok, _⟩ := hs2.cells 0 (by simp)
    simp only [Value.slice.injEq, Option.some.injEq, Addr.mk.injEq, and_true] at heq
    obtain ⟨⟨rfl, rfl⟩, _, rfl⟩ := heq
    exact hok
  obtain ⟨po, pc, e0, e1, e2⟩ := hs2.symAt 0 (by simp) (p := q) (m := Rd.kwDefine) rfl
  simp only [Nat.mul_zero, Nat.add_zero, Rd.kwDefine] at e0 e1 e2
  have HI : Hid (∀ W, Calls Tryz.prog 60 #[.agg #[.int .i64 p, .slice (some ⟨g, o, none⟩) (rest.length + 1) cap, .iface 146 (.agg #[])]] W fun e w' => e = .returned (.bool true) ∧ Below W.heap.size W w') := fun W => isList_any p _ (rest.length + 1) cap .empty W
  have hS := fun W => symbol_leaf q po pc (.sym Rd.kwDefine) W
  simp only [aV, Rd.A.symbol, Option.getD_some, Option.isSome_some, Rd.kwDefine] at hS
  have HS := (show Hid _ from hS)
  have HRH := (show Hid _ from HR)
  clear hS HR hs hk
  unfold lsV
  go_enter Tryz.func36, Tryz.ntmps36
  go_wp2_with (first | (go_at_call 60; refine (HI.out _).mono ?_; rintro e w1 ⟨rfl, hb1⟩; have hsz1 : w.heap.size < w1.heap.size := (by have := hb1.size; simp at this; omega); obtain ⟨q0, q1, q2, _, _, _⟩ := cells3 (Below.at hb1 (at_new w _)); have y0 := (Kept.of_below hb1 (PM pb sb)).cell hok e0; have y1 := (Kept.of_below hb1 (PM pb sb)).cell hok e1; have y2 := (Kept.of_below hb1 (PM pb sb)).cell hok e2) | (go_at_call 61; refine (HS.out _).mono ?_; rintro e w2 ⟨rfl, hb2⟩; have hb12 := hb1.trans (hb2.mono hb1.size); have hp4 := hp2.kept hb12; have hs4 := hs2.mono (ok' := fun k => ¬ PM pb sb k) (fun k hk h => ⟨h, hb12.block k hk⟩); obtain ⟨r0, r1, r2, _, _, _⟩ := cells3 (Below.at hb12 (at_new w _))) | (go_at_call 62; refine (HRH.out _ hp4 hs4).mono ?_; rintro e w3 ⟨fv, rfl, hrf, hp5, hk5⟩))
  have hb02 : Below w.heap.size w w2 := ((Below.refl _ w).alloc (Nat.le_refl _) _).trans (hb12.mono (by simp))
  go_ret
  have hs0 := hb02.size
  exact ⟨_, rfl, hrf.mono fun k _ hge => ⟨Nat.le_trans hs0 hge, rfl⟩, hp5, (Kept.of_below hb02 _).trans hk5⟩

set_option maxHeartbeats 2000000 in
set_option maxRecDepth 10000 in
/-- A list that begins otherwise. -/
theorem top_list (pb sb kb : Nat) (w : World) (p : Int) (g o cap : Nat) (d0 : Rd.D) (rest : List Rd.D) (x : Rd.F) (hp : PAt pb sb kb [] w) (hs : RepS (fun k => ¬ PM pb sb k) w (.slice (some ⟨g, o, none⟩) (rest.length + 1) cap) (d0 :: rest)) (hk : d0.sym ≠ some Rd.kwDefine)
    (HR : ∀ W, PAt pb sb kb [] W → RepS (fun k => ¬ PM pb sb k) W (.slice (some ⟨g, o, none⟩) (rest.length + 1) cap) (d0 :: rest) → Calls Tryz.prog 63 #[.pointer (some ⟨pb, 0, none⟩), lsV p g o (rest.length + 1) cap] W (RuleR pb sb kb [] W x)) :
    Calls Tryz.prog 36 #[.pointer (some ⟨pb, 0, none⟩), lsV p g o (rest.length + 1) cap] w (RuleR pb sb kb [] w x) := by
  obtain ⟨q, ps, en⟩ := d0
  have hcap := hs.len.2
  simp only [List.length_cons] at hcap
  have hlp := hp.lt
  have hp2 := hp.kept ((Below.refl _ w).alloc (Nat.le_refl _) (.cells #[.int .i64 p, .slice (some ⟨g, o, none⟩) (rest.length + 1) cap, .iface 146 (.agg #[])] 62))
  have hs2 := hs.mono (ok' := fun k => ¬ PM pb sb k) (w' := w.alloc (.cells #[.int .i64 p, .slice (some ⟨g, o, none⟩) (rest.length + 1) cap, .iface 146 (.agg #[])] 62)) (fun k hk h => ⟨h, Below.heap_alloc _ _ _ hk⟩)
  obtain ⟨po, pc, e0, e1, e2, hok, _⟩ := hs2.listAt 0 (by simp) (p := q) (ps := ps) (en := en) rfl
  simp only [Nat.mul_zero, Nat.add_zero] at e0 e1 e2
  have hS : ∃ (wd : Rd.Sym) (b : Bool), wd ≠ Rd.kwDefine ∧ ∀ W, Calls Tryz.prog 61 #[.agg #[.int .i64 q, .slice po ps.length pc, aV en]] W fun e w' => e = .returned (.tuple #[.string ⟨wd.toArray⟩, .bool b]) ∧ Below W.heap.size W w' := by
    cases ps with
    | cons a ps => exact ⟨[], false, by simp [Rd.kwDefine], fun W => symbol_list q po _ pc en W (by simp)⟩
    | nil =>
      cases en with
      | sym n => exact ⟨n, true, fun e => hk (by rw [e]; rfl), fun W => symbol_leaf q po pc (.sym n) W⟩
      | num i => exact ⟨[], false, by simp [Rd.kwDefine], fun W => symbol_leaf q po pc (.num i) W⟩
      | truth b => exact ⟨[], false, by simp [Rd.kwDefine], fun W => symbol_leaf q po pc (.truth b) W⟩
      | empty => exact ⟨[], false, by simp [Rd.kwDefine], fun W => symbol_leaf q po pc .empty W⟩
  obtain ⟨wd, wb, hwd, hS⟩ := hS
  obtain ⟨ti, xv, hav⟩ : ∃ t x, aV en = .iface t x := by cases en <;> exact ⟨_, _, rfl⟩
  rw [hav] at hS e2
  have HI : Hid (∀ W, Calls Tryz.prog 60 #[.agg #[.int .i64 p, .slice (some ⟨g, o, none⟩) (rest.length + 1) cap, .iface 146 (.agg #[])]] W fun e w' => e = .returned (.bool true) ∧ Below W.heap.size W w') := fun W => isList_any p _ (rest.length + 1) cap .empty W
  have HS := (show Hid _ from hS)
  have HRH := (show Hid _ from HR)
  have t1 : ((⟨wd.toArray⟩ : ByteArray).toList == [100, 101, 102, 105, 110, 101]) = false := by rw [bytes_toList]; simpa [Rd.kwDefine] using hwd
  have t2 : ¬ (⟨wd.toArray⟩ : ByteArray).toList = [100, 101, 102, 105, 110, 101] := by rw [bytes_toList]; exact hwd
  clear hS HR hs hk hwd hav
  unfold lsV
  generalize hWD : (⟨wd.toArray⟩ : ByteArray) = WD at *
  go_enter Tryz.func36, Tryz.ntmps36
  go_wp2_with (first | (go_at_call 60; refine (HI.out _).mono ?_; rintro e w1 ⟨rfl, hb1⟩; have hsz1 : w.heap.size < w1.heap.size := (by have := hb1.size; simp at this; omega); obtain ⟨q0, q1, q2, _, _, _⟩ := cells3 (Below.at hb1 (at_new w _)); have y0 := (Kept.of_below hb1 (PM pb sb)).cell hok e0; have y1 := (Kept.of_below hb1 (PM pb sb)).cell hok e1; have y2 := (Kept.of_below hb1 (PM pb sb)).cell hok e2) | (go_at_call 61; refine (HS.out _).mono ?_; rintro e w2 ⟨rfl, hb2⟩; have hb12 := hb1.trans (hb2.mono hb1.size); have hp4 := hp2.kept hb12; have hs4 := hs2.mono (ok' := fun k => ¬ PM pb sb k) (fun k hk h => ⟨h, hb12.block k hk⟩); obtain ⟨r0, r1, r2, _, _, _⟩ := cells3 (Below.at hb12 (at_new w _))) | (go_at_call 63; refine (HRH.out _ hp4 hs4).mono ?_; rintro e w3 ⟨fv, rfl, hrf, hp5, hk5⟩))
  have hb02 : Below w.heap.size w w2 := ((Below.refl _ w).alloc (Nat.le_refl _) _).trans (hb12.mono (by simp))
  go_ret
  have hs0 := hb02.size
  exact ⟨_, rfl, hrf.mono fun k _ hge => ⟨Nat.le_trans hs0 hge, rfl⟩, hp5, (Kept.of_below hb02 _).trans hk5⟩

set_option maxHeartbeats 2000000 in
set_option maxRecDepth 10000 in
/-- A word. -/
theorem top_leaf (pb sb kb : Nat) (w : World) (p : Int) (ad : Option Addr) (c : Nat) (en : Rd.A) (x : Rd.F) (hp : PAt pb sb kb [] w)
    (HR : ∀ W, PAt pb sb kb [] W → Calls Tryz.prog 63 #[.pointer (some ⟨pb, 0, none⟩), .agg #[.int .i64 p, .slice ad 0 c, aV en]] W (RuleR pb sb kb [] W x)) :
    Calls Tryz.prog 36 #[.pointer (some ⟨pb, 0, none⟩), .agg #[.int .i64 p, .slice ad 0 c, aV en]] w (RuleR pb sb kb [] w x) := by
  obtain ⟨ti, xv, hav⟩ : ∃ t x, aV en = .iface t x := by cases en <;> exact ⟨_, _, rfl⟩
  rw [hav] at HR ⊢
  have HRH := (show Hid _ from HR)
  have hp2 := hp.kept ((Below.refl _ w).alloc (Nat.le_refl _) (.cells #[.int .i64 p, .slice ad 0 c, .iface ti xv] 62))
  clear HR hav
  go_enter Tryz.func36, Tryz.ntmps36
  go_wp2_with (go_at_call 63; refine (HRH.out _ hp2).mono ?_; rintro e w3 ⟨fv, rfl, hrf, hp5, hk5⟩)
  go_ret
  exact ⟨_, rfl, fresh_of hrf, hp5, ((Kept.refl _ w).alloc _).trans hk5⟩

theorem top_any (HL : ∀ f, FormsC f → FormC f → LetC f) (f : Nat) (pb sb kb : Nat) (w : World) (d : Rd.D) (x : Rd.F) (v : Value) (hp : PAt pb sb kb [] w) (hf : f + 1 ≤ 5000) (hrep : RepD (fun k => ¬ PM pb sb k) w v d) (hx : Rd.pTop f d = some x) :
    Calls Tryz.prog 36 #[.pointer (some ⟨pb, 0, none⟩), v] w (RuleR pb sb kb [] w x) := by
  have H1 : ∀ g, FormC g := all_forms HL
  have H2 : ∀ g, FormsC g := fun g => forms_any g fun h _ => H1 h
  obtain ⟨p, ds, en⟩ := d
  cases ds with
  | nil =>
    obtain ⟨sl, rfl, hs⟩ := hrep.inv
    obtain ⟨b, c, rfl⟩ : ∃ b c, sl = .slice b 0 c := by
      rcases hs with ⟨rfl, _⟩ | ⟨g, o, cap, c, T, va, vb, vc, rfl, _⟩ <;> exact ⟨_, _, rfl⟩
    have hx' : Rd.pForm f [] (.mk p [] en) = some x := hx
    refine top_leaf pb sb kb w p b c en x hp fun W hW => ?_
    cases f with
    | zero => rw [Rd.pForm.eq_def] at hx'; cases hx'
    | succ f => exact form_leaf pb sb kb [] W p b c en x hW (by simp) f hx'
  | cons d0 rest =>
    by_cases hen : en = .empty
    case neg =>
      have hx' : Rd.pForm f [] (.mk p (d0 :: rest) en) = some x := by
        cases en <;> first | exact hx | exact absurd rfl hen
      cases f with
      | zero => rw [Rd.pForm.eq_def] at hx'; cases hx'
      | succ f => rw [Rd.pForm_cons, if_pos hen] at hx'; cases hx'
    subst hen
    obtain ⟨g, o, cap, rfl, hs⟩ := hrep.ls
    by_cases hk : d0.sym = some Rd.kwDefine
    · have hx' := hx
      unfold Rd.pTop at hx'
      simp only [hk, if_true] at hx'
      split at hx'
      · rename_i q nm p1 ps b bs
        split at hx'
        · rename_i n hn
          split at hx'
          · rename_i ns hns
            obtain ⟨xs, hpf, rfl⟩ := map_some hx'
            refine top_define pb sb kb w p g o cap d0 _ _ hp hs hk fun W hW hsW => ?_
            exact define_proc f (H2 f) pb sb kb [] W p g o cap d0 nm q (b :: bs) (p1 :: ps) n ns xs hW (by simp; omega) hsW (by have h1 := Rd.names_bound _ _ _ (by simp) hns; have h2 := Rd.names_length _ _ _ hns; simp at h2 ⊢; omega) (by simp) (by simp) hn hns hpf
          · cases hx'
        · cases hx'
      · rename_i q n v'
        split at hx'
        · cases hx'
        · rename_i hkey
          obtain ⟨y, hpf, rfl⟩ := map_some hx'
          refine top_define pb sb kb w p g o cap d0 _ _ hp hs hk fun W hW hsW => ?_
          exact define_name f (H1 f) pb sb kb [] W p g o cap d0 v' q n y hW (by simp; omega) hsW (by simpa using hkey) hpf
      · cases hx'
    · have hx' : Rd.pForm f [] (.mk p (d0 :: rest) .empty) = some x := by
        unfold Rd.pTop at hx
        simp only [hk, if_false] at hx
        exact hx
      refine top_list pb sb kb w p g o cap d0 rest x hp hs hk fun W hW hsW => ?_
      exact H1 f pb sb kb [] W (.mk p (d0 :: rest) .empty) x _ hW (by simp; omega) (hsW.datum p .empty) hx'
end Go.Proofs.YtodeeegbajgafaaGreatDoor

namespace Go.Proofs.YtodeeegbajgafaaGreatDoor
open Go.RowKit

/-- The forms of a source. -/
def Rd.pTops (f : Nat) : List Rd.D → Option (List Rd.F)
  | [] => some []
  | d :: ds => match Rd.pTop f d with
    | some x => (match Rd.pTops f ds with
      | some xs => some (x :: xs)
      | none => none)
    | none => none
theorem Rd.pTops_more {f : Nat} {d : Rd.D} {ds : List Rd.D} {r : List Rd.F} (h : Rd.pTops f (d :: ds) = some r) : ∃ x xs, Rd.pTop f d = some x ∧ Rd.pTops f ds = some xs ∧ r = x :: xs := by
  rw [Rd.pTops] at h
  split at h
  · rename_i x hx
    split at h
    · rename_i xs hxs
      cases h
      exact ⟨x, xs, hx, hxs, rfl⟩
    · cases h
  · cases h
theorem Rd.pTops_length (f : Nat) : ∀ (ds : List Rd.D) (xs : List Rd.F), Rd.pTops f ds = some xs → xs.length = ds.length
  | [], xs, h => by rw [Rd.pTops] at h; cases h; rfl
  | d :: ds, xs, h => by
    obtain ⟨x, ys, _, h2, rfl⟩ := Rd.pTops_more h
    simp [Rd.pTops_length f ds ys h2]

set_option maxHeartbeats 2000000 in
set_option maxRecDepth 10000 in
theorem parse_gen (w : World) (ds : List Rd.D) (xs : List Rd.F) (sl : Value) (hsl : RepS (fun _ => True) w sl ds) (hxl : xs.length = ds.length) (HT : Hid (∀ (j : Nat) (hj : j < ds.length) (hjx : j < xs.length) (pb sb : Nat) (W : World) (v : Value), PAt pb sb (sb + 1) [] W → RepD (fun k => ¬ PM pb sb k) W v ds[j] → Calls Tryz.prog 36 #[.pointer (some ⟨pb, 0, none⟩), v] W (RuleR pb sb (sb + 1) [] W xs[j]))) (hl : ds.length ≤ 4000) (hne : ds ≠ []) :
    Calls Tryz.prog 27 #[sl] w fun e w' => ∃ fv, e = .returned (.tuple #[fv, .int .i64 0, .int .i64 0]) ∧ RepFs (fun k => w.heap.size ≤ k) w' fv xs ∧ Below w.heap.size w w' := by
  have hpos : 0 < ds.length := List.length_pos_iff.2 hne
  obtain ⟨bb, cap, rfl, hcap⟩ : ∃ b cap, sl = .slice b ds.length cap ∧ ds.length ≤ cap := by
    rcases hsl with ⟨rfl, rfl⟩ | ⟨g, o, cap, c, T, va, vb, vc, rfl, _, _, hn, _⟩
    · exact ⟨none, 0, rfl, Nat.le_refl _⟩
    · exact ⟨_, cap, rfl, hn⟩
  have hmk := fun w => run_make_row' (P := Tryz.prog) 65 96 .nilIface 16 Tryz.underlying65 Tryz.info96 rfl .i64 .i64 ds.length (by omega) (by omega) w
  have hmm := @run_makeMap Tryz.prog
  go_enter Tryz.func27, Tryz.ntmps27
  go_wp2_with (go_at_call 35; refine (keywords_any _).mono ?_; rintro e w1 ⟨rfl, hru, hb1⟩)
  have hsl0 : SlotsAt w.heap.size [] w1 := ⟨#[], 0, Below.at hb1 (at_new w (.map #[] 0)), rfl⟩
  have hru' : SymsAt (w.heap.size + 1) ruleList w1 := by simpa using hru
  have hs1 : w.heap.size + 1 < w1.heap.size := by obtain ⟨es, c, h, _⟩ := hru'; exact lt_of_at h
  have hb01 : Below w.heap.size w w1 := ((Below.refl _ w).alloc (Nat.le_refl _) _).trans (hb1.mono (by simp))
  generalize hw2 : w1.alloc (.cells #[.map (some w.heap.size), .int .i64 0, .map (some (w.heap.size + 1)), .slice none 0 0] 95) = w2
  have hw2s : w2.heap.size = w1.heap.size + 1 := by rw [← hw2]; simp
  have hb02 : Below w.heap.size w w2 := by rw [← hw2]; exact hb01.alloc (by omega) _
  have hb12 : Below w1.heap.size w1 w2 := by rw [← hw2]; exact (Below.refl _ _).alloc (Nat.le_refl _) _
  have hp : PAt w1.heap.size w.heap.size (w.heap.size + 1) [] w2 := by
    refine ⟨⟨95, by rw [← hw2]; exact at_new _ _⟩, ?_, ?_, by omega⟩
    · obtain ⟨es, c, h2, h3⟩ := hsl0
      exact ⟨es, c, Below.at hb12 h2, h3⟩
    · obtain ⟨es, c, h2, h3⟩ := hru'
      exact ⟨es, c, Below.at hb12 h2, h3⟩
  have hsl2 : RepS (fun k => ¬ PM w1.heap.size w.heap.size k) w2 (.slice bb ds.length cap) ds := hsl.mono fun k hk _ => ⟨fun h => by rcases h with h | h <;> omega, hb02.block k hk⟩
  generalize hpb : w1.heap.size = pb at *
  generalize hsb : w.heap.size = sb at *
  have hF0 : Forming pb sb (sb + 1) [] w2 (pb + 1) ds.length xs 0 (w2.alloc (.cells (madeCells #[.nilIface] ds.length) 96)) :=
    ⟨hp.kept ((Below.refl _ w2).alloc (Nat.le_refl _) _), (Kept.refl _ w2).alloc _, madeCells #[.nilIface] ds.length, fun _ => undef, by rw [← hw2s]; exact at_new _ _, by simp [madeCells], fun i hi => absurd hi (Nat.not_lt_zero _), fun i _ hi => absurd hi (Nat.not_lt_zero _)⟩
  have hg3 : pb + 1 ≠ pb ∧ pb + 1 ≠ sb ∧ pb + 1 ≠ sb + 1 := by omega
  have HA : Aside (w2.heap.size = pb + 1 ∧ w.heap.size = sb ∧ w1.heap.size = pb ∧ sb + 1 < pb) := ⟨hw2s, hsb, hpb, by omega⟩
  clear hw2 hsl0 hru hru' hb01 hb1 hb12 hw2s hpb hsb hs1
  go_loopg [19] ds.length (fun k i wr => ∃ j : Nat, i = .int .i64 j ∧ j + k = ds.length ∧ Forming pb sb (sb + 1) [] w2 (pb + 1) ds.length xs j wr)
  case atStart => exact ⟨0, rfl, by omega, hF0⟩
  case round =>
    obtain ⟨j, rfl, hj, hF⟩ := hrel
    obtain ⟨hpar, hkept, c, vf, hrow, hcs, hci, hels⟩ := id hF
    by_cases hlt : j < ds.length
    · have hsr := hsl2.mono (hkept.rep (ok := fun k => ¬ PM pb sb k) fun _ _ h => h)
      obtain ⟨gd, od, cap', pp, po, pn, pc, ti, xv, heq, hgd, _, d0, d1, d2, hrepd⟩ := hsr.cells j hlt
      cases heq
      have hjx : j < xs.length := by omega
      have hrepd2 := hrepd.mono (ok' := fun k => ¬ PM pb sb k) (w' := wr.alloc (.cells #[.int .i64 pp, .slice po pn pc, .iface ti xv] 62)) (fun k hk h => ⟨h, Below.heap_alloc _ _ _ hk⟩)
      have hpar2 := hpar.kept ((Below.refl _ wr).alloc (Nat.le_refl _) (.cells #[.int .i64 pp, .slice po pn pc, .iface ti xv] 62))
      have hrow2 := at_alloc hrow (.cells #[.int .i64 pp, .slice po pn pc, .iface ti xv] 62)
      have hng : ¬ PM pb sb (pb + 1) := fun h => by rcases h with h | h; exact hg3.1 h; exact hg3.2.1 h
      clear hsr hsl hrepd hpar hkept hci hels hrow hF0 hp
      rw [Nat.mul_comm 3 j] at d0 d1 d2
      go_wp2_with (go_at_call 36; refine (HT.out j hlt hjx pb sb _ _ hpar2 hrepd2).mono ?_; rintro e w3 ⟨fv, rfl, hrepf, hp1, hk1⟩; obtain ⟨tf, xf, rfl⟩ := RepF.iface hrepf; have hrow3 := hk1.at hng hrow2; have c3 : w3.cell? ⟨pb + 1, j, none⟩ = some (c[j]'(by omega)) := by { rw [cell_of_at hrow3 j, Array.getElem?_eq_getElem] }; have f3 := free_of_at hrow3 j)
      go_roundg (gk - 1)
      case measure => omega
      case rel =>
        obtain ⟨a1, a2, a3, a4⟩ := HA.out
        exact ⟨j + 1, by go_num, by omega, hF.push (by omega) (by omega) hg3 hlt hxl hrepf hp1 hk1⟩
    · have hjl : j = ds.length := by omega
      subst hjl
      obtain ⟨⟨T, hb⟩, _, _, _⟩ := id hpar
      have c3 := cell_of_at hb 3
      simp only [List.getElem?_toArray, List.getElem?_cons_zero, List.getElem?_cons_succ] at c3
      clear hsl hF0 hb
      go_wp2
      go_ret3
      obtain ⟨a1, a2, a3, a4⟩ := HA.out
      refine ⟨_, rfl, ?_, ?_⟩
      · rw [← hxl]
        refine .list (pb + 1) 0 _ c 96 xs vf (by omega) hrow (Nat.le_refl _) (by omega) ?_ ?_
        · intro i hi
          rw [Nat.zero_add]
          exact hci i (by omega)
        · intro i hi
          exact (hels i hi (by omega)).mono fun k _ h => ⟨by have h1 := h.1; omega, rfl⟩
      · have hkb := hkept.below (B := sb) (by omega) (fun k h => by rcases h with h | h <;> omega)
        rw [a2]
        exact hb02.trans hkb
theorem Rd.pTops_get (f : Nat) : ∀ (ds : List Rd.D) (xs : List Rd.F), Rd.pTops f ds = some xs → ∀ (j : Nat) (hj : j < ds.length) (hjx : j < xs.length), Rd.pTop f ds[j] = some xs[j]
  | [], _, _, j, hj, _ => absurd hj (Nat.not_lt_zero _)
  | d :: ds, xs, h, j, hj, hjx => by
    obtain ⟨x, ys, h1, h2, rfl⟩ := Rd.pTops_more h
    cases j with
    | zero => exact h1
    | succ j => exact Rd.pTops_get f ds ys h2 j (by simpa using hj) (by simpa using hjx)
theorem parse_any (HL : ∀ f, FormsC f → FormC f → LetC f) (f : Nat) (w : World) (ds : List Rd.D) (xs : List Rd.F) (sl : Value) (hf : f + 1 ≤ 5000) (hsl : RepS (fun _ => True) w sl ds) (hx : Rd.pTops f ds = some xs) (hl : ds.length ≤ 4000) (hne : ds ≠ []) :
    Calls Tryz.prog 27 #[sl] w fun e w' => ∃ fv, e = .returned (.tuple #[fv, .int .i64 0, .int .i64 0]) ∧ RepFs (fun k => w.heap.size ≤ k) w' fv xs ∧ Below w.heap.size w w' :=
  parse_gen w ds xs sl hsl (Rd.pTops_length f ds xs hx) (fun j hj hjx pb sb W v hp hr => top_any HL f pb sb (sb + 1) W ds[j] xs[j] v hp hf hr (Rd.pTops_get f ds xs hx j hj hjx)) hl hne
end Go.Proofs.YtodeeegbajgafaaGreatDoor
