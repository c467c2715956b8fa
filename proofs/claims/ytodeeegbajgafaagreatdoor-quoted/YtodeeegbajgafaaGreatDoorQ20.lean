/- The rule of set!. -/
import Derived.Test.YtodeeegbajgafaaGreatDoorQ15
import Derived.Deep.RegionHeld3
namespace Go.Proofs.YtodeeegbajgafaaGreatDoor
open Go.RowKit

theorem Below.undrew {w w' : World} (h : Below w.drew.heap.size w.drew w') : Below w.heap.size w w' := ⟨h.os, h.tape, h.output, h.size, h.block⟩
theorem Kept.cell {M : Nat → Prop} {w w' : World} (h : Kept M w w') {k o : Nat} {v : Value} (hm : ¬ M k) (hc : w.cell? ⟨k, o, none⟩ = some v) : w'.cell? ⟨k, o, none⟩ = some v := by
  have hlt : k < w.heap.size := by
    by_cases hlt : k < w.heap.size
    · exact hlt
    · simp [World.cell?, Array.getElem?_eq_none (show w.heap.size ≤ k by omega)] at hc
  rw [World.cell?_of_block (w := w) (a := ⟨k, o, none⟩) (h.block k hlt hm)]
  exact hc

set_option maxHeartbeats 2000000 in
set_option maxRecDepth 10000 in
theorem set_any (f : Nat) (HF : FormC f) (pb sb kb : Nat) (env : List (List Rd.Sym)) (w : World) (p : Int) (g o cap : Nat) (d0 nm v : Rd.D) (n : Rd.Sym) (x : Rd.F) (hp : PAt pb sb kb env w) (hf : env.length + f ≤ 5000)
    (hs : RepS (fun k => ¬ PM pb sb k) w (.slice (some ⟨g, o, none⟩) 3 cap) [d0, nm, v]) (hn : nm.name = some n) (hx : Rd.pForm f env v = some x) :
    Calls Tryz.prog 54 #[.pointer (some ⟨pb, 0, none⟩), lsV p g o 3 cap] w (RuleR pb sb kb env w (.set_ n (Rd.findName n env 0) x)) := by
  have hcap := hs.len.2
  simp only [List.length_cons, List.length_nil] at hcap
  have hlp := hp.lt
  obtain ⟨p', hd', hkey⟩ := sym_of_name hn
  have hs2 := hs.mono (ok' := fun k => ¬ PM pb sb k) (w' := w.alloc (.cells #[.int .i64 p, .slice (some ⟨g, o, none⟩) 3 cap, .iface 146 (.agg #[])] 62)) (fun k hk h => ⟨h, Below.heap_alloc _ _ _ hk⟩)
  obtain ⟨po, pc, e0, e1, e2⟩ := hs2.symAt 1 (by simp) (p := p') (m := n) hd'
  simp only [Nat.mul_one] at e0 e1 e2
  have hp2 := hp.kept ((Below.refl _ w).alloc (Nat.le_refl _) (.cells #[.int .i64 p, .slice (some ⟨g, o, none⟩) 3 cap, .iface 146 (.agg #[])] 62))
  have HX := (show Hid _ from hx)
  have HK := (show Hid _ from hkey)
  clear hx hn hd' hkey
  unfold lsV
  go_enter Tryz.func54, Tryz.ntmps54
  go_wp2_with (first | (go_at_call 105; refine (nameOf_any pb sb kb env _ po pc n _ hp2 HK.out).mono ?_; rintro e w1 ⟨rfl, hb1⟩; simp only [symV]; have hsz1 : w.heap.size < w1.heap.size := (by have := hb1.size; simp at this; omega); obtain ⟨q0, q1, q2, _, _, _⟩ := cells3 (Below.at hb1 (at_new w _))))
  have hs3 := hs2.mono (ok' := fun k => ¬ PM pb sb k) (fun k hk h => ⟨h, hb1.block k hk⟩)
  have hp3 := hp2.kept hb1
  obtain ⟨g', o', cap', pp, po', pn, pc', ti, xv, heq, hgok, _, y0, y1, y2, hrepv⟩ := hs3.cells 2 (by simp)
  simp only [Value.slice.injEq, Option.some.injEq, Addr.mk.injEq, and_true] at heq
  obtain ⟨⟨rfl, rfl⟩, _, rfl⟩ := heq
  simp only [List.getElem_cons_succ, List.getElem_cons_zero, show 3 * 2 = 6 by omega] at hrepv y0 y1 y2
  have hb01 : Below w.heap.size w w1 := ((Below.refl _ w).alloc (Nat.le_refl _) _).trans (hb1.mono (by simp))
  clear hs hs2 hs3 e0 e1 e2 hb1 hp2
  have hnb : ¬ PM pb sb w.heap.size := fun h => by rcases h with h | h <;> omega
  have hbl : ∀ W, Kept (PM pb sb) w1 W → W.cell? ⟨w.heap.size, 1, none⟩ = some (.slice (some ⟨g, o, none⟩) 3 cap) ∧ W.cell? ⟨g, o + 6, none⟩ = some (.int .i64 pp) ∧ W.cell? ⟨g, o + 6 + 1, none⟩ = some (.slice po' pn pc') ∧ W.cell? ⟨g, o + 6 + 2, none⟩ = some (.iface ti xv) :=
    fun W hW => ⟨hW.cell hnb q1, hW.cell hgok y0, hW.cell hgok y1, hW.cell hgok y2⟩
  have HBL := (show Hid _ from hbl)
  clear hbl
  go_region_held3 (fun W => W.cell? ⟨w.heap.size, 1, none⟩ = some (.slice (some ⟨g, o, none⟩) 3 cap) ∧ W.cell? ⟨g, o + 6, none⟩ = some (.int .i64 pp) ∧ W.cell? ⟨g, o + 6 + 1, none⟩ = some (.slice po' pn pc') ∧ W.cell? ⟨g, o + 6 + 2, none⟩ = some (.iface ti xv)) (go_keep) (first | (go_at_call 106; refine (find_any pb sb kb env n _ (hp3.kept (Below.refl _ _).drew) (by omega)).mono ?_; rintro e w2 ⟨rfl, hb2⟩; simp only [nameV, symV]; obtain ⟨r0, r1, r2, r3⟩ := HBL.out w2 (Kept.of_below (Below.undrew hb2) _)) | (go_at_call 63; refine (HF pb sb kb env _ v x _ (hp3.kept (Below.undrew hb2)) hf (hrepv.mono (fun k hk h => ⟨h, (Below.undrew hb2).block k hk⟩)) HX.out).mono ?_; rintro e w3 ⟨fv, rfl, hrf, hp4, hk4⟩; obtain ⟨tf, xf, rfl⟩ := RepF.iface hrf; obtain ⟨z0, z1, z2, z3⟩ := HBL.out w3 ((Kept.of_below (Below.undrew hb2) _).trans hk4)))
  go_wp2
  go_ret
  have hb3 := Below.undrew hb2
  have hs1 := hb3.size
  refine ⟨_, rfl, .set_ n _ _ _ (hrf.mono fun k _ hge => ⟨by omega, rfl⟩), hp4, ?_⟩
  exact ((Kept.of_below hb01 _).trans (Kept.of_below hb3 _)).trans hk4
end Go.Proofs.YtodeeegbajgafaaGreatDoor
