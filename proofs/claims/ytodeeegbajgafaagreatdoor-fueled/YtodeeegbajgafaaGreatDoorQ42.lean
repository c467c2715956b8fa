/- The rules of procedures: what lambda, and a define of one, make. The rule of if. A list that begins with a keyword goes by its rule. Any datum as a form. -/
import Derived.Test.YtodeeegbajgafaaGreatDoorQ20
import Derived.Test.YtodeeegbajgafaaGreatDoorQ01
import Derived.Deep.DeepFit
namespace Go.Proofs.YtodeeegbajgafaaGreatDoor
open Go.RowKit
/-- A part of a list that is a list: its three cells. -/
theorem RepS.listAt {ok : Nat → Prop} {w : World} {g o cap n : Nat} {ds : List Rd.D} (h : RepS ok w (.slice (some ⟨g, o, none⟩) n cap) ds) (i : Nat) (hi : i < ds.length) {p : Nat} {ps : List Rd.D} {en : Rd.A} (hd : ds[i] = .mk p ps en) :
    ∃ po pc, w.cell? ⟨g, o + 3 * i, none⟩ = some (.int .i64 p) ∧ w.cell? ⟨g, o + 3 * i + 1, none⟩ = some (.slice po ps.length pc) ∧ w.cell? ⟨g, o + 3 * i + 2, none⟩ = some (aV en) ∧ ok g ∧ RepS ok w (.slice po ps.length pc) ps := by
  obtain ⟨g', o', cap', pp, po, pn, pc, ti, xv, heq, hok, _, d0, d1, d2, hrep⟩ := h.cells i hi
  simp only [Value.slice.injEq, Option.some.injEq, Addr.mk.injEq, and_true] at heq
  obtain ⟨⟨rfl, rfl⟩, _, rfl⟩ := heq
  rw [hd] at hrep
  obtain ⟨sl', hv', hsl'⟩ := hrep.inv
  simp only [Value.agg.injEq, Array.mk.injEq, List.cons.injEq, and_true] at hv'
  obtain ⟨h1, h2, h3⟩ := hv'
  subst h2
  have := hsl'.len.1
  subst this
  exact ⟨po, pc, by rw [d0, h1], d1, by rw [d2, h3], hok, hsl'⟩
end Go.Proofs.YtodeeegbajgafaaGreatDoor

namespace Go.Proofs.YtodeeegbajgafaaGreatDoor
open Go.RowKit
theorem RepFs.cells {ok : Nat → Prop} {w : World} {v : Value} {fs : List Rd.F} (h : RepFs ok w v fs) : ∃ g o cap, v = .slice (some ⟨g, o, none⟩) fs.length cap ∧ ok g ∧ fs.length ≤ cap ∧ cap ≤ 100000 ∧ ∀ i (hi : i < fs.length), ∃ t x, w.cell? ⟨g, o + i, none⟩ = some (.iface t x) ∧ RepF ok w (.iface t x) fs[i] := by
  cases h with
  | list g o cap c T _ vf hg hh hn hcap hc hs =>
    refine ⟨g, o, cap, rfl, hg, hn, hcap, fun i hi => ?_⟩
    obtain ⟨t, x, hx⟩ := RepF.iface (hs i hi)
    refine ⟨t, x, ?_, ?_⟩
    · rw [cell_of_at hh, hc i hi, hx]
    · rw [← hx]; exact hs i hi
end Go.Proofs.YtodeeegbajgafaaGreatDoor

namespace Go.Proofs.YtodeeegbajgafaaGreatDoor
open Go.RowKit
theorem sym_mk {d : Rd.D} {n : Rd.Sym} (h : d.sym = some n) : ∃ p, d = .mk p [] (.sym n) := by
  obtain ⟨p, ds, en⟩ := d
  cases ds with
  | cons a b => simp [Rd.D.sym] at h
  | nil =>
    cases en <;> simp [Rd.D.sym] at h
    subst h
    exact ⟨p, rfl⟩
end Go.Proofs.YtodeeegbajgafaaGreatDoor

namespace Go.Proofs.YtodeeegbajgafaaGreatDoor
open Go.RowKit
theorem RepD.ls {ok : Nat → Prop} {w : World} {v : Value} {p : Nat} {d0 : Rd.D} {rest : List Rd.D} (h : RepD ok w v (.mk p (d0 :: rest) .empty)) : ∃ g o cap, v = lsV p g o (rest.length + 1) cap ∧ RepS ok w (.slice (some ⟨g, o, none⟩) (rest.length + 1) cap) (d0 :: rest) := by
  obtain ⟨sl, rfl, hs⟩ := h.inv
  rcases hs with ⟨_, h'⟩ | ⟨g, o, cap, c, T, va, vb, vc, rfl, h'⟩
  · cases h'
  · exact ⟨g, o, cap, rfl, Or.inr ⟨g, o, cap, c, T, va, vb, vc, rfl, h'⟩⟩
end Go.Proofs.YtodeeegbajgafaaGreatDoor
