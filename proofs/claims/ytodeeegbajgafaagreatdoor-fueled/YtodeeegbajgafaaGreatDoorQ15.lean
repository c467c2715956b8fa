/- The names that data are, all different. A word as a form: a constant, or a name. The rules of the keywords: begin, reset, or. The rules of shift, set!, quote. -/
import Derived.Test.YtodeeegbajgafaaGreatDoorQ14
import Derived.Maps.AppendAt
namespace Go.Proofs.YtodeeegbajgafaaGreatDoor
open Go.RowKit
theorem ownsRow_kept' {B : Nat} {e size n : Nat} {v : Value} {xs : List Value} {w w' : World} (h : w.ownsRow B e size v n xs) (hk : Below w.heap.size w w') : w'.ownsRow B e size v n xs := by
  obtain ⟨h1, h2 | ⟨g, cap, cur, hv, hg, hh, r⟩⟩ := h
  · exact ⟨h1, Or.inl h2⟩
  · exact ⟨h1, Or.inr ⟨g, cap, cur, hv, hg, Below.at hk hh, r⟩⟩
theorem ownBlock_of' {B : Nat} {e size n : Nat} {v : Value} {xs : List Value} {w : World} (h : w.ownsRow B e size v n xs) : ∀ g, v.ownBlock = some g → B ≤ g := by
  intro g hg
  obtain ⟨_, ⟨rfl, _⟩ | ⟨g', cap, cur, rfl, hB, hh, _⟩⟩ := h
  · cases hg
  · cases hg; exact hB
theorem own_names {B : Nat} {w : World} {v : Value} {ns : List Rd.Sym} (h : w.ownsRow B 115 1 v ns.length (ns.map symV)) : RepN (fun k => B ≤ k) w v ns := by
  obtain ⟨hx, h | ⟨g, cap, cur, rfl, hg, hh, hn, hcap, hcs, htk⟩⟩ := h
  · obtain ⟨rfl, h0⟩ := h
    exact Or.inl ⟨rfl, List.length_eq_zero_iff.1 h0⟩
  · refine Or.inr ⟨g, cap, cur, 115, rfl, hg, hh, hn, fun i hi => ?_⟩
    have h1 : (cur.toList.take (ns.length * 1))[i]? = (ns.map symV)[i]? := by rw [htk]
    rw [List.getElem?_take, if_pos (by omega)] at h1
    rw [← Array.getElem?_toList, h1]
    simp [hi]
theorem Tryz.info115 : (Tryz.prog.info? 115).map (fun i => (i.zero, i.size, i.bytes)) = some (some (.string ⟨#[]⟩), 1, 16) := by kernel_rfl
end Go.Proofs.YtodeeegbajgafaaGreatDoor

namespace Go.Proofs.YtodeeegbajgafaaGreatDoor
open Go.RowKit
set_option maxHeartbeats 1000000 in
set_option maxRecDepth 10000 in
theorem patom_const (pb : Nat) (p : Int) (ad : Option Addr) (n c : Nat) (a : Rd.A) (w : World) (ha : (∃ i, a = .num i) ∨ ∃ b, a = .truth b) :
    Calls Tryz.prog 109 #[.pointer (some ⟨pb, 0, none⟩), .agg #[.int .i64 p, .slice ad n c, aV a]] w fun e w' => e = .returned (.iface 163 (.agg #[aV a])) ∧ Below w.heap.size w w' := by
  have t1 := ta_hit147
  have t2 := ta_hit150
  have t3 := fun v w => ta_miss147 150 v w (by decide)
  have t4 := fun v w => ta_miss150 147 v w (by decide)
  rcases ha with ⟨i, rfl⟩ | ⟨b, rfl⟩ <;> simp only [aV] <;>
  (go_enter Tryz.func109, Tryz.ntmps109
   go_wp2
   go_ret
   exact ⟨rfl, (Below.refl _ _).alloc (Nat.le_refl _) _⟩)
end Go.Proofs.YtodeeegbajgafaaGreatDoor

namespace Go.Proofs.YtodeeegbajgafaaGreatDoor
open Go.RowKit
theorem RepS.drop {ok : Nat → Prop} {w : World} {g o cap n : Nat} {ds : List Rd.D} (h : RepS ok w (.slice (some ⟨g, o, none⟩) n cap) ds) (k : Nat) (hk : k ≤ ds.length) :
    RepS ok w (.slice (some ⟨g, o + 3 * k, none⟩) (ds.length - k) (cap - k)) (ds.drop k) := by
  rcases h with ⟨h, _⟩ | ⟨g', o', cap', c, T, va, vb, vc, h, hg, hh, hn, hc, hs⟩
  · cases h
  · simp only [Value.slice.injEq, Option.some.injEq, Addr.mk.injEq, and_true] at h
    obtain ⟨⟨rfl, rfl⟩, rfl, rfl⟩ := h
    refine Or.inr ⟨g, o + 3 * k, cap - k, c, T, fun i => va (k + i), fun i => vb (k + i), fun i => vc (k + i), by simp, hg, hh, by simp; omega, ?_, ?_⟩
    · intro i hi
      simp only [List.length_drop] at hi
      have := hc (k + i) (by omega)
      rw [show o + 3 * (k + i) = o + 3 * k + 3 * i by omega] at this
      exact this
    · intro i hi
      simp only [List.length_drop] at hi
      have := hs (k + i) (by omega)
      rw [List.getElem_drop]
      exact this
theorem RepS.len {ok : Nat → Prop} {w : World} {b : Option Addr} {cap n : Nat} {ds : List Rd.D} (h : RepS ok w (.slice b n cap) ds) : n = ds.length ∧ ds.length ≤ cap := by
  rcases h with ⟨h, rfl⟩ | ⟨g', o', cap', c, T, va, vb, vc, h, hg, hh, hn, hc, hs⟩
  · simp at h; exact ⟨h.2.1, Nat.zero_le _⟩
  · simp at h; exact ⟨h.2.1, by omega⟩
/-- A list datum as a value. -/
def lsV (p : Int) (g o n cap : Nat) : Value := .agg #[.int .i64 p, .slice (some ⟨g, o, none⟩) n cap, .iface 146 (.agg #[])]
end Go.Proofs.YtodeeegbajgafaaGreatDoor

namespace Go.Proofs.YtodeeegbajgafaaGreatDoor
open Go.RowKit
/-- A part of a list that is a symbol: its three cells. -/
theorem RepS.symAt {ok : Nat → Prop} {w : World} {g o cap n : Nat} {ds : List Rd.D} (h : RepS ok w (.slice (some ⟨g, o, none⟩) n cap) ds) (i : Nat) (hi : i < ds.length) {p : Nat} {m : Rd.Sym} (hd : ds[i] = .mk p [] (.sym m)) :
    ∃ po pc, w.cell? ⟨g, o + 3 * i, none⟩ = some (.int .i64 p) ∧ w.cell? ⟨g, o + 3 * i + 1, none⟩ = some (.slice po 0 pc) ∧ w.cell? ⟨g, o + 3 * i + 2, none⟩ = some (.iface 115 (.string ⟨m.toArray⟩)) := by
  obtain ⟨g', o', cap', pp, po, pn, pc, ti, xv, heq, _, _, d0, d1, d2, hrep⟩ := h.cells i hi
  simp only [Value.slice.injEq, Option.some.injEq, Addr.mk.injEq, and_true] at heq
  obtain ⟨⟨rfl, rfl⟩, _, rfl⟩ := heq
  rw [hd] at hrep
  obtain ⟨sl', hv', hsl'⟩ := hrep.inv
  simp only [aV, Value.agg.injEq, Array.mk.injEq, List.cons.injEq, and_true, Value.iface.injEq] at hv'
  obtain ⟨h1, h2, rfl, rfl⟩ := hv'
  subst h2
  have := hsl'.len.1
  simp at this
  subst this
  exact ⟨po, pc, by rw [d0, h1], d1, d2⟩
theorem RepN.one (w : World) (n : Rd.Sym) (ok : Nat → Prop) (h : ok w.heap.size) : RepN ok (w.alloc (.cells #[.string ⟨n.toArray⟩] 115)) (.slice (some ⟨w.heap.size, 0, none⟩) 1 1) [n] :=
  Or.inr ⟨w.heap.size, 1, #[.string ⟨n.toArray⟩], 115, rfl, h, at_new _ _, Nat.le_refl _, fun i hi => by
    have : i = 0 := by simp at hi; exact hi
    subst this; rfl⟩
theorem differ_one (n : Rd.Sym) : Differ [n] := fun i j hi hj hij => by simp at hi hj; omega
end Go.Proofs.YtodeeegbajgafaaGreatDoor
