/- A body is begun. Written by gen_km2.py. -/
import Derived.Test.YtodeeegbajgafaaGreatDoorQ31
import Derived.Test.YtodeeegbajgafaaGreatDoorQ21
namespace Go.Proofs.YtodeeegbajgafaaGreatDoor
namespace Kc
open Go.RowKit
theorem RunAt.below {N : Nat → Prop} {g : Gh} {rb fuel : Nat} {s : St} {w w' : World} (h : RunAt N g rb fuel s w) (hb : Below w.heap.size w w') : RunAt N g rb fuel s w' := by
  have hst : ∀ k, k < w.heap.size → g.ok N k → g.ok N k ∧ w'.heap[k]? = w.heap[k]? := fun k hk ho => ⟨ho, hb.block k hk⟩
  obtain ⟨T, vf, va, vv, vt, vb, h1, hc, ht, hy⟩ := h.blk
  exact h.upd hb.size (fun k hk _ => hb.block k hk) ⟨rfl, rfl⟩ ⟨T, vf, va, vv, vt, vb, Below.at hb h1, hc.mono hst, ht.mono hst, hy.mono hst⟩ h.bound.1
theorem RunAt.drew {N : Nat → Prop} {g : Gh} {rb fuel : Nat} {s : St} {w : World} (h : RunAt N g rb fuel s w) : RunAt N g rb fuel s w.drew := h.below (Below.refl _ _).drew
theorem RM.new {N : Nat → Prop} {g : Gh} {rb fuel : Nat} {s : St} {w : World} (h : RunAt N g rb fuel s w) {k : Nat} (hk : w.heap.size ≤ k) : ¬ RM g rb k := by
  intro e
  rcases e with e | e
  · have := h.lt; omega
  · have := Gh.low h.m k e; omega
theorem RM.ok {N : Nat → Prop} {g : Gh} {rb fuel : Nat} {s : St} {w : World} (h : RunAt N g rb fuel s w) {k : Nat} (hk : g.ok N k) : ¬ RM g rb k := by
  intro e
  rcases e with rfl | e
  · exact hk.1 h.inN
  · exact hk.2 e
set_option maxHeartbeats 2000000 in
set_option maxRecDepth 10000 in
theorem body_any (N : Nat → Prop) (g : Gh) (rb fuel : Nat) (s s' : St) (w : World) (h : RunAt N g rb fuel s w) (sl a : Value) (fs : List Rd.F) (e : Env) (hs : RepFs (g.ok N) w sl fs) (ha : RepM g.tb (g.ok N) w a (.env e)) (hx : s.body fs e = some s') :
    Calls Tryz.prog 143 #[ptrV rb, sl, a] w (RunK N g rb fuel s' w) := by
  have hmf : ∀ fn first cap w, (Instr.makeFunc fn first cap).run Tryz.prog w = .ok (.func fn first cap) w := fun _ _ _ _ => rfl
  cases fs with
  | nil => cases hx
  | cons f fs =>
  obtain ⟨g0, o, cap, v0, rfl, hn, hcap, hg0, c0, hv0⟩ := hs.first
  obtain ⟨p, rfl⟩ := RepM.ptr ha
  obtain ⟨tv, xv, rfl⟩ := RepF.iface hv0
  have hB : Below w.heap.size w ((w.alloc (.cells #[.slice (some ⟨g0, o, none⟩) (fs.length + 1) cap] 65)).alloc (.cells #[.pointer p] 99)) := ((Below.refl _ w).alloc (Nat.le_refl _) _).alloc (by simp) _
  have h1 := h.below hB
  have hst : ∀ k, k < w.heap.size → g.ok N k → g.ok N k ∧ ((w.alloc (.cells #[.slice (some ⟨g0, o, none⟩) (fs.length + 1) cap] 65)).alloc (.cells #[.pointer p] 99)).heap[k]? = w.heap[k]? := fun k hk ho => ⟨ho, hB.block k hk⟩
  have k1 := Gh.ok_new h.m w.heap.size (Nat.le_refl _)
  have k2 := Gh.ok_new h.m (w.heap.size + 1) (by omega)
  have b1 : ((w.alloc (.cells #[.slice (some ⟨g0, o, none⟩) (fs.length + 1) cap] 65)).alloc (.cells #[.pointer p] 99)).heap[w.heap.size]? = some (.cells #[.slice (some ⟨g0, o, none⟩) (fs.length + 1) cap] 65 (0, 0)) := at_alloc (at_new w _) _
  have b2 : ((w.alloc (.cells #[.slice (some ⟨g0, o, none⟩) (fs.length + 1) cap] 65)).alloc (.cells #[.pointer p] 99)).heap[w.heap.size + 1]? = some (.cells #[.pointer p] 99 (0, 0)) := by simpa using at_new (w.alloc (.cells #[.slice (some ⟨g0, o, none⟩) (fs.length + 1) cap] 65)) (.cells #[.pointer p] 99)
  have hm0 := RM.ok h hg0
  have hm1 := RM.ok h k1
  have hm2 := RM.ok h k2
  generalize hW : ((w.alloc (.cells #[.slice (some ⟨g0, o, none⟩) (fs.length + 1) cap] 65)).alloc (.cells #[.pointer p] 99)) = W at *
  have c0' : W.cell? ⟨g0, o, none⟩ = some (.iface tv xv) := (Kept.of_below hB (fun _ => False)).cell id c0
  have hv1 := hv0.mono hst
  have ha1 := ha.mono hst
  have hs1 := hs.mono hst
  have hfr : RepM g.tb (g.ok N) W (capFn 162 [w.heap.size, w.heap.size + 1]) (.fr (.body (f :: fs) e)) := .body _ _ _ _ 65 99 _ _ k1 k2 b1 b2 hs1 ha1
  obtain ⟨q1, u1⟩ := cells1 b1
  obtain ⟨q2, u2⟩ := cells1 b2
  have hsz := hB.size
  have HX := (show Hid _ from hx)
  have HK := (show Hid _ from Kept.of_below hB (RM g rb))
  have HT : Hid (Calls Tryz.prog 160 #[.pointer (some ⟨rb, 0, none⟩), .func (.func 162) #[] #[.pointer (some ⟨w.heap.size, 0, none⟩), .pointer (some ⟨w.heap.size + 1, 0, none⟩)]] W (RunK N g rb fuel (s.push (.body (f :: fs) e)) W)) := then_any N g rb fuel s W h1 162 [w.heap.size, w.heap.size + 1] _ hfr
  have HW := (show Hid _ from hW)
  clear hx hs ha hv0 hs1 hst hW hfr
  unfold ptrV
  have hgo : ∀ (W2 : World) (s2 : St), RunAt N g rb fuel s2 W2 → Kept (RM g rb) W W2 → RepF (g.ok N) W2.drew (.iface tv xv) f ∧ RepM g.tb (g.ok N) W2.drew (.pointer p) (.env e) ∧ RunAt N g rb fuel s2 W2.drew := fun W2 s2 hr hk =>
    ⟨hv1.mono (h1.stays hk.drew), ha1.mono (h1.stays hk.drew), hr.drew⟩
  have HG := (show Hid _ from hgo)
  clear hgo
  cases fs with
  | nil =>
    have hx' := HX.out
    simp only [St.body, Option.some.injEq] at hx'
    subst hx'
    simp only [List.length_nil, Nat.zero_add] at HW q1
    clear HT b1 hn HX
    have HE : Hid (Calls Tryz.prog 110 #[.pointer (some ⟨rb, 0, none⟩), .iface tv xv, .pointer p] W.drew (RunK N g rb fuel (s.eval f e) W.drew)) := by
      obtain ⟨i1, i2, i3⟩ := HG.out W s h1 (Kept.refl _ _)
      exact evaluate_any N g rb fuel s W.drew i3 _ _ f e i1 i2
    go_enter Tryz.func143, Tryz.ntmps143
    go_wp2
    rw [HW.out]
    go_region_held3 (fun X => X.cell? ⟨w.heap.size, 0, none⟩ = some (.slice (some ⟨g0, o, none⟩) 1 cap) ∧ X.cell? ⟨w.heap.size + 1, 0, none⟩ = some (.pointer p) ∧ X.cell? ⟨g0, o, none⟩ = some (.iface tv xv)) (go_keep) (first | (go_at_call 110; refine HE.out.mono ?_; rintro e3 w3 ⟨rfl, hr3, hk3⟩; have z1 := hk3.cell hm1 q1; have z2 := hk3.cell hm2 q2; have z3 := hk3.cell hm0 c0'))
    go_wp2
    go_end0
    exact ⟨rfl, hr3, HK.out.trans (Kept.undrew hk3)⟩
  | cons f2 fs =>
    have hx' := HX.out
    simp only [St.body, Option.some.injEq] at hx'
    subst hx'
    simp only [List.length_cons] at HW q1 hn
    clear b1 HX
    have j1 : (0 : Int) < (fs.length : Int) + 1 + 1 := by omega
    have j2 : ((0 : Int) < (fs.length : Int) + 1 + 1) = True := by simp; omega
    go_enter Tryz.func143, Tryz.ntmps143
    go_wp2_with (go_at_call 160; rw [HW.out]; refine HT.out.mono ?_; rintro e2 w2 ⟨rfl, hr2, hk2⟩; have y1 := hk2.cell hm1 q1; have y2 := hk2.cell hm2 q2; have y3 := hk2.cell hm0 c0')
    have HE : Hid (Calls Tryz.prog 110 #[.pointer (some ⟨rb, 0, none⟩), .iface tv xv, .pointer p] w2.drew (RunK N g rb fuel ((s.push (.body (f :: f2 :: fs) e)).eval f e) w2.drew)) := by
      obtain ⟨i1, i2, i3⟩ := HG.out w2 _ hr2 hk2
      exact evaluate_any N g rb fuel _ w2.drew i3 _ _ f e i1 i2
    go_region_held3 (fun X => X.cell? ⟨w.heap.size, 0, none⟩ = some (.slice (some ⟨g0, o, none⟩) (fs.length + 1 + 1) cap) ∧ X.cell? ⟨w.heap.size + 1, 0, none⟩ = some (.pointer p) ∧ X.cell? ⟨g0, o, none⟩ = some (.iface tv xv)) (go_keep) (first | (go_at_call 110; refine HE.out.mono ?_; rintro e3 w3 ⟨rfl, hr3, hk3⟩; have z1 := hk3.cell hm1 y1; have z2 := hk3.cell hm2 y2; have z3 := hk3.cell hm0 y3))
    go_wp2
    go_end0
    exact ⟨rfl, hr3, (HK.out.trans hk2).trans (Kept.undrew hk3)⟩
end Kc
end Go.Proofs.YtodeeegbajgafaaGreatDoor
