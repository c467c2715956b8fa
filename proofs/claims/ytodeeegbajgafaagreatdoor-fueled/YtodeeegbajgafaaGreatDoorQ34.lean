/- Tasks: of a choice, of a body; or. Written by gen_km2.py. Tasks: of a choice, of a body; or. Written by gen_km2.py. Or: what is done behind its forms. Written by gen_km2.py. Names are looked up. Written by gen_km2.py. Names, procedures, resets and shifts. Written by gen_km2.py. Procedures made, resets and shifts. Written by gen_km2.py. Shifts. Written by gen_km2.py. Names are defined. Written by gen_km2.py. Tasks that define and set names. Written by gen_km2.py. A name is set. Written by gen_km2.py. Continuations are called; bodies in a scope of their own. Written by gen_km2.py. Shifts, with scopes that change. Written by gen_km3.py. Forms are evaluated in turn, with scopes that change. Written by gen_km4.py. Sums, products, differences of any numbers. -/
import Derived.Test.YtodeeegbajgafaaGreatDoorQ33
import Derived.Test.YtodeeegbajgafaaGreatDoorQ22
import Derived.Test.YtodeeegbajgafaaGreatDoorQ23
import Derived.Test.YtodeeegbajgafaaGreatDoorQ08
namespace Go.Proofs.YtodeeegbajgafaaGreatDoor
namespace Kc
open Go.RowKit
theorem isTrue_any (mb : Gt) (ok : Nat → Prop) (x : Value) (v : V) (w w0 : World) (h : RepM mb ok w0 x (.val v)) :
    Calls Tryz.prog 128 #[x] w fun e w' => e = .returned (.bool v.isTrue) ∧ w' = w := by
  cases h with
  | atom a =>
    cases a with
    | truth b => cases b <;> exact isTrue_of _ _ _ w (fun w => neq_truth w)
    | num n => exact isTrue_of _ _ _ w (fun w => neq_iface w (by decide))
    | sym n => exact isTrue_of _ _ _ w (fun w => neq_iface w (by decide))
    | empty => exact isTrue_of _ _ _ w (fun w => neq_iface w (by decide))
  | pair => exact isTrue_of _ _ _ w (fun w => neq_iface w (by decide))
  | basic0 => exact isTrue_of _ _ _ w (fun w => neq_iface w (by decide))
  | basic1 => exact isTrue_of _ _ _ w (fun w => neq_iface w (by decide))
  | clo => exact isTrue_of _ _ _ w (fun w => neq_iface w (by decide))
  | cont => exact isTrue_of _ _ _ w (fun w => neq_iface w (by decide))
end Kc
end Go.Proofs.YtodeeegbajgafaaGreatDoor

namespace Go.Proofs.YtodeeegbajgafaaGreatDoor
namespace Kc
open Go.RowKit
theorem RepM.choose_inv {mb : Gt} {ok : Nat → Prop} {w : World} {x : Value} {a : Rd.F} {e : Option Rd.F} {en : Env} (h : RepM mb ok w x (.fr (.choose a e en))) :
    ∃ b1 b2 vt va ve at' T1 T2, x = capFn 161 [b1, b2] ∧ ok b1 ∧ ok b2 ∧ w.heap[b1]? = some (.cells #[vt, va, ve] T1 (0, 0)) ∧ w.heap[b2]? = some (.cells #[at'] T2 (0, 0)) ∧ RepF ok w va a ∧ OptF ok w ve e ∧ RepM mb ok w at' (.env en) := by
  cases h with
  | choose b1 b2 vt va ve at' T1 T2 _ _ _ k1 k2 hh1 hh2 h1 h2 h3 => exact ⟨b1, b2, vt, va, ve, at', T1, T2, rfl, k1, k2, hh1, hh2, h1, h2, h3⟩
theorem RepM.body_inv {mb : Gt} {ok : Nat → Prop} {w : World} {x : Value} {fs : List Rd.F} {en : Env} (h : RepM mb ok w x (.fr (.body fs en))) :
    ∃ b1 b2 s at' T1 T2, x = capFn 162 [b1, b2] ∧ ok b1 ∧ ok b2 ∧ w.heap[b1]? = some (.cells #[s] T1 (0, 0)) ∧ w.heap[b2]? = some (.cells #[at'] T2 (0, 0)) ∧ RepFs ok w s fs ∧ RepM mb ok w at' (.env en) := by
  cases h with
  | body b1 b2 s at' T1 T2 _ _ k1 k2 hh1 hh2 h1 h2 => exact ⟨b1, b2, s, at', T1, T2, rfl, k1, k2, hh1, hh2, h1, h2⟩
set_option maxHeartbeats 2000000 in
set_option maxRecDepth 10000 in
theorem goChoose (N : Nat → Prop) (g : Gh) (rb fuel : Nat) (s : St) (w : World) (h : RunAt N g rb fuel s w) (x : Value) (v : V) (hv : RepM g.tb (g.ok N) w x (.val v)) (b1 b2 : Nat) (vt va ve a : Value) (T1 T2 : TypeId) (y z : Rd.F) (e : Env)
    (hb1 : w.heap[b1]? = some (.cells #[vt, va, ve] T1 (0, 0))) (hb2 : w.heap[b2]? = some (.cells #[a] T2 (0, 0))) (h1 : RepF (g.ok N) w va y) (h2 : RepF (g.ok N) w ve z) (ha : RepM g.tb (g.ok N) w a (.env e)) :
    Calls Tryz.prog 161 #[ptrV rb, x, ptrV b1, ptrV b2] w (RunK N g rb fuel (s.eval (if v.isTrue then y else z) e) w) := by
  obtain ⟨p, rfl⟩ := RepM.ptr ha
  obtain ⟨t1, x1, rfl⟩ := RepF.iface h1
  obtain ⟨t2, x2, rfl⟩ := RepF.iface h2
  obtain ⟨t0, x0, rfl⟩ := RepM.iface hv
  obtain ⟨q0, q1, q2, _, _, _⟩ := cells3 hb1
  obtain ⟨q3, _⟩ := cells1 hb2
  have HI : Hid (Calls Tryz.prog 128 #[.iface t0 x0] w fun e w' => e = .returned (.bool v.isTrue) ∧ w' = w) := isTrue_any g.tb (g.ok N) _ v w w hv
  have HE1 : Hid (Calls Tryz.prog 110 #[.pointer (some ⟨rb, 0, none⟩), .iface t1 x1, .pointer p] w (RunK N g rb fuel (s.eval y e) w)) := evaluate_any N g rb fuel s w h _ _ y e h1 ha
  have HE2 : Hid (Calls Tryz.prog 110 #[.pointer (some ⟨rb, 0, none⟩), .iface t2 x2, .pointer p] w (RunK N g rb fuel (s.eval z e) w)) := evaluate_any N g rb fuel s w h _ _ z e h2 ha
  clear h h1 h2 ha hv hb1 hb2
  unfold ptrV
  cases hb : v.isTrue with
  | true =>
    rw [hb] at HI
    simp only [if_true]
    go_enter Tryz.func161, Tryz.ntmps161
    go_wp2_with (first | (go_at_call 128; refine HI.out.mono ?_; rintro e1 w1 ⟨rfl, rfl⟩) | (go_at_call 110; refine HE1.out.mono ?_; rintro e3 w3 ⟨rfl, hr3, hk3⟩))
    go_end0
    exact ⟨rfl, hr3, hk3⟩
  | false =>
    rw [hb] at HI
    simp only [Bool.false_eq_true, if_false]
    go_enter Tryz.func161, Tryz.ntmps161
    go_wp2_with (first | (go_at_call 128; refine HI.out.mono ?_; rintro e1 w1 ⟨rfl, rfl⟩) | (go_at_call 110; refine HE2.out.mono ?_; rintro e3 w3 ⟨rfl, hr3, hk3⟩))
    go_end0
    exact ⟨rfl, hr3, hk3⟩
set_option maxHeartbeats 2000000 in
set_option maxRecDepth 10000 in
theorem goBody (N : Nat → Prop) (g : Gh) (rb fuel : Nat) (s s' : St) (w : World) (h : RunAt N g rb fuel s w) (x : Value) (v : V) (hv : RepM g.tb (g.ok N) w x (.val v)) (b1 b2 : Nat) (sl a : Value) (T1 T2 : TypeId) (f : Rd.F) (fs : List Rd.F) (e : Env) (k1 : g.ok N b1) (k2 : g.ok N b2)
    (hb1 : w.heap[b1]? = some (.cells #[sl] T1 (0, 0))) (hb2 : w.heap[b2]? = some (.cells #[a] T2 (0, 0))) (h1 : RepFs (g.ok N) w sl (f :: fs)) (ha : RepM g.tb (g.ok N) w a (.env e)) (hx : s.body fs e = some s') :
    Calls Tryz.prog 162 #[ptrV rb, x, ptrV b1, ptrV b2] w (RunK N g rb fuel s' w) := by
  cases fs with
  | nil => cases hx
  | cons f2 fs =>
  obtain ⟨p, rfl⟩ := RepM.ptr ha
  obtain ⟨t0, x0, rfl⟩ := RepM.iface hv
  obtain ⟨g0, o, cap, v0, rfl, hn, hcap, hg0, c0, hv0⟩ := h1.first
  simp only [List.length_cons] at hn
  have hc1 : ¬ cap = 1 := by omega
  have ht := h1.tail
  simp only [List.length_cons] at ht
  have HB : Hid (Calls Tryz.prog 143 #[.pointer (some ⟨rb, 0, none⟩), .slice (some ⟨g0, o + 1, none⟩) (fs.length + 1) (cap - 1), .pointer p] w.drew (RunK N g rb fuel s' w.drew)) :=
    body_any N g rb fuel s s' w.drew h.drew _ _ (f2 :: fs) e (ht.mono fun k _ ho => ⟨ho, rfl⟩) (ha.mono fun k _ ho => ⟨ho, rfl⟩) hx
  have hm1 := RM.ok h k1
  have hm2 := RM.ok h k2
  obtain ⟨q1, _⟩ := cells1 hb1
  obtain ⟨q2, _⟩ := cells1 hb2
  simp only [List.length_cons] at q1
  have i2 : (1 : Int) ≤ (fs.length : Int) + 1 + 1 := by omega
  have i3 : (fs.length : Int) + 1 + 1 ≤ (cap : Int) := by omega
  clear h h1 ha hv hb1 hb2 ht hx hv0
  unfold ptrV
  go_enter Tryz.func162, Tryz.ntmps162
  go_region_held3 (fun X => X.cell? ⟨b1, 0, none⟩ = some (.slice (some ⟨g0, o, none⟩) (fs.length + 1 + 1) cap) ∧ X.cell? ⟨b2, 0, none⟩ = some (.pointer p)) (go_keep) (first | (go_at_call 143; refine HB.out.mono ?_; rintro e3 w3 ⟨rfl, hr3, hk3⟩; have z1 := hk3.cell hm1 q1; have z2 := hk3.cell hm2 q2))
  go_wp2
  go_end0
  exact ⟨rfl, hr3, Kept.undrew hk3⟩
set_option maxHeartbeats 2000000 in
set_option maxRecDepth 10000 in
theorem goChooseNone (N : Nat → Prop) (g : Gh) (rb fuel : Nat) (s : St) (w : World) (h : RunAt N g rb fuel s w) (x : Value) (v : V) (hv : RepM g.tb (g.ok N) w x (.val v)) (b1 b2 : Nat) (vt va a : Value) (T1 T2 : TypeId) (y : Rd.F) (e : Env)
    (hb1 : w.heap[b1]? = some (.cells #[vt, va, .nilIface] T1 (0, 0))) (hb2 : w.heap[b2]? = some (.cells #[a] T2 (0, 0))) (h1 : RepF (g.ok N) w va y) (ha : RepM g.tb (g.ok N) w a (.env e)) :
    Calls Tryz.prog 161 #[ptrV rb, x, ptrV b1, ptrV b2] w (RunK N g rb fuel (if v.isTrue then s.eval y e else s.give (.atom .empty)) w) := by
  obtain ⟨p, rfl⟩ := RepM.ptr ha
  obtain ⟨t1, x1, rfl⟩ := RepF.iface h1
  obtain ⟨t0, x0, rfl⟩ := RepM.iface hv
  obtain ⟨q0, q1, q2, _, _, _⟩ := cells3 hb1
  obtain ⟨q3, _⟩ := cells1 hb2
  have HI : Hid (Calls Tryz.prog 128 #[.iface t0 x0] w fun e w' => e = .returned (.bool v.isTrue) ∧ w' = w) := isTrue_any g.tb (g.ok N) _ v w w hv
  have HE1 : Hid (Calls Tryz.prog 110 #[.pointer (some ⟨rb, 0, none⟩), .iface t1 x1, .pointer p] w (RunK N g rb fuel (s.eval y e) w)) := evaluate_any N g rb fuel s w h _ _ y e h1 ha
  have HE2 : Hid (Calls Tryz.prog 139 #[.pointer (some ⟨rb, 0, none⟩), .iface 146 (.agg #[])] w (RunK N g rb fuel (s.give (.atom .empty)) w)) := give_any N g rb fuel s w h _ _ (.atom .empty)
  clear h h1 ha hv hb1 hb2
  unfold ptrV
  cases hb : v.isTrue with
  | true =>
    rw [hb] at HI
    simp only [if_true]
    go_enter Tryz.func161, Tryz.ntmps161
    go_wp2_with (first | (go_at_call 128; refine HI.out.mono ?_; rintro e1 w1 ⟨rfl, rfl⟩) | (go_at_call 110; refine HE1.out.mono ?_; rintro e3 w3 ⟨rfl, hr3, hk3⟩))
    go_end0
    exact ⟨rfl, hr3, hk3⟩
  | false =>
    rw [hb] at HI
    simp only [Bool.false_eq_true, if_false]
    go_enter Tryz.func161, Tryz.ntmps161
    go_wp2_with (first | (go_at_call 128; refine HI.out.mono ?_; rintro e1 w1 ⟨rfl, rfl⟩) | (go_at_call 139; refine HE2.out.mono ?_; rintro e3 w3 ⟨rfl, hr3, hk3⟩))
    go_end0
    exact ⟨rfl, hr3, hk3⟩
end Kc
end Go.Proofs.YtodeeegbajgafaaGreatDoor

namespace Go.Proofs.YtodeeegbajgafaaGreatDoor
namespace Kc
open Go.RowKit
set_option maxHeartbeats 2000000 in
set_option maxRecDepth 10000 in
theorem runUntil_any (N : Nat → Prop) (g : Gh) (rb fuel : Nat) (s s' : St) (w : World) (h : RunAt N g rb fuel s w) (st : Bool) (sl a : Value) (fs : List Rd.F) (e : Env) (hs : RepFs (g.ok N) w sl fs) (ha : RepM g.tb (g.ok N) w a (.env e)) (hx : s.until_ st fs e = some s') :
    Calls Tryz.prog 146 #[ptrV rb, .bool st, sl, a] w (RunK N g rb fuel s' w) := by
  have hmf : ∀ fn first cap w, (Instr.makeFunc fn first cap).run Tryz.prog w = .ok (.func fn first cap) w := fun _ _ _ _ => rfl
  cases fs with
  | nil => cases hx
  | cons f fs =>
  obtain ⟨g0, o, cap, v0, rfl, hn, hcap, hg0, c0, hv0⟩ := hs.first
  obtain ⟨p, rfl⟩ := RepM.ptr ha
  obtain ⟨tv, xv, rfl⟩ := RepF.iface hv0
  have hB : Below w.heap.size w (((w.alloc (.cells #[.bool st] 4)).alloc (.cells #[.slice (some ⟨g0, o, none⟩) (fs.length + 1) cap] 65)).alloc (.cells #[.pointer p] 99)) := (((Below.refl _ w).alloc (Nat.le_refl _) _).alloc (by simp) _).alloc (by simp; omega) _
  have h1 := h.below hB
  have hst : ∀ k, k < w.heap.size → g.ok N k → g.ok N k ∧ (((w.alloc (.cells #[.bool st] 4)).alloc (.cells #[.slice (some ⟨g0, o, none⟩) (fs.length + 1) cap] 65)).alloc (.cells #[.pointer p] 99)).heap[k]? = w.heap[k]? := fun k hk ho => ⟨ho, hB.block k hk⟩
  have k1 := Gh.ok_new h.m w.heap.size (Nat.le_refl _)
  have k2 := Gh.ok_new h.m (w.heap.size + 1) (by omega)
  have k3 := Gh.ok_new h.m (w.heap.size + 2) (by omega)
  have b0 : (((w.alloc (.cells #[.bool st] 4)).alloc (.cells #[.slice (some ⟨g0, o, none⟩) (fs.length + 1) cap] 65)).alloc (.cells #[.pointer p] 99)).heap[w.heap.size]? = some (.cells #[.bool st] 4 (0, 0)) := at_alloc (at_alloc (at_new w _) _) _
  have b1 : (((w.alloc (.cells #[.bool st] 4)).alloc (.cells #[.slice (some ⟨g0, o, none⟩) (fs.length + 1) cap] 65)).alloc (.cells #[.pointer p] 99)).heap[w.heap.size + 1]? = some (.cells #[.slice (some ⟨g0, o, none⟩) (fs.length + 1) cap] 65 (0, 0)) := at_alloc (by simpa using at_new (w.alloc (.cells #[.bool st] 4)) (.cells #[.slice (some ⟨g0, o, none⟩) (fs.length + 1) cap] 65)) _
  have b2 : (((w.alloc (.cells #[.bool st] 4)).alloc (.cells #[.slice (some ⟨g0, o, none⟩) (fs.length + 1) cap] 65)).alloc (.cells #[.pointer p] 99)).heap[w.heap.size + 2]? = some (.cells #[.pointer p] 99 (0, 0)) := by simpa using at_new ((w.alloc (.cells #[.bool st] 4)).alloc (.cells #[.slice (some ⟨g0, o, none⟩) (fs.length + 1) cap] 65)) (.cells #[.pointer p] 99)
  have hm0 := RM.ok h hg0
  have hm1 := RM.ok h k2
  have hm2 := RM.ok h k3
  generalize hW : (((w.alloc (.cells #[.bool st] 4)).alloc (.cells #[.slice (some ⟨g0, o, none⟩) (fs.length + 1) cap] 65)).alloc (.cells #[.pointer p] 99)) = W at *
  have c0' : W.cell? ⟨g0, o, none⟩ = some (.iface tv xv) := (Kept.of_below hB (fun _ => False)).cell id c0
  have hv1 := hv0.mono hst
  have ha1 := ha.mono hst
  have hs1 := hs.mono hst
  have hfr : RepM g.tb (g.ok N) W (capFn 165 [w.heap.size, w.heap.size + 1, w.heap.size + 2]) (.fr (.until_ st (f :: fs) e)) := .until_ _ _ _ _ _ _ 4 65 99 _ _ k1 k2 k3 b0 b1 b2 hs1 ha1
  obtain ⟨q1, u1⟩ := cells1 b1
  obtain ⟨q2, u2⟩ := cells1 b2
  have hsz := hB.size
  have HX := (show Hid _ from hx)
  have HK := (show Hid _ from Kept.of_below hB (RM g rb))
  have HT : Hid (Calls Tryz.prog 160 #[.pointer (some ⟨rb, 0, none⟩), .func (.func 165) #[] #[.pointer (some ⟨w.heap.size, 0, none⟩), .pointer (some ⟨w.heap.size + 1, 0, none⟩), .pointer (some ⟨w.heap.size + 2, 0, none⟩)]] W (RunK N g rb fuel (s.push (.until_ st (f :: fs) e)) W)) := then_any N g rb fuel s W h1 165 [w.heap.size, w.heap.size + 1, w.heap.size + 2] _ hfr
  have HW := (show Hid _ from hW)
  clear hx hs ha hv0 hs1 hst hW hfr
  unfold ptrV
  have hgo : ∀ (W2 : World) (s2 : St), RunAt N g rb fuel s2 W2 → Kept (RM g rb) W W2 → RepF (g.ok N) W2.drew (.iface tv xv) f ∧ RepM g.tb (g.ok N) W2.drew (.pointer p) (.env e) ∧ RunAt N g rb fuel s2 W2.drew := fun W2 s2 hr hk =>
    ⟨hv1.mono (h1.stays hk.drew), ha1.mono (h1.stays hk.drew), hr.drew⟩
  have HG := (show Hid _ from hgo)
  clear hgo
  cases fs with
  | nil =>
    have hx' := HX.out
    simp only [St.until_, Option.some.injEq] at hx'
    subst hx'
    simp only [List.length_nil, Nat.zero_add] at HW q1
    clear HT b1 hn HX
    have HE : Hid (Calls Tryz.prog 110 #[.pointer (some ⟨rb, 0, none⟩), .iface tv xv, .pointer p] W.drew (RunK N g rb fuel (s.eval f e) W.drew)) := by
      obtain ⟨i1, i2, i3⟩ := HG.out W s h1 (Kept.refl _ _)
      exact evaluate_any N g rb fuel s W.drew i3 _ _ f e i1 i2
    go_enter Tryz.func146, Tryz.ntmps146
    go_wp2
    rw [HW.out]
    go_region_held3 (fun X => X.cell? ⟨w.heap.size + 1, 0, none⟩ = some (.slice (some ⟨g0, o, none⟩) 1 cap) ∧ X.cell? ⟨w.heap.size + 2, 0, none⟩ = some (.pointer p) ∧ X.cell? ⟨g0, o, none⟩ = some (.iface tv xv)) (go_keep) (first | (go_at_call 110; refine HE.out.mono ?_; rintro e3 w3 ⟨rfl, hr3, hk3⟩; have z1 := hk3.cell hm1 q1; have z2 := hk3.cell hm2 q2; have z3 := hk3.cell hm0 c0'))
    go_wp2
    go_end0
    exact ⟨rfl, hr3, HK.out.trans (Kept.undrew hk3)⟩
  | cons f2 fs =>
    have hx' := HX.out
    simp only [St.until_, Option.some.injEq] at hx'
    subst hx'
    simp only [List.length_cons] at HW q1 hn
    clear b1 HX
    have j1 : (0 : Int) < (fs.length : Int) + 1 + 1 := by omega
    have j2 : ((0 : Int) < (fs.length : Int) + 1 + 1) = True := by simp; omega
    go_enter Tryz.func146, Tryz.ntmps146
    go_wp2_with (go_at_call 160; rw [HW.out]; refine HT.out.mono ?_; rintro e2 w2 ⟨rfl, hr2, hk2⟩; have y1 := hk2.cell hm1 q1; have y2 := hk2.cell hm2 q2; have y3 := hk2.cell hm0 c0')
    have HE : Hid (Calls Tryz.prog 110 #[.pointer (some ⟨rb, 0, none⟩), .iface tv xv, .pointer p] w2.drew (RunK N g rb fuel ((s.push (.until_ st (f :: f2 :: fs) e)).eval f e) w2.drew)) := by
      obtain ⟨i1, i2, i3⟩ := HG.out w2 _ hr2 hk2
      exact evaluate_any N g rb fuel _ w2.drew i3 _ _ f e i1 i2
    go_region_held3 (fun X => X.cell? ⟨w.heap.size + 1, 0, none⟩ = some (.slice (some ⟨g0, o, none⟩) (fs.length + 1 + 1) cap) ∧ X.cell? ⟨w.heap.size + 2, 0, none⟩ = some (.pointer p) ∧ X.cell? ⟨g0, o, none⟩ = some (.iface tv xv)) (go_keep) (first | (go_at_call 110; refine HE.out.mono ?_; rintro e3 w3 ⟨rfl, hr3, hk3⟩; have z1 := hk3.cell hm1 y1; have z2 := hk3.cell hm2 y2; have z3 := hk3.cell hm0 y3))
    go_wp2
    go_end0
    exact ⟨rfl, hr3, (HK.out.trans hk2).trans (Kept.undrew hk3)⟩
theorem RepM.until_inv {mb : Gt} {ok : Nat → Prop} {w : World} {x : Value} {st : Bool} {fs : List Rd.F} {en : Env} (h : RepM mb ok w x (.fr (.until_ st fs en))) :
    ∃ b0 b1 b2 s at' T0 T1 T2, x = capFn 165 [b0, b1, b2] ∧ ok b0 ∧ ok b1 ∧ ok b2 ∧ w.heap[b0]? = some (.cells #[.bool st] T0 (0, 0)) ∧ w.heap[b1]? = some (.cells #[s] T1 (0, 0)) ∧ w.heap[b2]? = some (.cells #[at'] T2 (0, 0)) ∧ RepFs ok w s fs ∧ RepM mb ok w at' (.env en) := by
  cases h with
  | until_ b0 b1 b2 _ s at' T0 T1 T2 _ _ k0 k1 k2 hh0 hh1 hh2 h1 h2 => exact ⟨b0, b1, b2, s, at', T0, T1, T2, rfl, k0, k1, k2, hh0, hh1, hh2, h1, h2⟩
set_option maxHeartbeats 2000000 in
set_option maxRecDepth 10000 in
theorem goUntil (N : Nat → Prop) (g : Gh) (rb fuel : Nat) (s s' : St) (w : World) (h : RunAt N g rb fuel s w) (x : Value) (v : V) (hv : RepM g.tb (g.ok N) w x (.val v)) (b0 b1 b2 : Nat) (st : Bool) (sl a : Value) (T0 T1 T2 : TypeId) (f : Rd.F) (fs : List Rd.F) (e : Env) (k0 : g.ok N b0) (k1 : g.ok N b1) (k2 : g.ok N b2)
    (hb0 : w.heap[b0]? = some (.cells #[.bool st] T0 (0, 0))) (hb1 : w.heap[b1]? = some (.cells #[sl] T1 (0, 0))) (hb2 : w.heap[b2]? = some (.cells #[a] T2 (0, 0))) (h1 : RepFs (g.ok N) w sl (f :: fs)) (ha : RepM g.tb (g.ok N) w a (.env e)) (hx : (if v.isTrue = st then some (s.give v) else s.until_ st fs e) = some s') :
    Calls Tryz.prog 165 #[ptrV rb, x, ptrV b0, ptrV b1, ptrV b2] w (RunK N g rb fuel s' w) := by
  obtain ⟨p, rfl⟩ := RepM.ptr ha
  obtain ⟨t0, x0, rfl⟩ := RepM.iface hv
  obtain ⟨g0, o, cap, v0, rfl, hn, hcap, hg0, c0, hv0⟩ := h1.first
  have hm0 := RM.ok h k0
  have hm1 := RM.ok h k1
  have hm2 := RM.ok h k2
  obtain ⟨q0, _⟩ := cells1 hb0
  obtain ⟨q1, _⟩ := cells1 hb1
  obtain ⟨q2, _⟩ := cells1 hb2
  have HI : Hid (Calls Tryz.prog 128 #[.iface t0 x0] w.drew fun e w' => e = .returned (.bool v.isTrue) ∧ w' = w.drew) := isTrue_any g.tb (g.ok N) _ v w.drew w hv
  by_cases hb : v.isTrue = st
  · rw [if_pos hb] at hx
    simp only [Option.some.injEq] at hx
    subst hx
    rw [hb] at HI
    have hvd : RepM g.tb (g.ok N) w.drew (.iface t0 x0) (.val v) := hv.mono fun k _ ho => ⟨ho, rfl⟩
    have HG : Hid (Calls Tryz.prog 139 #[.pointer (some ⟨rb, 0, none⟩), .iface t0 x0] w.drew (RunK N g rb fuel (s.give v) w.drew)) := give_any N g rb fuel s w.drew h.drew _ v hvd
    clear h h1 ha hv hb0 hb1 hb2 hv0 hvd hb
    unfold ptrV
    go_enter Tryz.func165, Tryz.ntmps165
    go_wp2
    go_region_held3 (fun X => X.cell? ⟨b0, 0, none⟩ = some (.bool st)) (go_keep) (first | (go_at_call 128; refine HI.out.mono ?_; rintro e1 w1 ⟨rfl, rfl⟩))
    go_wp2_with (first | (go_at_call 139; refine HG.out.mono ?_; rintro e3 w3 ⟨rfl, hr3, hk3⟩))
    go_end0
    exact ⟨rfl, hr3, Kept.undrew hk3⟩
  · rw [if_neg hb] at hx
    cases fs with
    | nil => cases hx
    | cons f2 fs =>
    simp only [List.length_cons] at hn q1
    have ht := h1.tail
    simp only [List.length_cons] at ht
    have HB : Hid (Calls Tryz.prog 146 #[.pointer (some ⟨rb, 0, none⟩), .bool st, .slice (some ⟨g0, o + 1, none⟩) (fs.length + 1) (cap - 1), .pointer p] w.drew.drew (RunK N g rb fuel s' w.drew.drew)) :=
      runUntil_any N g rb fuel s s' w.drew.drew h.drew.drew st _ _ (f2 :: fs) e (ht.mono fun k _ ho => ⟨ho, rfl⟩) (ha.mono fun k _ ho => ⟨ho, rfl⟩) hx
    have hc1 : ¬ cap = 1 := by omega
    have i2 : (1 : Int) ≤ (fs.length : Int) + 1 + 1 := by omega
    have i3 : (fs.length : Int) + 1 + 1 ≤ (cap : Int) := by omega
    have hq : (v.isTrue == st) = false := by simpa using hb
    clear h h1 ha hv hb0 hb1 hb2 ht hx hv0
    unfold ptrV
    go_enter Tryz.func165, Tryz.ntmps165
    go_wp2
    go_region_held3 (fun X => X.cell? ⟨b0, 0, none⟩ = some (.bool st)) (go_keep) (first | (go_at_call 128; refine HI.out.mono ?_; rintro e1 w1 ⟨rfl, rfl⟩))
    go_wp2
    go_region_held3 (fun X => X.cell? ⟨b0, 0, none⟩ = some (.bool st) ∧ X.cell? ⟨b1, 0, none⟩ = some (.slice (some ⟨g0, o, none⟩) (fs.length + 1 + 1) cap) ∧ X.cell? ⟨b2, 0, none⟩ = some (.pointer p)) (go_keep) (first | (go_at_call 146; refine HB.out.mono ?_; rintro e3 w3 ⟨rfl, hr3, hk3⟩; have z0 := hk3.cell hm0 q0; have z1 := hk3.cell hm1 q1; have z2 := hk3.cell hm2 q2))
    go_wp2
    go_end0
    exact ⟨rfl, hr3, Kept.undrew (Kept.undrew hk3)⟩
end Kc
end Go.Proofs.YtodeeegbajgafaaGreatDoor

namespace Go.Proofs.YtodeeegbajgafaaGreatDoor
namespace Kc
open Go.RowKit
theorem find_ix (n : Rd.Sym) : ∀ (G : List (Rd.Sym × V)) (xs : List Nat) (k : Nat) (v : V), xs.length = G.length → find? n G = some v →
    ∃ i, ∃ (hi : i < G.length), ∃ b, xs[i]? = some b ∧ G[i].1 = n ∧ G[i].2 = v ∧ symIx n ((G.map (·.1)).zip (xs.map ptrV)) k = some (k + i, ptrV b) ∧ ∀ v', put n v' G = G.set i (n, v')
  | [], xs, k, v, hl, h => by simp [find?] at h
  | g :: G, xs, k, v, hl, h => by
    cases xs with
    | nil => simp at hl
    | cons x xs =>
    simp only [List.length_cons, Nat.add_right_cancel_iff] at hl
    by_cases hq : g.1 = n
    · simp only [find?, List.find?_cons, hq, beq_self_eq_true, Option.map_some, Option.some.injEq] at h
      refine ⟨0, by simp, x, by simp, by simpa using hq, by simpa using h, ?_, ?_⟩
      · simp [symIx, hq]
      · intro v'; simp [put, hq]
    · have hq1 : (g.1 == n) = false := by simpa using hq
      have hq2 : (n == g.1) = false := by simpa using fun e => hq e.symm
      have h' : find? n G = some v := by
        simp only [find?, List.find?_cons, hq1] at h
        exact h
      obtain ⟨i, hi, b, h1, h2, h3, h4, h5⟩ := find_ix n G xs (k + 1) v hl h'
      refine ⟨i + 1, by simp; omega, b, by simpa using h1, by simpa using h2, by simpa using h3, ?_, ?_⟩
      · simp only [List.map_cons, List.zip_cons_cons, symIx, hq2, Bool.false_eq_true, if_false, h4]
        simp; omega
      · intro v'; simp [put, hq, h5 v']
set_option maxHeartbeats 2000000 in
set_option maxRecDepth 10000 in
theorem find_global (N : Nat → Prop) (g : Gh) (rb fuel : Nat) (s : St) (w : World) (h : RunAt N g rb fuel s w) (n : Rd.Sym) (a : Value) (i b : Nat) (hix : symIx n ((s.G.map (·.1)).zip (g.xs.map ptrV)) 0 = some (i, ptrV b)) :
    Calls Tryz.prog 158 #[ptrV rb, nmV n, a] w fun e w' => e = .returned (ptrV b) ∧ Below w.heap.size w w' := by
  obtain ⟨T, vf, va, vv, vt, vb, hb, hc, ht, hy⟩ := h.blk
  obtain ⟨T2, hm⟩ := h.m.mach
  have hsy := h.m.glob
  have hB : Below w.heap.size w (w.alloc (.cells #[symV n, .bool false, .int .i64 0, .int .i64 0] 178)) := (Below.refl _ w).alloc (Nat.le_refl _) _
  have hlk := lookup_sym (w := (w.alloc (.cells #[symV n, .bool false, .int .i64 0, .int .i64 0] 178)).drew) Tryz.underlying105 zero152 (b := g.db) (S := (s.G.map (·.1)).zip (g.xs.map ptrV)) (by
    obtain ⟨es, c, e1, e2⟩ := hsy
    exact ⟨es, c, at_drew (Below.at hB e1), e2⟩) n
  rw [hix] at hlk
  simp only [Option.map_some, Option.getD_some, ptrV] at hlk
  have c0 := cell_of_at hb 0
  have m0 := cell_of_at hm 0
  simp only [runCells, List.getElem?_toArray, List.getElem?_cons_zero, ptrV] at c0 m0
  have hlt := lt_of_at hb
  have hlm := lt_of_at hm
  clear h hb hm hc ht hy hsy hix
  unfold nmV symV ptrV at *
  go_enter Tryz.func158, Tryz.ntmps158
  go_wp2
  go_region
  all_goals
    go_wp2
    go_ret
    exact ⟨rfl, hB.drew⟩
set_option maxHeartbeats 2000000 in
set_option maxRecDepth 10000 in
theorem find_missing (N : Nat → Prop) (g : Gh) (rb fuel : Nat) (s : St) (w : World) (h : RunAt N g rb fuel s w) (n : Rd.Sym) (a : Value) (hix : symIx n ((s.G.map (·.1)).zip (g.xs.map ptrV)) 0 = none) :
    Calls Tryz.prog 158 #[ptrV rb, nmV n, a] w fun e w' => e = .returned (.pointer none) ∧ Below w.heap.size w w' := by
  obtain ⟨T, vf, va, vv, vt, vb, hb, hc, ht, hy⟩ := h.blk
  obtain ⟨T2, hm⟩ := h.m.mach
  have hsy := h.m.glob
  have hB : Below w.heap.size w (w.alloc (.cells #[symV n, .bool false, .int .i64 0, .int .i64 0] 178)) := (Below.refl _ w).alloc (Nat.le_refl _) _
  have hlk := lookup_sym (w := (w.alloc (.cells #[symV n, .bool false, .int .i64 0, .int .i64 0] 178)).drew) Tryz.underlying105 zero152 (b := g.db) (S := (s.G.map (·.1)).zip (g.xs.map ptrV)) (by
    obtain ⟨es, c, e1, e2⟩ := hsy
    exact ⟨es, c, at_drew (Below.at hB e1), e2⟩) n
  rw [hix] at hlk
  simp only [Option.map_none, Option.getD_none] at hlk
  have c0 := cell_of_at hb 0
  have m0 := cell_of_at hm 0
  simp only [runCells, List.getElem?_toArray, List.getElem?_cons_zero, ptrV] at c0 m0
  have hlt := lt_of_at hb
  have hlm := lt_of_at hm
  clear h hb hm hc ht hy hsy hix
  unfold nmV symV ptrV at *
  go_enter Tryz.func158, Tryz.ntmps158
  go_wp2
  go_region
  all_goals
    go_wp2
    go_ret
    exact ⟨rfl, hB.drew⟩
theorem RepM.env_inv {mb : Gt} {ok : Nat → Prop} {w : World} {x : Value} {id : Nat} {e : Env} (h : RepM mb ok w x (.env (id :: e))) :
    ∃ b s at' T, x = ptrV b ∧ ok b ∧ w.heap[b]? = some (.cells #[s, at'] T (0, 0)) ∧ mb.sp[id]? = some s ∧ RepM mb ok w at' (.env e) := by
  cases h with
  | env1 b _ s at' T _ hb hh h1 h2 => exact ⟨b, s, at', T, rfl, hb, hh, h1, h2⟩
theorem look_some {sc : List (List V)} {e : Env} {up slot : Nat} {v : V} (h : look sc e up slot = some v) : up ≤ 100000 ∧ ∃ id vs, e[up]? = some id ∧ sc[id]? = some vs ∧ vs[slot]? = some v := by
  unfold look at h
  split at h
  · rename_i hup
    split at h
    · rename_i id hid
      split at h
      · rename_i vs hvs
        exact ⟨hup, id, vs, hid, hvs, h⟩
      · cases h
    · cases h
  · cases h
/-- Where a slot lies. -/
theorem MachAt.slot {N : Nat → Prop} {g : Gh} {G : List (Rd.Sym × V)} {sc : List (List V)} {shown : List (List UInt8)} {w : World} (h : MachAt N g G sc shown w) {id slot : Nat} {vs : List V} {v : V} {s : Value} (hs : g.sp[id]? = some s) (hv : sc[id]? = some vs) (hl : vs[slot]? = some v) :
    ∃ ga o cap y, s = .slice (some ⟨ga, o, none⟩) vs.length cap ∧ vs.length ≤ cap ∧ w.cell? ⟨ga, o + slot, none⟩ = some y ∧ RepM g.tb (g.ok N) w y (.val v) ∧ w.frozen? ⟨ga, o + slot, none⟩ = false := by
  obtain ⟨h1, h2⟩ := List.getElem?_eq_some_iff.1 hl
  rcases h.scs.2 id s vs hs hv with ⟨_, rfl⟩ | ⟨ga, o, cap, c, T, vf, rfl, h3, h4, h5, h6, h7⟩
  · simp at h1
  · refine ⟨ga, o, cap, vf slot, rfl, h4, ?_, ?_, free_of_at h3 _⟩
    · rw [cell_of_at h3]; exact h6 slot h1
    · have := h7 slot h1; rw [h2] at this; exact this
set_option maxHeartbeats 2000000 in
set_option maxRecDepth 10000 in
theorem find_local (N : Nat → Prop) (g : Gh) (rb : Nat) (G : List (Rd.Sym × V)) (sc : List (List V)) (shown : List (List UInt8)) (w : World) (hM : MachAt N g G sc shown w) (n : Rd.Sym) (up slot : Nat) (a : Value) (e : Env) (v : V) (ha : RepM g.tb (g.ok N) w a (.env e)) (hl : look sc e up slot = some v) :
    Calls Tryz.prog 158 #[ptrV rb, lcV n up slot, a] w fun r w' => (∃ ga o cap id vs, r = .returned (.pointer (some ⟨ga, o + slot, none⟩)) ∧ e[up]? = some id ∧ sc[id]? = some vs ∧ slot < vs.length ∧ g.sp[id]? = some (.slice (some ⟨ga, o, none⟩) vs.length cap)) ∧ Below w.heap.size w w' := by
  obtain ⟨hup, id, vs, hid, hvs, hsl⟩ := look_some hl
  have hup' : up < e.length := (List.getElem?_eq_some_iff.1 hid).1
  obtain ⟨hs1, hs2⟩ := List.getElem?_eq_some_iff.1 hsl
  have hdr : e.drop up = id :: e.drop (up + 1) := by
    rw [List.drop_eq_getElem_cons hup']
    congr 1
    exact (List.getElem?_eq_some_iff.1 hid).2
  have hB : Below w.heap.size w (w.alloc (.cells #[symV n, .bool true, .int .i64 up, .int .i64 slot] 178)) := (Below.refl _ w).alloc (Nat.le_refl _) _
  have HSL : Hid (∀ s, g.sp[id]? = some s → ∃ ga o cap, s = .slice (some ⟨ga, o, none⟩) vs.length cap ∧ vs.length ≤ cap) := fun s hs => by
    obtain ⟨ga, o, cap, y, h1, h2, _⟩ := hM.slot hs hvs hsl
    exact ⟨ga, o, cap, h1, h2⟩
  have HEX : Hid (∀ ga o cap, g.sp[id]? = some (.slice (some ⟨ga, o, none⟩) vs.length cap) → ∃ ga' o' cap' id' vs', Ending.returned (.pointer (some ⟨ga, o + slot, none⟩)) = .returned (.pointer (some ⟨ga', o' + slot, none⟩)) ∧ e[up]? = some id' ∧ sc[id']? = some vs' ∧ slot < vs'.length ∧ g.sp[id']? = some (.slice (some ⟨ga', o', none⟩) vs'.length cap')) := fun ga o cap h => ⟨ga, o, cap, id, vs, rfl, hid, hvs, hs1, h⟩
  have HD := (show Hid _ from hdr)
  clear hl hid hvs hsl hdr hs2 hM
  obtain ⟨p, rfl⟩ := RepM.ptr ha
  unfold lcV symV ptrV at *
  go_enter Tryz.func158, Tryz.ntmps158
  go_wp2
  go_loopg [2, 22] up (fun k u i wr => ∃ j : Nat, j + k = up ∧ i = .int .i64 j ∧ RepM g.tb (g.ok N) w u (.env (e.drop j)) ∧ wr = w.alloc (.cells #[.string ⟨n.toArray⟩, .bool true, .int .i64 up, .int .i64 slot] 178))
  case atStart => exact ⟨0, by omega, rfl, by simpa using ha, rfl⟩
  case round =>
    obtain ⟨j, hj, rfl, hr, rfl⟩ := hrel
    by_cases hlt : j < up
    · rw [List.drop_eq_getElem_cons (by omega)] at hr
      obtain ⟨b, s, at', T, rfl, hok, hh, _, hr2⟩ := hr.env_inv
      obtain ⟨p2, rfl⟩ := RepM.ptr hr2
      obtain ⟨d0, d1, _, _⟩ := cells2 hh
      have hlb := lt_of_at hh
      clear hr hh
      unfold ptrV
      go_wp2
      go_roundg (gk - 1)
      case measure => omega
      case rel => exact ⟨j + 1, by omega, by go_num, hr2, rfl⟩
    · have hju : j = up := by omega
      subst hju
      rw [HD.out] at hr
      obtain ⟨b, s, at', T, rfl, hok, hh, hspi, _⟩ := hr.env_inv
      obtain ⟨gg, oo, cap, rfl, hn⟩ := HSL.out _ hspi
      have HFIN := (show Hid _ from HEX.out _ _ _ hspi)
      obtain ⟨d0, d1, _, _⟩ := cells2 hh
      have hlb := lt_of_at hh
      have i1 : (0 : Int) ≤ (slot : Int) := by omega
      have i2 : (slot : Int) < (vs.length : Int) := by omega
      clear hr hh hspi HSL HEX
      unfold ptrV
      go_wp2
      go_region
      all_goals
        go_wp2
        go_ret
        exact ⟨HFIN.out, hB.drew⟩
end Kc
end Go.Proofs.YtodeeegbajgafaaGreatDoor

namespace Go.Proofs.YtodeeegbajgafaaGreatDoor
namespace Kc
open Go.RowKit
/-- The box of a name. -/
theorem MachAt.box {N : Nat → Prop} {g : Gh} {G : List (Rd.Sym × V)} {sc : List (List V)} {shown : List (List UInt8)} {w : World} (h : MachAt N g G sc shown w) {n : Rd.Sym} {v : V} (hf : find? n G = some v) :
    ∃ i, ∃ (_ : i < G.length), ∃ b x T, g.xs[i]? = some b ∧ symIx n ((G.map (·.1)).zip (g.xs.map ptrV)) 0 = some (i, ptrV b) ∧ w.heap[b]? = some (.cells #[x] T (0, 0)) ∧ RepM g.tb (g.ok N) w x (.val v) ∧ ∀ v', put n v' G = G.set i (n, v') := by
  obtain ⟨i, hi, b, h1, h2, h3, h4, h5⟩ := find_ix n G g.xs 0 v h.len hf
  obtain ⟨b', x, T, e1, e2, e3⟩ := h.boxes i hi
  rw [h1] at e1
  cases e1
  rw [h3] at e3
  rw [Nat.zero_add] at h4
  exact ⟨i, hi, b, x, T, h1, h4, e2, e3, h5⟩
set_option maxHeartbeats 2000000 in
set_option maxRecDepth 10000 in
theorem look_global (N : Nat → Prop) (g : Gh) (rb fuel : Nat) (s : St) (w : World) (h : RunAt N g rb fuel s w) (n : Rd.Sym) (a : Value) (e : Env) (v : V) (ha : RepM g.tb (g.ok N) w a (.env e)) (hf : find? n s.G = some v) :
    Calls Tryz.prog 140 #[ptrV rb, nmV n, a] w (RunK N g rb fuel (s.give v) w) := by
  obtain ⟨p, rfl⟩ := RepM.ptr ha
  have hB : Below w.heap.size w (w.alloc (.cells #[symV n, .bool false, .int .i64 0, .int .i64 0] 178)) := (Below.refl _ w).alloc (Nat.le_refl _) _
  have h1 := h.below hB
  obtain ⟨i, hi, b, x, T, e1, e2, e3, e4, _⟩ := h.m.box hf
  obtain ⟨tv, xv, rfl⟩ := RepM.iface e4
  have HF : Hid (Calls Tryz.prog 158 #[.pointer (some ⟨rb, 0, none⟩), .agg #[.string ⟨n.toArray⟩, .bool false, .int .i64 0, .int .i64 0], .pointer p] (w.alloc (.cells #[.string ⟨n.toArray⟩, .bool false, .int .i64 0, .int .i64 0] 178)) fun e w' => e = .returned (.pointer (some ⟨b, 0, none⟩)) ∧ Below (w.alloc (.cells #[.string ⟨n.toArray⟩, .bool false, .int .i64 0, .int .i64 0] 178)).heap.size (w.alloc (.cells #[.string ⟨n.toArray⟩, .bool false, .int .i64 0, .int .i64 0] 178)) w') := find_global N g rb fuel s _ h1 n _ i b e2
  have hst : ∀ w2, Below w.heap.size w w2 → Calls Tryz.prog 139 #[.pointer (some ⟨rb, 0, none⟩), .iface tv xv] w2 (RunK N g rb fuel (s.give v) w2) := fun w2 hb => give_any N g rb fuel s w2 (h.below hb) _ v (e4.mono fun k hk ho => ⟨ho, hb.block k hk⟩)
  have HG := (show Hid _ from hst)
  clear h h1 ha e4 hst hf
  unfold nmV symV ptrV at *
  go_enter Tryz.func140, Tryz.ntmps140
  go_wp2_with (first | (go_at_call 158; refine HF.out.mono ?_; rintro e5 w2 ⟨rfl, hb2⟩; have hB2 := hB.trans (hb2.mono hB.size); obtain ⟨q0, _⟩ := cells1 (Below.at hB2 e3)) | (go_at_call 139; refine (HG.out _ hB2).mono ?_; rintro e6 w3 ⟨rfl, hr3, hk3⟩))
  go_end0
  exact ⟨rfl, hr3, (Kept.of_below hB2 _).trans hk3⟩
theorem find_none_ix (n : Rd.Sym) : ∀ (G : List (Rd.Sym × V)) (xs : List Nat) (k : Nat), find? n G = none → symIx n ((G.map (·.1)).zip (xs.map ptrV)) k = none
  | [], xs, k, _ => rfl
  | g :: G, [], k, _ => rfl
  | g :: G, x :: xs, k, h => by
    by_cases hq : g.1 = n
    · simp [find?, hq] at h
    · have hq1 : (g.1 == n) = false := by simpa using hq
      have hq2 : (n == g.1) = false := by simpa using fun e => hq e.symm
      have h' : find? n G = none := by
        simp only [find?, List.find?_cons, hq1] at h
        exact h
      simp only [List.map_cons, List.zip_cons_cons, symIx, hq2, Bool.false_eq_true, if_false]
      exact find_none_ix n G xs (k + 1) h'
set_option maxHeartbeats 2000000 in
set_option maxRecDepth 10000 in
theorem look_missing (N : Nat → Prop) (g : Gh) (rb fuel : Nat) (s : St) (w : World) (h : RunAt N g rb fuel s w) (n : Rd.Sym) (a : Value) (e : Env) (ha : RepM g.tb (g.ok N) w a (.env e)) (hf : find? n s.G = none) :
    Calls Tryz.prog 140 #[ptrV rb, nmV n, a] w (RunK N g rb fuel (s.fail 1) w) := by
  obtain ⟨p, rfl⟩ := RepM.ptr ha
  have hB : Below w.heap.size w (w.alloc (.cells #[symV n, .bool false, .int .i64 0, .int .i64 0] 178)) := (Below.refl _ w).alloc (Nat.le_refl _) _
  have h1 := h.below hB
  have HF : Hid (Calls Tryz.prog 158 #[.pointer (some ⟨rb, 0, none⟩), .agg #[.string ⟨n.toArray⟩, .bool false, .int .i64 0, .int .i64 0], .pointer p] (w.alloc (.cells #[.string ⟨n.toArray⟩, .bool false, .int .i64 0, .int .i64 0] 178)) fun e w' => e = .returned (.pointer none) ∧ Below (w.alloc (.cells #[.string ⟨n.toArray⟩, .bool false, .int .i64 0, .int .i64 0] 178)).heap.size (w.alloc (.cells #[.string ⟨n.toArray⟩, .bool false, .int .i64 0, .int .i64 0] 178)) w') := find_missing N g rb fuel s _ h1 n _ (find_none_ix n s.G g.xs 0 hf)
  have HG : Hid (∀ w2, Below w.heap.size w w2 → Calls Tryz.prog 159 #[.pointer (some ⟨rb, 0, none⟩), .int .i64 1] w2 (RunK N g rb fuel (s.fail 1) w2)) := fun w2 hb => fail_any N g rb fuel s w2 (h.below hb) 1
  clear h h1 ha hf
  unfold nmV symV ptrV at *
  go_enter Tryz.func140, Tryz.ntmps140
  go_wp2_with (first | (go_at_call 158; refine HF.out.mono ?_; rintro e5 w2 ⟨rfl, hb2⟩; have hB2 := hB.trans (hb2.mono hB.size)) | (go_at_call 159; refine (HG.out _ hB2).mono ?_; rintro e6 w3 ⟨rfl, hr3, hk3⟩))
  go_end0
  exact ⟨rfl, hr3, (Kept.of_below hB2 _).trans hk3⟩
set_option maxHeartbeats 2000000 in
set_option maxRecDepth 10000 in
theorem look_local (N : Nat → Prop) (g : Gh) (rb fuel : Nat) (s : St) (w : World) (h : RunAt N g rb fuel s w) (n : Rd.Sym) (up slot : Nat) (a : Value) (e : Env) (v : V) (ha : RepM g.tb (g.ok N) w a (.env e)) (hl : look s.sc e up slot = some v) :
    Calls Tryz.prog 140 #[ptrV rb, lcV n up slot, a] w (RunK N g rb fuel (s.give v) w) := by
  have hB : Below w.heap.size w (w.alloc (.cells #[symV n, .bool true, .int .i64 up, .int .i64 slot] 178)) := (Below.refl _ w).alloc (Nat.le_refl _) _
  have h1 := h.below hB
  have ha1 : RepM g.tb (g.ok N) (w.alloc (.cells #[symV n, .bool true, .int .i64 up, .int .i64 slot] 178)) a (.env e) := ha.mono fun k hk ho => ⟨ho, hB.block k hk⟩
  obtain ⟨p, rfl⟩ := RepM.ptr ha
  have HF := find_local N g rb s.G s.sc s.shown (w.alloc (.cells #[symV n, .bool true, .int .i64 up, .int .i64 slot] 178)) h1.m n up slot _ e v ha1 hl
  have HV : Hid (∀ w2 ga o cap id vs, Below w.heap.size w w2 → e[up]? = some id → s.sc[id]? = some vs → g.sp[id]? = some (.slice (some ⟨ga, o, none⟩) vs.length cap) → ∃ t x, w2.cell? ⟨ga, o + slot, none⟩ = some (.iface t x) ∧ Calls Tryz.prog 139 #[.pointer (some ⟨rb, 0, none⟩), .iface t x] w2 (RunK N g rb fuel (s.give v) w2)) := fun w2 ga o cap id vs hb hid hvs hsp => by
    obtain ⟨_, id', vs', e1, e2, e3⟩ := look_some hl
    rw [e1] at hid
    cases hid
    rw [e2] at hvs
    cases hvs
    obtain ⟨ga', o', cap', y, f1, f2, f3, f4, _⟩ := (h.below hb).m.slot hsp e2 e3
    cases f1
    obtain ⟨t, x, rfl⟩ := RepM.iface f4
    exact ⟨t, x, f3, give_any N g rb fuel s w2 (h.below hb) _ v f4⟩
  unfold lcV symV ptrV at *
  generalize hW : w.alloc (.cells #[.string ⟨n.toArray⟩, .bool true, .int .i64 up, .int .i64 slot] 178) = W at *
  have HW := (show Hid _ from hW)
  clear h h1 ha ha1 hl hW
  go_enter Tryz.func140, Tryz.ntmps140
  go_wp2_with (first | (go_at_call 158; rw [HW.out]; refine HF.mono ?_; rintro e5 w2 ⟨⟨ga, o, cap, id, vs, rfl, f1, f2, f3, f4⟩, hb2⟩; have hB2 := hB.trans (hb2.mono hB.size); obtain ⟨t, x, q0, HG⟩ := HV.out w2 ga o cap id vs hB2 f1 f2 f4; clear f1 f2 f3 f4) | (go_at_call 139; refine HG.mono ?_; rintro e6 w3 ⟨rfl, hr3, hk3⟩))
  go_end0
  exact ⟨rfl, hr3, (Kept.of_below hB2 _).trans hk3⟩
end Kc
end Go.Proofs.YtodeeegbajgafaaGreatDoor

namespace Go.Proofs.YtodeeegbajgafaaGreatDoor
namespace Kc
open Go.RowKit
set_option maxHeartbeats 2000000 in
theorem newClosure_any (N : Nat → Prop) (g : Gh) (w : World) (hnew : ∀ k, w.heap.size ≤ k → g.ok N k) (k : Nat) (sl a : Value) (body : List Rd.F) (e : Env) (hs : RepFs (g.ok N) w sl body) (ha : RepM g.tb (g.ok N) w a (.env e)) :
    Calls Tryz.prog 142 #[.agg #[.int .i64 k, sl], a] w fun r w' => ∃ b, r = .returned (ptrV b) ∧ RepM g.tb (g.ok N) w' (.iface 226 (ptrV b)) (.val (.clo k body e)) ∧ Below w.heap.size w w' := by
  obtain ⟨fa, fc, rfl, _, _⟩ := RepFs.shape hs
  obtain ⟨p, rfl⟩ := RepM.ptr ha
  have hB : Below w.heap.size w ((w.alloc (.cells #[.int .i64 k, .slice (some fa) body.length fc] 214)).alloc (.cells #[.int .i64 k, .int .i64 k, .slice (some fa) body.length fc, .pointer p] 254)) := ((Below.refl _ w).alloc (Nat.le_refl _) _).alloc (by simp) _
  have hR : RepM g.tb (g.ok N) ((w.alloc (.cells #[.int .i64 k, .slice (some fa) body.length fc] 214)).alloc (.cells #[.int .i64 k, .int .i64 k, .slice (some fa) body.length fc, .pointer p] 254)) (.iface 226 (ptrV (w.heap.size + 1))) (.val (.clo k body e)) :=
    .clo (w.heap.size + 1) k _ _ 254 body e (hnew _ (by omega)) (by simpa using at_new (w.alloc (.cells #[.int .i64 k, .slice (some fa) body.length fc] 214)) (.cells #[.int .i64 k, .int .i64 k, .slice (some fa) body.length fc, .pointer p] 254)) (hs.mono fun j hj ho => ⟨ho, hB.block j hj⟩) (ha.mono fun j hj ho => ⟨ho, hB.block j hj⟩)
  clear hs ha
  go_enter Tryz.func142, Tryz.ntmps142
  go_wp2
  go_ret
  exact ⟨_, rfl, hR, hB⟩
set_option maxHeartbeats 2000000 in
theorem newContinuation_any (N : Nat → Prop) (g : Gh) (w : World) (hnew : ∀ k, w.heap.size ≤ k → g.ok N k) (t : Value) (fs : List Fr) (ht : RepM g.tb (g.ok N) w t (.todo fs)) :
    Calls Tryz.prog 167 #[t] w fun r w' => ∃ b, r = .returned (ptrV b) ∧ RepM g.tb (g.ok N) w' (.iface 258 (ptrV b)) (.val (.cont fs)) ∧ Below w.heap.size w w' := by
  obtain ⟨p, rfl⟩ := RepM.ptr' ht
  have hB : Below w.heap.size w (w.alloc (.cells #[.int .i64 1, .int .i64 1, .pointer p] 265)) := (Below.refl _ w).alloc (Nat.le_refl _) _
  have hR : RepM g.tb (g.ok N) (w.alloc (.cells #[.int .i64 1, .int .i64 1, .pointer p] 265)) (.iface 258 (ptrV w.heap.size)) (.val (.cont fs)) :=
    .cont w.heap.size _ 265 fs (hnew _ (Nat.le_refl _)) (at_new w _) (ht.mono fun j hj ho => ⟨ho, hB.block j hj⟩)
  clear ht
  go_enter Tryz.func167, Tryz.ntmps167
  go_wp2
  go_ret
  exact ⟨_, rfl, hR, hB⟩
set_option maxHeartbeats 2000000 in
theorem reset_any' (N : Nat → Prop) (g : Gh) (rb fuel : Nat) (s s' : St) (w : World) (h : RunAt N g rb fuel s w) (sl a : Value) (fs : List Rd.F) (e : Env) (hs : RepFs (g.ok N) w sl fs) (ha : RepM g.tb (g.ok N) w a (.env e)) (hx : ({ s with beyond := s.todo :: s.beyond, todo := [] } : St).body fs e = some s') :
    Calls Tryz.prog 147 #[ptrV rb, .agg #[sl], a] w (RunK N g rb fuel s' w) := by
  obtain ⟨fa, fc, rfl, _, _⟩ := RepFs.shape hs
  obtain ⟨p, rfl⟩ := RepM.ptr ha
  have hB : Below w.heap.size w (w.alloc (.cells #[.slice (some fa) fs.length fc] 183)) := (Below.refl _ w).alloc (Nat.le_refl _) _
  have h1 := h.below hB
  have hm1 : ¬ RM g rb w.heap.size := RM.new h (Nat.le_refl _)
  have hbx := at_new w (.cells #[.slice (some fa) fs.length fc] 183)
  obtain ⟨q0, _⟩ := cells1 hbx
  have hs1 := hs.mono (ok' := g.ok N) (w' := w.alloc (.cells #[.slice (some fa) fs.length fc] 183)) fun j hj ho => ⟨ho, hB.block j hj⟩
  have ha1 := ha.mono (ok' := g.ok N) (w' := w.alloc (.cells #[.slice (some fa) fs.length fc] 183)) fun j hj ho => ⟨ho, hB.block j hj⟩
  have HE : Hid (Calls Tryz.prog 166 #[.pointer (some ⟨rb, 0, none⟩), .pointer none] (w.alloc (.cells #[.slice (some fa) fs.length fc] 183)) (RunK N g rb fuel { s with todo := [], beyond := s.todo :: s.beyond } (w.alloc (.cells #[.slice (some fa) fs.length fc] 183)))) := runEnter_any N g rb fuel s _ h1 _ [] .todo0
  have HBd : Hid (∀ w2, RunAt N g rb fuel { s with todo := [], beyond := s.todo :: s.beyond } w2 → Kept (RM g rb) (w.alloc (.cells #[.slice (some fa) fs.length fc] 183)) w2 → Calls Tryz.prog 143 #[.pointer (some ⟨rb, 0, none⟩), .slice (some fa) fs.length fc, .pointer p] w2 (RunK N g rb fuel s' w2)) :=
    fun w2 hr hk => body_any N g rb fuel _ s' w2 hr _ _ fs e (hs1.mono (h1.stays hk)) (ha1.mono (h1.stays hk)) hx
  clear h h1 hs ha hs1 ha1 hx hbx
  unfold ptrV
  go_enter Tryz.func147, Tryz.ntmps147
  go_wp2_with (first | (go_at_call 166; refine HE.out.mono ?_; rintro e2 w2 ⟨rfl, hr2, hk2⟩; have z0 := hk2.cell hm1 q0) | (go_at_call 143; refine (HBd.out _ hr2 hk2).mono ?_; rintro e3 w3 ⟨rfl, hr3, hk3⟩))
  go_end0
  exact ⟨rfl, hr3, ((Kept.of_below hB _).trans hk2).trans hk3⟩
end Kc
end Go.Proofs.YtodeeegbajgafaaGreatDoor

namespace Go.Proofs.YtodeeegbajgafaaGreatDoor
namespace Kc
open Go.RowKit
theorem RunAt.todoNil {N : Nat → Prop} {g : Gh} {rb fuel : Nat} {s : St} {w : World} (h : RunAt N g rb fuel s w) : RunAt N g rb fuel { s with todo := [] } (w.setCell ⟨rb, 6, none⟩ (.pointer none)) := by
  obtain ⟨T, vf, va, vv, vt, vb, hb, hc, ht, hy⟩ := h.blk
  have hne : ∀ k, g.ok N k → k ≠ rb := fun k hk e => hk.1 (e ▸ h.inN)
  have hw : ∀ k, k ≠ rb → (w.setCell ⟨rb, 6, none⟩ (.pointer none)).heap[k]? = w.heap[k]? := fun k hk => by rw [Below.heap_setCell _ _ _ _ hk]
  have hst : ∀ k, k < w.heap.size → g.ok N k → g.ok N k ∧ (w.setCell ⟨rb, 6, none⟩ (.pointer none)).heap[k]? = w.heap[k]? := fun k _ ho => ⟨ho, hw k (hne k ho)⟩
  refine h.upd (by simp) (fun k _ hk => hw k hk) ⟨rfl, rfl⟩ ⟨T, vf, va, vv, .pointer none, vb, ?_, hc.mono hst, .todo0, hy.mono hst⟩ h.bound.1
  rw [at_setCell hb 6 _]
  simp [runCells]
end Kc
end Go.Proofs.YtodeeegbajgafaaGreatDoor

namespace Go.Proofs.YtodeeegbajgafaaGreatDoor
namespace Kc
open Go.RowKit
def Gh.more (g : Gh) (b : Nat) : Gh := { g with xs := g.xs ++ [b] }
theorem Gh.more_mut {g : Gh} {b k : Nat} : (g.more b).mut k ↔ g.mut k ∨ k = b := by
  simp only [Gh.mut, Gh.more, List.mem_append, List.mem_singleton]
  constructor
  · rintro (h | h | (h | h) | h | h)
    · exact Or.inl (Or.inl h)
    · exact Or.inl (Or.inr (Or.inl h))
    · exact Or.inl (Or.inr (Or.inr (Or.inl h)))
    · exact Or.inr h
    · exact Or.inl (Or.inr (Or.inr (Or.inr (Or.inl h))))
    · exact Or.inl (Or.inr (Or.inr (Or.inr (Or.inr h))))
  · rintro ((h | h | h | h | h) | h)
    · exact Or.inl h
    · exact Or.inr (Or.inl h)
    · exact Or.inr (Or.inr (Or.inl (Or.inl h)))
    · exact Or.inr (Or.inr (Or.inr (Or.inl h)))
    · exact Or.inr (Or.inr (Or.inr (Or.inr h)))
    · exact Or.inr (Or.inr (Or.inl (Or.inr h)))
/-- What is below stays ok when a box is made. -/
theorem Gh.more_ok {g : Gh} {N : Nat → Prop} {b k : Nat} (h : g.ok N k) (hk : k < b) : (g.more b).ok N k :=
  ⟨h.1, fun e => by rcases Gh.more_mut.1 e with e | e; exact h.2 e; omega⟩
theorem MachAt.define {N : Nat → Prop} {g : Gh} {G : List (Rd.Sym × V)} {sc : List (List V)} {shown : List (List UInt8)} {w : World} (h : MachAt N g G sc shown w) (n : Rd.Sym) (x : Value) (v : V) (hx : RepM g.tb (g.ok N) w x (.val v)) (es : Array MapEntry) (c : Nat) (hes : w.heap[g.db]? = some (.map es c)) (hkv : kvs es.toList = ((G.map (·.1)).zip (g.xs.map ptrV)).map symKV) :
    MachAt N (g.more w.heap.size) (G ++ [(n, v)]) sc shown (defined w g.db es c n x) := by
  have hmut := Gh.low h
  have hkeep : ∀ k, k < w.heap.size → g.ok N k → (g.more w.heap.size).ok N k ∧ (defined w g.db es c n x).heap[k]? = w.heap[k]? := fun k hk ho => ⟨Gh.more_ok ho hk, defined_at hk (fun e => ho.2 (Or.inr (Or.inl e)))⟩
  have hdb : g.db < w.heap.size := lt_of_at hes
  have hnew : (defined w g.db es c n x).heap[w.heap.size]? = some (.cells #[x] 60 (0, 0)) := by
    unfold defined
    rw [putObj_ne _ _ _ _ (by omega)]
    exact at_new w _
  have hnx : ∀ k, k ∈ g.xs → k < w.heap.size := fun k hk => hmut k (Or.inr (Or.inr (Or.inl hk)))
  obtain ⟨T, hm⟩ := h.mach
  have hmb := lt_of_at hm
  refine ⟨⟨T, (defined_at hmb h.apart.1).trans hm⟩, ?_, by simp [Gh.more, h.len], ?_, ?_, ?_, ?_, ?_, ?_, ?_, ?_⟩
  · have := SymsAt.push (w := w.alloc (.cells #[x] 60)) (at_alloc hes _) hkv n (.pointer (some ⟨w.heap.size, 0, none⟩)) (c + 1)
    have e : ((G ++ [(n, v)]).map (·.1)).zip ((g.more w.heap.size).xs.map ptrV) = (G.map (·.1)).zip (g.xs.map ptrV) ++ [(n, ptrV w.heap.size)] := by
      simp only [Gh.more, List.map_append, List.map_cons, List.map_nil]
      rw [List.zip_append (by simp [h.len])]
      rfl
    rw [e]
    exact this
  · intro i hi
    simp only [List.length_append, List.length_cons, List.length_nil] at hi
    by_cases hlt : i < G.length
    · obtain ⟨b, y, T, e1, e2, e3⟩ := h.boxes i hlt
      have hbx : b ∈ g.xs := List.mem_of_getElem? e1
      refine ⟨b, y, T, ?_, (defined_at (lt_of_at e2) (fun e => h.apart.2.2.1 (by rw [← e]; exact hbx))).trans e2, ?_⟩
      · rw [← e1]; exact List.getElem?_append_left (by rw [h.len]; exact hlt)
      · rw [List.getElem_append_left hlt]; exact e3.mono hkeep
    · have : i = G.length := by omega
      subst this
      refine ⟨w.heap.size, x, 60, ?_, hnew, ?_⟩
      · simp [Gh.more, ← h.len]
      · have hx' := hx.mono hkeep
        have e : (G ++ [(n, v)])[G.length].2 = v := by simp
        rw [e]
        exact hx'
  · obtain ⟨B, hB⟩ := h.own
    refine ⟨B, ?_⟩
    obtain ⟨a, b | ⟨gb, cap, cur, hv, hB, hh, r⟩⟩ := hB
    · exact ⟨a, Or.inl b⟩
    · refine ⟨a, Or.inr ⟨gb, cap, cur, hv, hB, (defined_at (lt_of_at hh) ?_).trans hh, r⟩⟩
      exact (h.apart' gb (by rw [hv]; rfl)).2.1
  · refine ⟨h.apart.1, ?_, ?_, ?_⟩
    · simp only [Gh.more, List.mem_append, List.mem_singleton, not_or]
      exact ⟨h.apart.2.1, by omega⟩
    · simp only [Gh.more, List.mem_append, List.mem_singleton, not_or]
      exact ⟨h.apart.2.2.1, by omega⟩
    · simp only [Gh.more]
      rw [List.nodup_append]
      refine ⟨h.apart.2.2.2, by simp, ?_⟩
      intro a ha b hb
      simp only [List.mem_singleton] at hb
      have := hnx a ha
      omega
  · intro k hk
    obtain ⟨h1, h2, h3⟩ := h.apart' k hk
    have := hmut k (Or.inr (Or.inr (Or.inr (Or.inl hk))))
    refine ⟨h1, h2, ?_⟩
    simp only [Gh.more, List.mem_append, List.mem_singleton, not_or]
    exact ⟨h3, by omega⟩
  · refine ⟨h.scs.1, fun i s vs e1 e2 => ?_⟩
    refine (h.scs.2 i s vs e1 e2).mono rfl (fun _ _ h => h) (fun k hk => ?_) hkeep
    exact defined_at (hmut k (Or.inr (Or.inr (Or.inr (Or.inr ⟨s, List.mem_of_getElem? e1, hk⟩))))) (h.apartS i s k e1 hk).2.1
  · intro i s k e1 hk
    obtain ⟨h1, h2, h3, h4, h5⟩ := h.apartS i s k e1 hk
    have := hmut k (Or.inr (Or.inr (Or.inr (Or.inr ⟨s, List.mem_of_getElem? e1, hk⟩))))
    refine ⟨h1, h2, ?_, h4, h5⟩
    simp only [Gh.more, List.mem_append, List.mem_singleton, not_or]
    exact ⟨h3, by omega⟩
  · intro k hk
    have := h.low k hk
    have hs : (defined w g.db es c n x).heap.size = w.heap.size + 1 := by simp [defined, putObj]
    omega
  · intro k hk hN
    rcases Gh.more_mut.1 hk with e | e
    · exact h.disj k e hN
    · have := h.low k hN; omega
end Kc
end Go.Proofs.YtodeeegbajgafaaGreatDoor

namespace Go.Proofs.YtodeeegbajgafaaGreatDoor
namespace Kc
open Go.RowKit
/-- Where the machine lies later: what changes of it is new or did before. -/
structure Gh.Next (w : World) (g g' : Gh) : Prop where
  mb : g'.mb = g.mb
  db : g'.db = g.db
  sp : ∀ (i : Nat) (s : Value), g.sp[i]? = some s → g'.sp[i]? = some s
  mt : ∀ k, g'.mut k → k < w.heap.size → g.mut k
theorem Gh.Next.refl (w : World) (g : Gh) : Gh.Next w g g := ⟨rfl, rfl, fun _ _ h => h, fun _ h _ => h⟩
theorem Gh.Next.ok {w : World} {g g' : Gh} {N : Nat → Prop} (h : Gh.Next w g g') {k : Nat} (hk : k < w.heap.size) (ho : g.ok N k) : g'.ok N k := ⟨ho.1, fun e => ho.2 (h.mt k e hk)⟩
theorem Gh.Next.rm {w : World} {g g' : Gh} {rb : Nat} (h : Gh.Next w g g') : ∀ k, k < w.heap.size → RM g' rb k → RM g rb k := fun k hk e => by
  rcases e with e | e
  · exact Or.inl e
  · exact Or.inr (h.mt k e hk)
/-- The run goes on so. -/
def RunC (N : Nat → Prop) (g : Gh) (rb fuel : Nat) (s' : St) (w : World) : Ending → World → Prop := fun e w' => e = .returned (.tuple #[]) ∧ ∃ g', Gh.Next w g g' ∧ RunAt N g' rb fuel s' w' ∧ Kept (RM g rb) w w'
theorem RunK.c {N : Nat → Prop} {g : Gh} {rb fuel : Nat} {s' : St} {w : World} {e : Ending} {w' : World} (h : RunK N g rb fuel s' w e w') : RunC N g rb fuel s' w e w' := ⟨h.1, g, Gh.Next.refl _ _, h.2.1, h.2.2⟩
theorem nodup_set {l : List Nat} (h : l.Nodup) {i a : Nat} (ha : a ∉ l) : (l.set i a).Nodup := by
  rw [List.nodup_iff_pairwise_ne] at *
  rw [List.pairwise_iff_getElem] at *
  intro j k hj hk hjk
  simp only [List.length_set] at hj hk
  rw [List.getElem_set, List.getElem_set]
  split
  · split
    · omega
    · exact fun e => ha (e ▸ List.getElem_mem _)
  · split
    · exact fun e => ha (e ▸ List.getElem_mem _)
    · exact h j k hj hk hjk
theorem symIx_get (n : List UInt8) : ∀ (S : List (List UInt8 × Value)) (k i : Nat) (v : Value), symIx n S k = some (i, v) → k ≤ i ∧ S[i - k]? = some (n, v)
  | [], k, i, v, h => by simp [symIx] at h
  | x :: S, k, i, v, h => by
    rw [symIx] at h
    split at h
    · rename_i hq
      simp only [Option.some.injEq, Prod.mk.injEq] at h
      obtain ⟨rfl, rfl⟩ := h
      have : n = x.1 := by simpa using hq
      subst this
      simp
    · obtain ⟨h1, h2⟩ := symIx_get n S (k + 1) i v h
      refine ⟨by omega, ?_⟩
      rw [show i - k = (i - (k + 1)) + 1 by omega]
      simpa using h2
theorem update_old {T E : TypeId} (hT : Tryz.prog.underlying T = some (.map 115 E)) {b : Nat} {es : Array MapEntry} {clock : Nat} {S : List (List UInt8 × Value)} {w : World} (hb : w.heap[b]? = some (.map es clock)) (hk : kvs es.toList = S.map symKV) (n : List UInt8) (v : Value) {i : Nat} {u : Value} (hn : symIx n S 0 = some (i, u)) :
    (Instr.mapUpdate T (.map (some b)) (.string ⟨n.toArray⟩) v).run Tryz.prog w = .ok () (putObj w b (.map (es.modify i fun e => { e with key := .string ⟨n.toArray⟩, val := v }) clock)) := by
  have hf := find_sym n w es.toList S hk
  rw [hn] at hf
  have hc := check_sym false ⟨n.toArray⟩ w
  have hg : (getObj b).run Tryz.prog w = .ok (.map es clock) w := by simp [getObj, Sem.run, hb]
  have hs : ∀ o, (setObj b o).run Tryz.prog w = .ok () (putObj w b o) := fun o => by simp [setObj, Sem.run, hb, putObj]
  obtain ⟨_, hget⟩ := symIx_get n S 0 i u hn
  have hkey : ((es[i]?).map (·.key)).getD (.string ⟨n.toArray⟩) = .string ⟨n.toArray⟩ := by
    have h1 : (kvs es.toList)[i]? = (S.map symKV)[i]? := by rw [hk]
    simp only [kvs, List.getElem?_map, Array.getElem?_toList] at h1
    rw [Nat.sub_zero] at hget
    rw [hget] at h1
    cases he : es[i]? with
    | none => rfl
    | some e =>
      rw [he] at h1
      simp only [Option.map_some, symKV, Option.some.injEq, Prod.mk.injEq] at h1
      simp [h1.1]
  have hst : (Instr.keyThatStays (((es[i]?).map (·.key)).getD (.string ⟨n.toArray⟩)) (.string ⟨n.toArray⟩)).run Tryz.prog w = .ok (.string ⟨n.toArray⟩) w := by
    rw [hkey]
    have hq : ((⟨n.toArray⟩ : ByteArray) == ⟨n.toArray⟩) = true := by rw [bytes_beq]; simp
    simp [Instr.keyThatStays, Instr.sameBits, hq]
  simp [Instr.mapUpdate, run_underlying hT, hg, hc, hf, hs, hst]
theorem kvs_modify (n : List UInt8) (p : Value) : ∀ (es : List MapEntry) (S : List (List UInt8 × Value)) (i : Nat), kvs es = S.map symKV → kvs (es.modify i fun e => { e with key := .string ⟨n.toArray⟩, val := p }) = (S.set i (n, p)).map symKV
  | [], S, i, h => by
    cases S with
    | nil => simp [kvs]
    | cons x S => simp [kvs] at h
  | e :: es, S, i, h => by
    cases S with
    | nil => simp [kvs] at h
    | cons x S =>
      simp only [kvs, List.map_cons, List.cons.injEq] at h
      obtain ⟨h1, h2⟩ := h
      cases i with
      | zero => simp only [List.modify_zero_cons, kvs, List.map_cons, List.set_cons_zero, h2]; rfl
      | succ i =>
        have := kvs_modify n p es S i h2
        simp only [List.modify_succ_cons, kvs, List.map_cons, List.set_cons_succ, h1, List.cons.injEq, true_and]
        exact this
/-- The world behind another definition of a name. -/
def redefd (w : World) (db : Nat) (es : Array MapEntry) (c i : Nat) (n : Rd.Sym) (x : Value) : World :=
  putObj (w.alloc (.cells #[x] 60)) db (.map (es.modify i fun e => { e with key := .string ⟨n.toArray⟩, val := .pointer (some ⟨w.heap.size, 0, none⟩) }) c)
theorem redefd_at {w : World} {db : Nat} {es : Array MapEntry} {c i : Nat} {n : Rd.Sym} {x : Value} {k : Nat} (hk : k < w.heap.size) (hd : k ≠ db) : (redefd w db es c i n x).heap[k]? = w.heap[k]? := by
  unfold redefd
  rw [putObj_ne _ _ _ _ hd, Below.heap_alloc _ _ _ hk]
def Gh.anew (g : Gh) (i b : Nat) : Gh := { g with xs := g.xs.set i b }
theorem Gh.anew_mut {g : Gh} {i b k : Nat} (h : (g.anew i b).mut k) : g.mut k ∨ k = b := by
  rcases h with h | h | h | h | h
  · exact Or.inl (Or.inl h)
  · exact Or.inl (Or.inr (Or.inl h))
  · rcases List.mem_or_eq_of_mem_set h with h | h
    · exact Or.inl (Or.inr (Or.inr (Or.inl h)))
    · exact Or.inr h
  · exact Or.inl (Or.inr (Or.inr (Or.inr (Or.inl h))))
  · exact Or.inl (Or.inr (Or.inr (Or.inr (Or.inr h))))
theorem Gh.anew_ok {g : Gh} {N : Nat → Prop} {i b k : Nat} (h : g.ok N k) (hk : k < b) : (g.anew i b).ok N k := ⟨h.1, fun e => by rcases Gh.anew_mut e with e | e; exact h.2 e; omega⟩
theorem zip_set {α β : Type} : ∀ (xs : List α) (ys : List β) (i : Nat) (a : α) (b : β), xs[i]? = some a → xs.zip (ys.set i b) = (xs.zip ys).set i (a, b)
  | [], ys, i, a, b, h => by simp at h
  | x :: xs, [], i, a, b, h => by simp
  | x :: xs, y :: ys, 0, a, b, h => by simp at h; simp [h]
  | x :: xs, y :: ys, i + 1, a, b, h => by
    simp only [List.getElem?_cons_succ] at h
    simp [zip_set xs ys i a b h]
theorem MachAt.redefine {N : Nat → Prop} {g : Gh} {G : List (Rd.Sym × V)} {sc : List (List V)} {shown : List (List UInt8)} {w : World} (h : MachAt N g G sc shown w) {i : Nat} (hi : i < G.length) {n : Rd.Sym} (hn : G[i].1 = n) (x : Value) (v : V) (hx : RepM g.tb (g.ok N) w x (.val v)) (es : Array MapEntry) (c : Nat) (hes : w.heap[g.db]? = some (.map es c)) (hkv : kvs es.toList = ((G.map (·.1)).zip (g.xs.map ptrV)).map symKV) :
    MachAt N (g.anew i w.heap.size) (G.set i (n, v)) sc shown (redefd w g.db es c i n x) := by
  have hmut := Gh.low h
  have hkeep : ∀ k, k < w.heap.size → g.ok N k → (g.anew i w.heap.size).ok N k ∧ (redefd w g.db es c i n x).heap[k]? = w.heap[k]? := fun k hk ho => ⟨Gh.anew_ok ho hk, redefd_at hk (fun e => ho.2 (Or.inr (Or.inl e)))⟩
  have hdb : g.db < w.heap.size := lt_of_at hes
  have hnew : (redefd w g.db es c i n x).heap[w.heap.size]? = some (.cells #[x] 60 (0, 0)) := by
    unfold redefd
    rw [putObj_ne _ _ _ _ (by omega)]
    exact at_new w _
  have hnx : ∀ k, k ∈ g.xs → k < w.heap.size := fun k hk => hmut k (Or.inr (Or.inr (Or.inl hk)))
  have hmem : ∀ k, k ∈ g.xs.set i w.heap.size → k ∈ g.xs ∨ k = w.heap.size := fun k hk => List.mem_or_eq_of_mem_set hk
  have hnm : (G.set i (n, v)).map (·.1) = G.map (·.1) := by
    rw [List.map_set]
    apply List.ext_getElem (by simp)
    intro j h1 h2
    by_cases e : i = j
    · subst e; simp [hn]
    · simp [List.getElem_set_ne e]
  obtain ⟨T, hm⟩ := h.mach
  have hmb := lt_of_at hm
  refine ⟨⟨T, (redefd_at hmb h.apart.1).trans hm⟩, ?_, by simp [Gh.anew, h.len], ?_, ?_, ?_, ?_, ?_, ?_, ?_, ?_⟩
  · rw [hnm]
    refine ⟨_, c, putObj_at _ (at_alloc hes _), ?_⟩
    have hz : (G.map (·.1)).zip ((g.anew i w.heap.size).xs.map ptrV) = ((G.map (·.1)).zip (g.xs.map ptrV)).set i (n, ptrV w.heap.size) := by
      simp only [Gh.anew, List.map_set]
      exact zip_set _ _ _ _ _ (by simp [hi, hn])
    rw [hz, Array.toList_modify]
    exact kvs_modify n _ _ _ i hkv
  · intro j hj
    simp only [List.length_set] at hj
    by_cases e : i = j
    · subst e
      refine ⟨w.heap.size, x, 60, ?_, hnew, ?_⟩
      · simp [Gh.anew, h.len, hi]
      · have hx' := hx.mono hkeep
        have e : (G.set i (n, v))[i].2 = v := by simp
        rw [e]
        exact hx'
    · obtain ⟨b, y, T, e1, e2, e3⟩ := h.boxes j hj
      have hbx : b ∈ g.xs := List.mem_of_getElem? e1
      refine ⟨b, y, T, ?_, (redefd_at (lt_of_at e2) (fun e => h.apart.2.2.1 (by rw [← e]; exact hbx))).trans e2, ?_⟩
      · simp only [Gh.anew]; rw [List.getElem?_set_ne e]; exact e1
      · rw [List.getElem_set_ne e]; exact e3.mono hkeep
  · obtain ⟨B, hB⟩ := h.own
    refine ⟨B, ?_⟩
    obtain ⟨a, b | ⟨gb, cap, cur, hv, hB, hh, r⟩⟩ := hB
    · exact ⟨a, Or.inl b⟩
    · refine ⟨a, Or.inr ⟨gb, cap, cur, hv, hB, (redefd_at (lt_of_at hh) ?_).trans hh, r⟩⟩
      exact (h.apart' gb (by rw [hv]; rfl)).2.1
  · refine ⟨h.apart.1, fun hk => ?_, fun hk => ?_, ?_⟩
    · rcases hmem _ hk with e | e
      · exact h.apart.2.1 e
      · have e' : g.mb = w.heap.size := e
        omega
    · rcases hmem _ hk with e | e
      · exact h.apart.2.2.1 e
      · have e' : g.db = w.heap.size := e
        omega
    · exact nodup_set h.apart.2.2.2 (fun hk => by have := hnx _ hk; omega)
  · intro k hk
    obtain ⟨h1, h2, h3⟩ := h.apart' k hk
    have := hmut k (Or.inr (Or.inr (Or.inr (Or.inl hk))))
    refine ⟨h1, h2, fun hk => ?_⟩
    rcases hmem _ hk with e | e
    · exact h3 e
    · omega
  · refine ⟨h.scs.1, fun j s vs e1 e2 => ?_⟩
    refine (h.scs.2 j s vs e1 e2).mono rfl (fun _ _ h => h) (fun k hk => ?_) hkeep
    exact redefd_at (hmut k (Or.inr (Or.inr (Or.inr (Or.inr ⟨s, List.mem_of_getElem? e1, hk⟩))))) (h.apartS j s k e1 hk).2.1
  · intro j s k e1 hk
    obtain ⟨h1, h2, h3, h4, h5⟩ := h.apartS j s k e1 hk
    have := hmut k (Or.inr (Or.inr (Or.inr (Or.inr ⟨s, List.mem_of_getElem? e1, hk⟩))))
    refine ⟨h1, h2, fun hk => ?_, h4, h5⟩
    rcases hmem _ hk with e | e
    · exact h3 e
    · omega
  · intro k hk
    have := h.low k hk
    have hs : (redefd w g.db es c i n x).heap.size = w.heap.size + 1 := by simp [redefd, putObj]
    omega
  · intro k hk hN
    rcases Gh.anew_mut hk with e | e
    · exact h.disj k e hN
    · have := h.low k hN; omega
/-- What a definition does. -/
structure Defd (N : Nat → Prop) (g g' : Gh) (G : List (Rd.Sym × V)) (sc : List (List V)) (shown : List (List UInt8)) (w w' : World) : Prop where
  m : MachAt N g' G sc shown w'
  mb : g'.mb = g.mb
  db : g'.db = g.db
  sp : g'.sp = g.sp
  mt : ∀ k, g'.mut k → k < w.heap.size → g.mut k
  kept : Kept (· = g.db) w w'
theorem Defd.tb {N : Nat → Prop} {g g' : Gh} {G : List (Rd.Sym × V)} {sc : List (List V)} {shown : List (List UInt8)} {w w' : World} (h : Defd N g g' G sc shown w w') : g'.tb = g.tb := by
  unfold Gh.tb
  rw [h.mb, h.sp]
theorem find_isSome_none {n : Rd.Sym} {G : List (Rd.Sym × V)} (h : (find? n G).isSome = false) : find? n G = none := by
  cases hf : find? n G with
  | none => rfl
  | some v => rw [hf] at h; cases h
set_option maxHeartbeats 2000000 in
set_option maxRecDepth 10000 in
theorem define40 (N : Nat → Prop) (g : Gh) (G : List (Rd.Sym × V)) (sc : List (List V)) (shown : List (List UInt8)) (w : World) (h : MachAt N g G sc shown w) (n : Rd.Sym) (x : Value) (v : V) (hx : RepM g.tb (g.ok N) w x (.val v)) :
    Calls Tryz.prog 40 #[ptrV g.mb, symV n, x] w fun e w' => e = .returned (.tuple #[]) ∧ ∃ g', Defd N g g' (defG n v G) sc shown w w' := by
  obtain ⟨es, c, hes, hkv⟩ := id h.glob
  obtain ⟨tv, xv, rfl⟩ := RepM.iface hx
  obtain ⟨T, hm⟩ := h.mach
  have m0 := cell_of_at hm 0
  simp only [List.getElem?_toArray, List.getElem?_cons_zero] at m0
  have hlm := lt_of_at hm
  cases hn : (find? n G).isSome with
  | false =>
    have hn' := find_isSome_none hn
    have hup := update_sym Tryz.underlying105 (w := w.alloc (.cells #[.iface tv xv] 60)) (at_alloc hes _) hkv n (.pointer (some ⟨w.heap.size, 0, none⟩)) (find_none_ix n G g.xs 0 hn')
    have hres : ∃ g', Defd N g g' (defG n v G) sc shown w (putObj (w.alloc (.cells #[.iface tv xv] 60)) g.db (.map (es.push { key := .string ⟨n.toArray⟩, val := .pointer (some ⟨w.heap.size, 0, none⟩), born := c }) (c + 1))) := by
      refine ⟨g.more w.heap.size, ?_, rfl, rfl, rfl, fun k hk hl => ?_, ?_⟩
      · rw [defG, hn]
        exact h.define n _ v hx es c hes hkv
      · rcases Gh.more_mut.1 hk with e | e
        · exact e
        · omega
      · exact ((Kept.refl _ w).alloc _).trans (putObj_kept _ _ _)
    generalize hW : putObj (w.alloc (.cells #[.iface tv xv] 60)) g.db (.map (es.push { key := .string ⟨n.toArray⟩, val := .pointer (some ⟨w.heap.size, 0, none⟩), born := c }) (c + 1)) = W at *
    clear h hx hm hes hkv hW hn hn'
    unfold symV ptrV
    go_enter Tryz.func40, Tryz.ntmps40
    go_wp2
    go_end0
    exact ⟨rfl, hres⟩
  | true =>
    obtain ⟨u, hu⟩ := Option.isSome_iff_exists.1 hn
    obtain ⟨i, hi, b, f1, f2, f3, f4, f5⟩ := find_ix n G g.xs 0 u h.len hu
    rw [Nat.zero_add] at f4
    have hup := update_old Tryz.underlying105 (w := w.alloc (.cells #[.iface tv xv] 60)) (at_alloc hes _) hkv n (.pointer (some ⟨w.heap.size, 0, none⟩)) f4
    have hres : ∃ g', Defd N g g' (defG n v G) sc shown w (putObj (w.alloc (.cells #[.iface tv xv] 60)) g.db (.map (es.modify i fun e => { e with key := .string ⟨n.toArray⟩, val := .pointer (some ⟨w.heap.size, 0, none⟩) }) c)) := by
      refine ⟨g.anew i w.heap.size, ?_, rfl, rfl, rfl, fun k hk hl => ?_, ?_⟩
      · rw [defG, hn, if_pos rfl, f5 v]
        exact h.redefine hi f2 _ v hx es c hes hkv
      · rcases Gh.anew_mut hk with e | e
        · exact e
        · omega
      · exact ((Kept.refl _ w).alloc _).trans (putObj_kept _ _ _)
    generalize hW : putObj (w.alloc (.cells #[.iface tv xv] 60)) g.db (.map (es.modify i fun e => { e with key := .string ⟨n.toArray⟩, val := .pointer (some ⟨w.heap.size, 0, none⟩) }) c) = W at *
    clear h hx hm hes hkv hW hn hu f1 f2 f3 f4 f5
    unfold symV ptrV
    go_enter Tryz.func40, Tryz.ntmps40
    go_wp2
    go_end0
    exact ⟨rfl, hres⟩
theorem RunAt.defd {N : Nat → Prop} {g g' : Gh} {rb fuel : Nat} {s : St} {w w' : World} (h : RunAt N g rb fuel s w) {G : List (Rd.Sym × V)} (hd : Defd N g g' G s.sc s.shown w w') : RunAt N g' rb fuel { s with G := G } w' := by
  have hkeep : ∀ k, k < w.heap.size → g.ok N k → g'.ok N k ∧ w'.heap[k]? = w.heap[k]? := fun k hk ho => ⟨⟨ho.1, fun e => ho.2 (hd.mt k e hk)⟩, hd.kept.block k hk (fun e => ho.2 (Or.inr (Or.inl e)))⟩
  obtain ⟨T, vf, va, vv, vt, vb, hb, hc, ht, hy⟩ := h.blk
  refine ⟨h.inN, hd.m, ⟨T, vf, va, vv, vt, vb, ?_, ?_, ?_, ?_⟩, h.bound⟩
  · rw [hd.mb]
    exact (hd.kept.block rb (lt_of_at hb) (fun e => h.m.disj g.db (Or.inr (Or.inl rfl)) (e ▸ h.inN))).trans hb
  · rw [hd.tb]; exact hc.mono hkeep
  · rw [hd.tb]; exact ht.mono hkeep
  · rw [hd.tb]; exact hy.mono hkeep
theorem Defd.next {N : Nat → Prop} {g g' : Gh} {G : List (Rd.Sym × V)} {sc : List (List V)} {shown : List (List UInt8)} {w w' : World} (h : Defd N g g' G sc shown w w') : Gh.Next w g g' := ⟨h.mb, h.db, fun i s e => by rw [h.sp]; exact e, h.mt⟩
theorem RepM.define_inv {mb : Gt} {ok : Nat → Prop} {w : World} {x : Value} {n : Rd.Sym} (h : RepM mb ok w x (.fr (.define n))) :
    ∃ b1 y T1, x = capFn 168 [b1] ∧ ok b1 ∧ w.heap[b1]? = some (.cells #[symV n, y] T1 (0, 0)) := by
  cases h with
  | define b1 y T1 _ k1 hh1 => exact ⟨b1, y, T1, rfl, k1, hh1⟩
set_option maxHeartbeats 2000000 in
set_option maxRecDepth 10000 in
theorem goDefine (N : Nat → Prop) (g : Gh) (rb fuel : Nat) (s : St) (w : World) (h : RunAt N g rb fuel s w) (x : Value) (v : V) (hv : RepM g.tb (g.ok N) w x (.val v)) (b1 : Nat) (y : Value) (T1 : TypeId) (n : Rd.Sym) (k1 : g.ok N b1) (hb1 : w.heap[b1]? = some (.cells #[symV n, y] T1 (0, 0))) :
    Calls Tryz.prog 168 #[ptrV rb, x, ptrV b1] w (RunC N g rb fuel ({ s with G := defG n v s.G }.give (.atom (.sym n))) w) := by
  have hvd : RepM g.tb (g.ok N) w.drew x (.val v) := hv.mono fun k _ ho => ⟨ho, rfl⟩
  have HD := define40 N g s.G s.sc s.shown w.drew h.drew.m n x v hvd
  obtain ⟨T, vf, va, vv, vt, vb, hb, hc, ht, hy⟩ := h.blk
  have c0 := cell_of_at hb 0
  simp only [runCells, List.getElem?_toArray, List.getElem?_cons_zero, ptrV] at c0
  obtain ⟨q0, q1, _, _⟩ := cells2 hb1
  have hrd : rb ≠ g.db := fun e => h.m.disj g.db (Or.inr (Or.inl rfl)) (e ▸ h.inN)
  have hbd : b1 ≠ g.db := fun e => k1.2 (Or.inr (Or.inl e))
  have hst : ∀ w2 g', Defd N g g' (defG n v s.G) s.sc s.shown w.drew w2 →
      w2.cell? ⟨rb, 0, none⟩ = some (.pointer (some ⟨g.mb, 0, none⟩)) ∧ w2.cell? ⟨b1, 0, none⟩ = some (.string ⟨n.toArray⟩) ∧
      Calls Tryz.prog 139 #[.pointer (some ⟨rb, 0, none⟩), .iface 115 (.string ⟨n.toArray⟩)] w2 (RunC N g rb fuel ({ s with G := defG n v s.G }.give (.atom (.sym n))) w) := by
    intro w2 g' hd
    have hr := h.drew.defd hd
    refine ⟨?_, ?_, ?_⟩
    · rw [← c0]; exact World.cell?_of_block (hd.kept.block rb (lt_of_at hb) hrd)
    · rw [← show w.cell? ⟨b1, 0, none⟩ = some (.string ⟨n.toArray⟩) from q0]; exact World.cell?_of_block (hd.kept.block b1 (lt_of_at hb1) hbd)
    · refine (give_any N g' rb fuel _ _ hr (.iface 115 (.string ⟨n.toArray⟩)) (.atom (.sym n)) (.atom (.sym n))).mono ?_
      rintro r w3 ⟨rfl, hr3, hk3⟩
      have hnx : Gh.Next w g g' := ⟨hd.mb, hd.db, hd.next.sp, hd.mt⟩
      exact ⟨rfl, _, hnx, hr3, ((Kept.undrew hd.kept).mono fun k _ e => Or.inr (Or.inr (Or.inl e))).chain hk3 hnx.rm⟩
  have HS := (show Hid _ from hst)
  obtain ⟨tv, xv, rfl⟩ := RepM.iface hv
  clear h hb hc ht hy hv hvd hst hb1
  unfold ptrV symV at *
  go_enter Tryz.func168, Tryz.ntmps168
  go_wp2
  go_region_held3 (fun X => X.cell? ⟨rb, 0, none⟩ = some (.pointer (some ⟨g.mb, 0, none⟩)) ∧ X.cell? ⟨b1, 0, none⟩ = some (.string ⟨n.toArray⟩)) (go_keep) (first | (go_at_call 40; refine HD.mono ?_; rintro e2 w2 ⟨rfl, g', hd⟩; obtain ⟨z0, z1, HG⟩ := HS.out w2 g' hd; clear hd))
  go_wp2_with (first | (go_at_call 139; refine HG.mono ?_; rintro e3 w3 ⟨rfl, hR⟩))
  go_end0
  exact ⟨rfl, hR⟩
end Kc
end Go.Proofs.YtodeeegbajgafaaGreatDoor

namespace Go.Proofs.YtodeeegbajgafaaGreatDoor
namespace Kc
open Go.RowKit
theorem MachAt.setBox {N : Nat → Prop} {g : Gh} {G : List (Rd.Sym × V)} {sc : List (List V)} {shown : List (List UInt8)} {w : World} (h : MachAt N g G sc shown w) {i b : Nat} (hi : i < G.length) (hb : g.xs[i]? = some b) {n : Rd.Sym} (hn : G[i].1 = n) (x : Value) (v : V) (hx : RepM g.tb (g.ok N) w x (.val v)) :
    MachAt N g (G.set i (n, v)) sc shown (w.setCell ⟨b, 0, none⟩ x) := by
  have hbx : b ∈ g.xs := List.mem_of_getElem? hb
  have hne : ∀ k, k ≠ b → (w.setCell ⟨b, 0, none⟩ x).heap[k]? = w.heap[k]? := fun k hk => Below.heap_setCell _ _ _ _ hk
  have hok : ∀ k, k < w.heap.size → g.ok N k → g.ok N k ∧ (w.setCell ⟨b, 0, none⟩ x).heap[k]? = w.heap[k]? := fun k _ ho => ⟨ho, hne k (fun e => ho.2 (Or.inr (Or.inr (Or.inl (e ▸ hbx)))))⟩
  have hnm : (G.set i (n, v)).map (·.1) = G.map (·.1) := by
    rw [List.map_set]
    apply List.ext_getElem (by simp)
    intro j h1 h2
    by_cases e : i = j
    · subst e; simp [hn]
    · simp [List.getElem_set_ne e]
  obtain ⟨T, hm⟩ := h.mach
  obtain ⟨es, c, e1, e2⟩ := h.glob
  refine ⟨⟨T, (hne g.mb (fun e => h.apart.2.1 (e ▸ hbx))).trans hm⟩, ⟨es, c, (hne g.db (fun e => h.apart.2.2.1 (e ▸ hbx))).trans e1, by rw [hnm]; exact e2⟩, by simpa using h.len, ?_, ?_, h.apart, h.apart', ⟨h.scs.1, fun j s vs e1 e2 => (h.scs.2 j s vs e1 e2).mono rfl (fun _ _ h => h) (fun k hk => hne k fun e => (h.apartS j s k e1 hk).2.2.1 (e ▸ hbx)) hok⟩, h.apartS, fun k hk => by simpa using h.low k hk, h.disj⟩
  · intro j hj
    simp only [List.length_set] at hj
    obtain ⟨b', y, T', f1, f2, f3⟩ := h.boxes j hj
    by_cases e : i = j
    · subst e
      rw [hb] at f1
      cases f1
      refine ⟨b, x, T', hb, ?_, ?_⟩
      · rw [at_setCell f2 0 _]; simp
      · simpa using hx.mono hok
    · have hbb : b' ≠ b := by
        intro eb
        subst eb
        obtain ⟨hi1, hi2⟩ := List.getElem?_eq_some_iff.1 hb
        obtain ⟨hj1, hj2⟩ := List.getElem?_eq_some_iff.1 f1
        exact e ((List.getElem_inj h.apart.2.2.2).1 (hi2.trans hj2.symm))
      refine ⟨b', y, T', f1, (hne _ hbb).trans f2, ?_⟩
      rw [List.getElem_set_ne e]
      exact f3.mono hok
  · obtain ⟨B, hB⟩ := h.own
    refine ⟨B, ?_⟩
    obtain ⟨a, b0 | ⟨gb, cap, cur, hv, hB, hh, r⟩⟩ := hB
    · exact ⟨a, Or.inl b0⟩
    · refine ⟨a, Or.inr ⟨gb, cap, cur, hv, hB, (hne _ ?_).trans hh, r⟩⟩
      intro e
      exact (h.apart' gb (by rw [hv]; rfl)).2.2 (e ▸ hbx)
set_option maxHeartbeats 2000000 in
set_option maxRecDepth 10000 in
theorem goSet (N : Nat → Prop) (g : Gh) (rb fuel : Nat) (s : St) (w : World) (h : RunAt N g rb fuel s w) (x : Value) (v : V) (hv : RepM g.tb (g.ok N) w x (.val v)) (b1 b2 : Nat) (y a : Value) (T1 T2 : TypeId) (n : Rd.Sym)
    (hb1 : w.heap[b1]? = some (.cells #[symV n, .bool false, .int .i64 0, .int .i64 0, y] T1 (0, 0))) (hb2 : w.heap[b2]? = some (.cells #[a] T2 (0, 0))) (hn : (find? n s.G).isSome) :
    Calls Tryz.prog 164 #[ptrV rb, x, ptrV b1, ptrV b2] w (RunK N g rb fuel ({ s with G := put n v s.G }.give (.atom .empty)) w) := by
  obtain ⟨u, hu⟩ := Option.isSome_iff_exists.1 hn
  obtain ⟨i, hi, b, f1, f2, f3, f4, f5⟩ := find_ix n s.G g.xs 0 u h.m.len hu
  rw [Nat.zero_add] at f4
  obtain ⟨b', z, T, e1, e2, e3⟩ := h.m.boxes i hi
  rw [f1] at e1
  cases e1
  obtain ⟨tz, xz, rfl⟩ := RepM.iface e3
  have HF := find_global N g rb fuel s w h n a i b f4
  have hbm : g.mut b := Or.inr (Or.inr (Or.inl (List.mem_of_getElem? f1)))
  have hbr : b ≠ rb := fun e => h.m.disj b hbm (e ▸ h.inN)
  have hG : ∀ w2, Below w.heap.size w w2 → Calls Tryz.prog 139 #[.pointer (some ⟨rb, 0, none⟩), .iface 146 (.agg #[])] (w2.setCell ⟨b, 0, none⟩ x) (RunK N g rb fuel ({ s with G := put n v s.G }.give (.atom .empty)) w) := by
    intro w2 hb
    have h2 := h.below hb
    have hx2 : RepM g.tb (g.ok N) w2 x (.val v) := hv.mono fun k hk ho => ⟨ho, hb.block k hk⟩
    have hm3 := h2.m.setBox hi f1 f2 x v hx2
    have hne : ∀ k, k ≠ b → (w2.setCell ⟨b, 0, none⟩ x).heap[k]? = w2.heap[k]? := fun k hk => Below.heap_setCell _ _ _ _ hk
    have hok : ∀ k, k < w2.heap.size → g.ok N k → g.ok N k ∧ (w2.setCell ⟨b, 0, none⟩ x).heap[k]? = w2.heap[k]? := fun k _ ho => ⟨ho, hne k (fun e => ho.2 (e ▸ hbm))⟩
    obtain ⟨T, vf, va, vv, vt, vb, hbb, hc, ht, hy⟩ := h2.blk
    have h3 : RunAt N g rb fuel { s with G := put n v s.G } (w2.setCell ⟨b, 0, none⟩ x) := by
      refine ⟨h.inN, ?_, ⟨T, vf, va, vv, vt, vb, (hne rb (fun e => hbr e.symm)).trans hbb, hc.mono hok, ht.mono hok, hy.mono hok⟩, h.bound⟩
      show MachAt N g (put n v s.G) s.sc s.shown _
      rw [f5 v]
      exact hm3
    refine (give_any N g rb fuel _ _ h3 (.iface 146 (.agg #[])) (.atom .empty) (.atom .empty)).mono ?_
    rintro r w4 ⟨rfl, hr4, hk4⟩
    exact ⟨rfl, hr4, ((Kept.of_below hb _).setCell (p := ⟨b, 0, none⟩) (fun _ => Or.inr hbm) _).trans hk4⟩
  have HG := (show Hid _ from hG)
  have q0 := cell_of_at hb1 0
  have q1 := cell_of_at hb1 1
  have q2 := cell_of_at hb1 2
  have q3 := cell_of_at hb1 3
  simp only [List.getElem?_toArray, List.getElem?_cons_zero, List.getElem?_cons_succ] at q0 q1 q2 q3
  obtain ⟨q4, _⟩ := cells1 hb2
  obtain ⟨tv, xv, rfl⟩ := RepM.iface hv
  clear h hv hG hb1 hb2 hn hu f5 e3
  unfold nmV symV ptrV at *
  go_enter Tryz.func164, Tryz.ntmps164
  go_wp2_with (first | (go_at_call 158; refine HF.mono ?_; rintro e5 w2 ⟨rfl, hb⟩; obtain ⟨c0, c1⟩ := cells1 (Below.at hb e2)) | (go_at_call 139; refine (HG.out _ hb).mono ?_; rintro e6 w3 ⟨rfl, hr3, hk3⟩))
  go_end0
  exact ⟨rfl, hr3, hk3⟩
theorem RepM.set_inv {mb : Gt} {ok : Nat → Prop} {w : World} {x : Value} {n : Rd.Sym} {l : Option (Nat × Nat)} {e : Env} (h : RepM mb ok w x (.fr (.set_ n l e))) :
    ∃ b1 b2 y at' T1 T2, x = capFn 164 [b1, b2] ∧ ok b1 ∧ ok b2 ∧ w.heap[b1]? = some (.cells #[symV n, .bool l.isSome, .int .i64 (locUp l), .int .i64 (locSlot l), y] T1 (0, 0)) ∧ w.heap[b2]? = some (.cells #[at'] T2 (0, 0)) ∧ RepM mb ok w at' (.env e) := by
  cases h with
  | set_ b1 b2 y at' T1 T2 _ _ _ k1 k2 hh1 hh2 h1 => exact ⟨b1, b2, y, at', T1, T2, rfl, k1, k2, hh1, hh2, h1⟩
set_option maxHeartbeats 2000000 in
set_option maxRecDepth 10000 in
theorem goSetMiss (N : Nat → Prop) (g : Gh) (rb fuel : Nat) (s : St) (w : World) (h : RunAt N g rb fuel s w) (x : Value) (v : V) (hv : RepM g.tb (g.ok N) w x (.val v)) (b1 b2 : Nat) (y a : Value) (T1 T2 : TypeId) (n : Rd.Sym)
    (hb1 : w.heap[b1]? = some (.cells #[symV n, .bool false, .int .i64 0, .int .i64 0, y] T1 (0, 0))) (hb2 : w.heap[b2]? = some (.cells #[a] T2 (0, 0))) (hn : find? n s.G = none) :
    Calls Tryz.prog 164 #[ptrV rb, x, ptrV b1, ptrV b2] w (RunK N g rb fuel (s.fail 1) w) := by
  have HF := find_missing N g rb fuel s w h n a (find_none_ix n s.G g.xs 0 hn)
  have HG : Hid (∀ w2, Below w.heap.size w w2 → Calls Tryz.prog 159 #[.pointer (some ⟨rb, 0, none⟩), .int .i64 1] w2 (RunK N g rb fuel (s.fail 1) w2)) := fun w2 hb => fail_any N g rb fuel s w2 (h.below hb) 1
  have q0 := cell_of_at hb1 0
  have q1 := cell_of_at hb1 1
  have q2 := cell_of_at hb1 2
  have q3 := cell_of_at hb1 3
  simp only [List.getElem?_toArray, List.getElem?_cons_zero, List.getElem?_cons_succ] at q0 q1 q2 q3
  obtain ⟨q4, _⟩ := cells1 hb2
  obtain ⟨tv, xv, rfl⟩ := RepM.iface hv
  clear h hv hb1 hb2 hn
  unfold nmV symV ptrV at *
  go_enter Tryz.func164, Tryz.ntmps164
  go_wp2_with (first | (go_at_call 158; refine HF.mono ?_; rintro e5 w2 ⟨rfl, hb⟩) | (go_at_call 159; refine (HG.out _ hb).mono ?_; rintro e6 w3 ⟨rfl, hr3, hk3⟩))
  go_end0
  exact ⟨rfl, hr3, (Kept.of_below hb _).trans hk3⟩
theorem MachAt.setSlot {N : Nat → Prop} {g : Gh} {G : List (Rd.Sym × V)} {sc : List (List V)} {shown : List (List UInt8)} {w : World} (h : MachAt N g G sc shown w) {id slot ga o cap : Nat} {vs : List V} (hs : g.sp[id]? = some (.slice (some ⟨ga, o, none⟩) vs.length cap)) (hv : sc[id]? = some vs) (hl : slot < vs.length) (x : Value) (v : V) (hx : RepM g.tb (g.ok N) w x (.val v)) :
    MachAt N g G (setSc sc id slot v) shown (w.setCell ⟨ga, o + slot, none⟩ x) := by
  have hap := h.apartS id _ ga hs rfl
  have hmu : g.mut ga := Or.inr (Or.inr (Or.inr (Or.inr ⟨_, List.mem_of_getElem? hs, rfl⟩)))
  have hne : ∀ k, k ≠ ga → (w.setCell ⟨ga, o + slot, none⟩ x).heap[k]? = w.heap[k]? := fun k hk => Below.heap_setCell _ _ _ _ hk
  have hok : ∀ k, k < w.heap.size → g.ok N k → g.ok N k ∧ (w.setCell ⟨ga, o + slot, none⟩ x).heap[k]? = w.heap[k]? := fun k _ ho => ⟨ho, hne k (fun e => ho.2 (e ▸ hmu))⟩
  obtain ⟨T, hm⟩ := h.mach
  obtain ⟨es, c, e1, e2⟩ := h.glob
  have hset : setSc sc id slot v = sc.set id (vs.set slot v) := by unfold setSc; rw [hv]
  have hid : id < sc.length := (List.getElem?_eq_some_iff.1 hv).1
  rw [hset]
  refine ⟨⟨T, (hne g.mb (fun e => hap.1 e.symm)).trans hm⟩, ⟨es, c, (hne g.db (fun e => hap.2.1 e.symm)).trans e1, e2⟩, h.len, ?_, ?_, h.apart, h.apart', ⟨by simpa using h.scs.1, ?_⟩, h.apartS, fun k hk => by simpa using h.low k hk, h.disj⟩
  · intro j hj
    obtain ⟨b', y, T', f1, f2, f3⟩ := h.boxes j hj
    exact ⟨b', y, T', f1, (hne _ (fun e => hap.2.2.1 (e ▸ List.mem_of_getElem? f1))).trans f2, f3.mono hok⟩
  · obtain ⟨B, hB⟩ := h.own
    refine ⟨B, ?_⟩
    obtain ⟨a, b0 | ⟨gb, cap, cur, hv, hB, hh, r⟩⟩ := hB
    · exact ⟨a, Or.inl b0⟩
    · refine ⟨a, Or.inr ⟨gb, cap, cur, hv, hB, (hne _ ?_).trans hh, r⟩⟩
      intro e
      exact hap.2.2.2.1 (by rw [hv, ← e]; rfl)
  · intro j s us f1 f2
    by_cases e : id = j
    · subst e
      rw [hs] at f1
      cases f1
      rw [List.getElem?_set_self hid] at f2
      cases f2
      rcases h.scs.2 id _ vs hs hv with ⟨h0, _⟩ | ⟨ga', o', cap', c, T, vf, h1, h2, h3, h4, h5, h6⟩
      · cases h0
      · cases h1
        refine .inr ⟨ga, o, cap, c.setIfInBounds (o + slot) x, T, fun i => if i = slot then x else vf i, by simp, at_setCell h2 _ _, by simpa using h3, h4, ?_, ?_⟩
        · intro i hi
          simp only [List.length_set] at hi
          by_cases e : i = slot
          · subst e
            have := h5 i hi
            have hlt : o + i < c.size := by
              by_cases hc : o + i < c.size
              · exact hc
              · rw [Array.getElem?_eq_none (by omega)] at this; cases this
            simp [hlt]
          · rw [Array.getElem?_setIfInBounds_ne (by omega)]
            simp only [e, if_false]
            exact h5 i hi
        · intro i hi
          simp only [List.length_set] at hi
          by_cases e : i = slot
          · subst e
            simp only [if_true, List.getElem_set_self]
            exact hx.mono hok
          · simp only [e, if_false]
            rw [List.getElem_set_ne (fun e' => e e'.symm)]
            exact (h6 i hi).mono hok
    · rw [List.getElem?_set_ne e] at f2
      refine (h.scs.2 j s us f1 f2).mono rfl (fun _ _ h => h) (fun k hk => hne k fun ek => ?_) hok
      subst ek
      exact e (hap.2.2.2.2 j s f1 hk).symm
set_option maxHeartbeats 2000000 in
set_option maxRecDepth 10000 in
theorem goSetLocal (N : Nat → Prop) (g : Gh) (rb fuel : Nat) (s : St) (w : World) (h : RunAt N g rb fuel s w) (x : Value) (v u : V) (hv : RepM g.tb (g.ok N) w x (.val v)) (b1 b2 : Nat) (y a : Value) (T1 T2 : TypeId) (n : Rd.Sym) (up slot id : Nat) (e : Env)
    (hb1 : w.heap[b1]? = some (.cells #[symV n, .bool true, .int .i64 up, .int .i64 slot, y] T1 (0, 0))) (hb2 : w.heap[b2]? = some (.cells #[a] T2 (0, 0))) (ha : RepM g.tb (g.ok N) w a (.env e)) (hl : look s.sc e up slot = some u) (hid : e[up]? = some id) :
    Calls Tryz.prog 164 #[ptrV rb, x, ptrV b1, ptrV b2] w (RunK N g rb fuel ({ s with sc := setSc s.sc id slot v }.give (.atom .empty)) w) := by
  have HF := find_local N g rb s.G s.sc s.shown w h.m n up slot a e u ha hl
  have HV : Hid (∀ w2 ga o cap id' vs, Below w.heap.size w w2 → e[up]? = some id' → s.sc[id']? = some vs → slot < vs.length → g.sp[id']? = some (.slice (some ⟨ga, o, none⟩) vs.length cap) → ∃ z, w2.cell? ⟨ga, o + slot, none⟩ = some z ∧ z.oneCell' = true ∧ w2.frozen? ⟨ga, o + slot, none⟩ = false ∧ Calls Tryz.prog 139 #[.pointer (some ⟨rb, 0, none⟩), .iface 146 (.agg #[])] (w2.setCell ⟨ga, o + slot, none⟩ x) (RunK N g rb fuel ({ s with sc := setSc s.sc id slot v }.give (.atom .empty)) w)) := fun w2 ga o cap id' vs hb hi hvs hsl hsp => by
    rw [hid] at hi
    cases hi
    obtain ⟨_, id2, vs2, e1, e2, e3⟩ := look_some hl
    rw [hid] at e1
    cases e1
    rw [hvs] at e2
    cases e2
    have h2 := h.below hb
    obtain ⟨ga', o', cap', z, f1, f2, f3, f4, f5⟩ := h2.m.slot hsp hvs e3
    cases f1
    obtain ⟨tz, xz, rfl⟩ := RepM.iface f4
    refine ⟨_, f3, rfl, f5, ?_⟩
    have hx2 : RepM g.tb (g.ok N) w2 x (.val v) := hv.mono fun k hk ho => ⟨ho, hb.block k hk⟩
    have hm3 := h2.m.setSlot hsp hvs hsl x v hx2
    have hmu : g.mut ga := Or.inr (Or.inr (Or.inr (Or.inr ⟨_, List.mem_of_getElem? hsp, rfl⟩)))
    have hbr : ga ≠ rb := fun e => h.m.disj ga hmu (e ▸ h.inN)
    have hne : ∀ k, k ≠ ga → (w2.setCell ⟨ga, o + slot, none⟩ x).heap[k]? = w2.heap[k]? := fun k hk => Below.heap_setCell _ _ _ _ hk
    have hok : ∀ k, k < w2.heap.size → g.ok N k → g.ok N k ∧ (w2.setCell ⟨ga, o + slot, none⟩ x).heap[k]? = w2.heap[k]? := fun k _ ho => ⟨ho, hne k (fun e => ho.2 (e ▸ hmu))⟩
    obtain ⟨T, vf, va, vv, vt, vb, hbb, hc, ht, hy⟩ := h2.blk
    have h3 : RunAt N g rb fuel { s with sc := setSc s.sc id slot v } (w2.setCell ⟨ga, o + slot, none⟩ x) := ⟨h.inN, hm3, ⟨T, vf, va, vv, vt, vb, (hne rb (fun e => hbr e.symm)).trans hbb, hc.mono hok, ht.mono hok, hy.mono hok⟩, h.bound⟩
    refine (give_any N g rb fuel _ _ h3 (.iface 146 (.agg #[])) (.atom .empty) (.atom .empty)).mono ?_
    rintro r w4 ⟨rfl, hr4, hk4⟩
    exact ⟨rfl, hr4, ((Kept.of_below hb _).setCell (p := ⟨ga, o + slot, none⟩) (fun _ => Or.inr hmu) _).trans hk4⟩
  have q0 := cell_of_at hb1 0
  have q1 := cell_of_at hb1 1
  have q2 := cell_of_at hb1 2
  have q3 := cell_of_at hb1 3
  simp only [List.getElem?_toArray, List.getElem?_cons_zero, List.getElem?_cons_succ] at q0 q1 q2 q3
  obtain ⟨q4, _⟩ := cells1 hb2
  obtain ⟨tv, xv, rfl⟩ := RepM.iface hv
  clear h hv hb1 hb2 hl hid ha
  unfold lcV symV ptrV at *
  go_enter Tryz.func164, Tryz.ntmps164
  go_wp2_with (first | (go_at_call 158; refine HF.mono ?_; rintro e5 w2 ⟨⟨ga, o, cap, id', vs, rfl, f1, f2, f3, f4⟩, hb⟩; obtain ⟨z, c0, c1, c2, HG⟩ := HV.out w2 ga o cap id' vs hb f1 f2 f3 f4; clear f1 f2 f3 f4) | (go_at_call 139; refine HG.mono ?_; rintro e6 w3 ⟨rfl, hr3, hk3⟩))
  go_end0
  exact ⟨rfl, hr3, hk3⟩
end Kc
end Go.Proofs.YtodeeegbajgafaaGreatDoor

namespace Go.Proofs.YtodeeegbajgafaaGreatDoor
namespace Kc
open Go.RowKit
/-- What calling a continuation comes to. -/
def St.resume (s : St) (fuel : Nat) (todo : List Fr) (v : V) : St := match s.step? fuel with
  | (s, true) => { s with beyond := s.todo :: s.beyond, todo := todo }.give v
  | (s, false) => s
set_option maxHeartbeats 2000000 in
theorem resume_any (N : Nat → Prop) (g : Gh) (rb fuel : Nat) (s : St) (w : World) (h : RunAt N g rb fuel s w) (x : Value) (v : V) (hv : RepM g.tb (g.ok N) w x (.val v)) (b : Nat) (t : Value) (T : TypeId) (fs : List Fr) (hb : g.ok N b) (hh : w.heap[b]? = some (.cells #[.int .i64 1, .int .i64 1, t] T (0, 0))) (ht : RepM g.tb (g.ok N) w t (.todo fs)) :
    Calls Tryz.prog 178 #[ptrV rb, ptrV b, x] w (RunK N g rb fuel (s.resume fuel fs v) w) := by
  obtain ⟨p, rfl⟩ := RepM.ptr' ht
  obtain ⟨tv, xv, rfl⟩ := RepM.iface hv
  have HS := step_any N g rb fuel s w h
  have hm := RM.ok h hb
  have q2 := cell_of_at hh 2
  simp only [List.getElem?_toArray, List.getElem?_cons_zero, List.getElem?_cons_succ] at q2
  unfold St.resume
  unfold StepR at HS
  generalize s.step? fuel = sr at *
  obtain ⟨s1, r⟩ := sr
  cases r with
  | false =>
    clear h hv ht hh
    unfold ptrV at *
    go_enter Tryz.func178, Tryz.ntmps178
    go_wp2_with (first | (go_at_call 111; refine HS.mono ?_; rintro e2 w2 ⟨rfl, hr2, hk2⟩))
    go_end0
    exact ⟨rfl, hr2, hk2⟩
  | true =>
    have HE : Hid (∀ w2, RunAt N g rb fuel s1 w2 → Kept (RM g rb) w w2 → Calls Tryz.prog 166 #[.pointer (some ⟨rb, 0, none⟩), .pointer p] w2 (RunK N g rb fuel { s1 with todo := fs, beyond := s1.todo :: s1.beyond } w2)) := fun w2 hr hk => runEnter_any N g rb fuel s1 w2 hr _ fs (ht.mono (h.stays hk))
    have HG : Hid (∀ w2, RunAt N g rb fuel { s1 with todo := fs, beyond := s1.todo :: s1.beyond } w2 → Kept (RM g rb) w w2 → Calls Tryz.prog 139 #[.pointer (some ⟨rb, 0, none⟩), .iface tv xv] w2 (RunK N g rb fuel ({ s1 with todo := fs, beyond := s1.todo :: s1.beyond }.give v) w2)) := fun w2 hr hk => give_any N g rb fuel _ w2 hr _ v (hv.mono (h.stays hk))
    clear h hv ht hh
    unfold ptrV at *
    go_enter Tryz.func178, Tryz.ntmps178
    go_wp2_with (first | (go_at_call 111; refine HS.mono ?_; rintro e2 w2 ⟨rfl, hr2, hk2⟩; have z2 := hk2.cell hm q2) | (go_at_call 166; refine (HE.out _ hr2 hk2).mono ?_; rintro e3 w3 ⟨rfl, hr3, hk3⟩; have hk03 := hk2.trans hk3) | (go_at_call 139; refine (HG.out _ hr3 hk03).mono ?_; rintro e4 w4 ⟨rfl, hr4, hk4⟩))
    go_end0
    exact ⟨rfl, hr4, hk03.trans hk4⟩
/-- One block more. -/
def NX (N : Nat → Prop) (b : Nat) : Nat → Prop := fun k => N k ∨ k = b
theorem RunAt.less {N N' : Nat → Prop} {g : Gh} {rb fuel : Nat} {s : St} {w : World} (h : RunAt N' g rb fuel s w) (hN : ∀ k, N k → N' k) (hrb : N rb) : RunAt N g rb fuel s w := by
  have hst : ∀ k, k < w.heap.size → g.ok N' k → g.ok N k ∧ w.heap[k]? = w.heap[k]? := fun k _ ho => ⟨⟨fun e => ho.1 (hN k e), ho.2⟩, rfl⟩
  obtain ⟨T, vf, va, vv, vt, vb, hb, hc, ht, hy⟩ := h.blk
  exact ⟨hrb, h.m.kept (fun _ _ => rfl) hst (fun k hk => h.m.low k (hN k hk)) (fun k hk e => h.m.disj k hk (hN k e)), ⟨T, vf, va, vv, vt, vb, hb, hc.mono hst, ht.mono hst, hy.mono hst⟩, h.bound⟩
/-- A new block is set aside. -/
theorem RunAt.fence {N : Nat → Prop} {g : Gh} {rb fuel : Nat} {s : St} {w w' : World} (h : RunAt N g rb fuel s w) (hb : Below w.heap.size w w') {b : Nat} (h1 : w.heap.size ≤ b) (h2 : b < w'.heap.size) : RunAt (NX N b) g rb fuel s w' := by
  have hst : ∀ k, k < w.heap.size → g.ok N k → g.ok (NX N b) k ∧ w'.heap[k]? = w.heap[k]? := fun k hk ho => ⟨⟨fun e => by rcases e with e | e; exact ho.1 e; omega, ho.2⟩, hb.block k hk⟩
  obtain ⟨T, vf, va, vv, vt, vb, hbb, hc, ht, hy⟩ := h.blk
  refine ⟨Or.inl h.inN, h.m.kept (fun k hk => hb.block k (Gh.low h.m k hk)) hst (fun k hk => ?_) (fun k hk e => ?_), ⟨T, vf, va, vv, vt, vb, Below.at hb hbb, hc.mono hst, ht.mono hst, hy.mono hst⟩, h.bound⟩
  · rcases hk with hk | hk
    · exact Nat.lt_of_lt_of_le (h.m.low k hk) hb.size
    · omega
  · rcases e with e | e
    · exact h.m.disj k hk e
    · have := Gh.low h.m k hk; omega
/-- Values in a block of their own, as they are handed on. -/
def HandAt (N : Nat → Prop) (g : Gh) (ga : Nat) (w : World) (x : Value) (vs : List V) : Prop := SlotAt g.tb (g.ok (NX N ga)) w x vs ∧ ∀ k, slotBlk x = some k → k = ga ∧ ¬ N k
def Gh.withS (g : Gh) (x : Value) : Gh := { g with sp := g.sp ++ [x] }
theorem Gh.withS_mut {g : Gh} {x : Value} {k : Nat} : (g.withS x).mut k ↔ g.mut k ∨ slotBlk x = some k := by
  simp only [Gh.mut, Gh.withS, List.mem_append, List.mem_singleton]
  constructor
  · rintro (h | h | h | h | ⟨s, h | rfl, h2⟩)
    · exact Or.inl (Or.inl h)
    · exact Or.inl (Or.inr (Or.inl h))
    · exact Or.inl (Or.inr (Or.inr (Or.inl h)))
    · exact Or.inl (Or.inr (Or.inr (Or.inr (Or.inl h))))
    · exact Or.inl (Or.inr (Or.inr (Or.inr (Or.inr ⟨s, h, h2⟩))))
    · exact Or.inr h2
  · rintro ((h | h | h | h | ⟨s, h, h2⟩) | h)
    · exact Or.inl h
    · exact Or.inr (Or.inl h)
    · exact Or.inr (Or.inr (Or.inl h))
    · exact Or.inr (Or.inr (Or.inr (Or.inl h)))
    · exact Or.inr (Or.inr (Or.inr (Or.inr ⟨s, Or.inl h, h2⟩)))
    · exact Or.inr (Or.inr (Or.inr (Or.inr ⟨x, Or.inr rfl, h⟩)))
theorem Gh.withS_sp {g : Gh} {x : Value} : ∀ (i : Nat) (y : Value), g.tb.sp[i]? = some y → (g.withS x).tb.sp[i]? = some y := fun i y h => by
  have h' : g.sp[i]? = some y := h
  show (g.sp ++ [x])[i]? = some y
  rw [List.getElem?_append_left (List.getElem?_eq_some_iff.1 h').1]
  exact h'
/-- A scope more: its slots were set aside. -/
theorem RunAt.scope {N : Nat → Prop} {g : Gh} {rb fuel : Nat} {s : St} {w : World} {ga : Nat} {x : Value} {vs : List V} (h : RunAt (NX N ga) g rb fuel s w) (hrb : N rb) (hx : HandAt N g ga w x vs) : RunAt N (g.withS x) rb fuel (s.scope vs) w := by
  have hok : ∀ k, g.ok (NX N ga) k → (g.withS x).ok N k := fun k ho => ⟨fun e => ho.1 (Or.inl e), fun e => by
    rcases Gh.withS_mut.1 e with e | e
    · exact ho.2 e
    · exact ho.1 (Or.inr (hx.2 k e).1)⟩
  have hst : ∀ k, k < w.heap.size → g.ok (NX N ga) k → (g.withS x).ok N k ∧ w.heap[k]? = w.heap[k]? := fun k _ ho => ⟨hok k ho, rfl⟩
  have hR : ∀ {v : Value} {i : Ix}, RepM g.tb (g.ok (NX N ga)) w v i → RepM (g.withS x).tb ((g.withS x).ok N) w v i := fun h => h.monoT rfl Gh.withS_sp hst
  obtain ⟨T, vf, va, vv, vt, vb, hb, hc, ht, hy⟩ := h.blk
  have hBe : ∀ (b : List (List Fr)) (v : Value), BeyAt g.tb (g.ok (NX N ga)) w v b → BeyAt (g.withS x).tb ((g.withS x).ok N) w v b := by
    intro b
    induction b with
    | nil => exact fun v h => h
    | cons t b ih =>
      rintro v ⟨k, x', y, T, h1, h2, h3, h4, h5⟩
      exact ⟨k, x', y, T, h1, hok k h2, h3, hR h4, ih _ h5⟩
  refine ⟨hrb, ?_, ⟨T, vf, va, vv, vt, vb, hb, ?_, hR ht, hBe _ _ hy⟩, h.bound⟩
  · obtain ⟨m1, m2, m3, m4, m5, m6, m7, ⟨m8, m9⟩, m10, m11, m12⟩ := h.m
    have hap : ∀ k, slotBlk x = some k → ¬ g.mut k := fun k hk e => m12 k e (Or.inr (hx.2 k hk).1)
    refine ⟨m1, m2, m3, fun i hi => ?_, m5, m6, m7, ⟨by simp [Gh.withS, St.scope, m8], fun i sv us e1 e2 => ?_⟩, fun i sv k e1 hk => ?_, fun k hk => m11 k (Or.inl hk), fun k hk e => ?_⟩
    · obtain ⟨b, y, T, f1, f2, f3⟩ := m4 i hi
      exact ⟨b, y, T, f1, f2, hR f3⟩
    · by_cases hi : i < g.sp.length
      · have e1' : g.sp[i]? = some sv := by simpa [Gh.withS, List.getElem?_append_left hi] using e1
        have e2' : s.sc[i]? = some us := by simpa [St.scope, List.getElem?_append_left (show i < s.sc.length by omega)] using e2
        exact (m9 i sv us e1' e2').mono rfl Gh.withS_sp (fun _ _ => rfl) hst
      · have hi' : i = g.sp.length := by
          have := (List.getElem?_eq_some_iff.1 e1).1
          simp [Gh.withS] at this
          omega
        subst hi'
        have e1' : sv = x := by simpa [Gh.withS] using e1.symm
        have e2' : us = vs := by simpa [St.scope, m8] using e2.symm
        subst e1' e2'
        exact hx.1.mono rfl Gh.withS_sp (fun _ _ => rfl) hst
    · by_cases hi : i < g.sp.length
      · have e1' : g.sp[i]? = some sv := by simpa [Gh.withS, List.getElem?_append_left hi] using e1
        obtain ⟨a1, a2, a3, a4, a5⟩ := m10 i sv k e1' hk
        refine ⟨a1, a2, a3, a4, fun j s' f1 f2 => ?_⟩
        by_cases hj : j < g.sp.length
        · exact a5 j s' (by simpa [Gh.withS, List.getElem?_append_left hj] using f1) f2
        · have hj' : j = g.sp.length := by
            have := (List.getElem?_eq_some_iff.1 f1).1
            simp [Gh.withS] at this
            omega
          subst hj'
          have : s' = x := by simpa [Gh.withS] using f1.symm
          subst this
          exact absurd (Or.inr (Or.inr (Or.inr (Or.inr ⟨sv, List.mem_of_getElem? e1', hk⟩)))) (hap k f2)
      · have hi' : i = g.sp.length := by
          have := (List.getElem?_eq_some_iff.1 e1).1
          simp [Gh.withS] at this
          omega
        subst hi'
        have e1' : sv = x := by simpa [Gh.withS] using e1.symm
        subst e1'
        have hn := hap k hk
        refine ⟨fun e => hn (Or.inl e), fun e => hn (Or.inr (Or.inl e)), fun e => hn (Or.inr (Or.inr (Or.inl e))), fun e => hn (Or.inr (Or.inr (Or.inr (Or.inl e)))), fun j s' f1 f2 => ?_⟩
        by_cases hj : j < g.sp.length
        · have f1' : g.sp[j]? = some s' := by simpa [Gh.withS, List.getElem?_append_left hj] using f1
          exact absurd (Or.inr (Or.inr (Or.inr (Or.inr ⟨s', List.mem_of_getElem? f1', f2⟩)))) hn
        · have := (List.getElem?_eq_some_iff.1 f1).1
          simp [Gh.withS] at this
          omega
    · rcases Gh.withS_mut.1 hk with e' | e'
      · exact m12 k e' (Or.inl e)
      · exact (hx.2 k e').2 e
  · show CtlAt _ _ _ _ _ _ s.ctl
    cases hcc : s.ctl with
    | ev f e => rw [hcc] at hc; exact ⟨hc.1.mono hst, hR hc.2⟩
    | val v => rw [hcc] at hc; exact ⟨hc.1, hR hc.2⟩
/-- A body in a new scope. -/
theorem body_scope (N : Nat → Prop) (g : Gh) (rb fuel : Nat) (s s' : St) (w0 w : World) (ga : Nat) (hk0 : Kept (RM g rb) w0 w) (hrb : N rb) (h : RunAt (NX N ga) g rb fuel s w) (sl a x : Value) (fs : List Rd.F) (e : Env) (vs : List V) (hs : RepFs (g.ok (NX N ga)) w sl fs) (ha : RepM g.tb (g.ok (NX N ga)) w a (.env e)) (hw0 : ∀ k, slotBlk x = some k → w0.heap.size ≤ k) (hv : HandAt N g ga w x vs) (hx : (s.scope vs).body fs (s.sc.length :: e) = some s') :
    Calls Tryz.prog 143 #[ptrV rb, sl, ptrV w.heap.size] (w.alloc (.cells #[x, a] 256)) (RunC N g rb fuel s' w0) := by
  have hB : Below w.heap.size w (w.alloc (.cells #[x, a] 256)) := (Below.refl _ w).alloc (Nat.le_refl _) _
  have h1 := (h.scope hrb hv).below hB
  have hok : ∀ k, g.ok (NX N ga) k → (g.withS x).ok N k := fun k ho => ⟨fun e => ho.1 (Or.inl e), fun e => by
    rcases Gh.withS_mut.1 e with e | e
    · exact ho.2 e
    · exact ho.1 (Or.inr (hv.2 k e).1)⟩
  have hst : ∀ k, k < w.heap.size → g.ok (NX N ga) k → (g.withS x).ok N k ∧ (w.alloc (.cells #[x, a] 256)).heap[k]? = w.heap[k]? := fun k hk ho => ⟨hok k ho, hB.block k hk⟩
  have hnx : Gh.Next w0 g (g.withS x) := ⟨rfl, rfl, fun i s h => Gh.withS_sp i s h, fun k hk hl => by
    rcases Gh.withS_mut.1 hk with e | e
    · exact e
    · have := hw0 k e; omega⟩
  have hid : (g.withS x).tb.sp[s.sc.length]? = some x := by
    show (g.sp ++ [x])[s.sc.length]? = some x
    rw [← h.m.scs.1]
    simp
  refine (body_any N (g.withS x) rb fuel (s.scope vs) s' _ h1 _ _ fs (s.sc.length :: e) (hs.mono hst) (.env1 w.heap.size _ _ _ 256 _ (Gh.ok_new (h.scope hrb hv).m _ (Nat.le_refl _)) (at_new w _) hid (ha.monoT rfl Gh.withS_sp hst)) hx).mono ?_
  rintro r w2 ⟨rfl, hr, hk⟩
  exact ⟨rfl, _, hnx, hr, (hk0.trans (Kept.of_below hB _)).chain hk hnx.rm⟩
theorem SlotAt.shape {t : Gt} {ok : Nat → Prop} {w : World} {x : Value} {vs : List V} (h : SlotAt t ok w x vs) : ∃ a cap, x = .slice a vs.length cap ∧ vs.length ≤ cap ∧ cap ≤ maxLen := by
  rcases h with ⟨rfl, rfl⟩ | ⟨ga, o, cap, c, T, vf, rfl, h2, h3, h4, _⟩
  · exact ⟨none, 0, rfl, Nat.le_refl _, by unfold maxLen; omega⟩
  · exact ⟨_, cap, rfl, h3, h4⟩
theorem RepM.vals_shape {mb : Gt} {ok : Nat → Prop} {w : World} {x : Value} {vs : List V} (h : RepM mb ok w x (.vals vs)) : ∃ a cap, x = .slice a vs.length cap ∧ vs.length ≤ cap ∧ cap ≤ maxLen := by
  cases h with
  | vals0 => exact ⟨none, 0, rfl, Nat.le_refl _, by unfold maxLen; omega⟩
  | vals g o cap c T _ vf hg hh hn hcap hc hs => exact ⟨_, cap, rfl, hn, hcap⟩
set_option maxHeartbeats 2000000 in
theorem goLet (N : Nat → Prop) (g : Gh) (rb fuel : Nat) (s s' : St) (w0 w : World) (ga : Nat) (hk0 : Kept (RM g rb) w0 w) (hrb : N rb) (h : RunAt (NX N ga) g rb fuel s w) (x : Value) (vs : List V) (hw0 : ∀ k, slotBlk x = some k → w0.heap.size ≤ k) (hv : HandAt N g ga w x vs) (b1 b2 : Nat) (y sl a : Value) (T1 T2 : TypeId) (fs : List Rd.F) (e : Env)
    (hb1 : w.heap[b1]? = some (.cells #[y, sl] T1 (0, 0))) (hb2 : w.heap[b2]? = some (.cells #[a] T2 (0, 0))) (hs : RepFs (g.ok (NX N ga)) w sl fs) (ha : RepM g.tb (g.ok (NX N ga)) w a (.env e)) (hx : (s.scope vs).body fs (s.sc.length :: e) = some s') :
    Calls Tryz.prog 163 #[ptrV rb, x, ptrV b1, ptrV b2] w (RunC N g rb fuel s' w0) := by
  have HB := body_scope N g rb fuel s s' w0 w ga hk0 hrb h sl a x fs e vs hs ha hw0 hv hx
  obtain ⟨p, rfl⟩ := RepM.ptr ha
  obtain ⟨xa, xc, rfl, _, _⟩ := hv.1.shape
  obtain ⟨fa, fc, rfl, _, _⟩ := RepFs.shape hs
  obtain ⟨q0, q1, _, _⟩ := cells2 hb1
  obtain ⟨q2, _⟩ := cells1 hb2
  clear h hv hs ha hx hb1 hb2
  unfold ptrV at *
  go_enter Tryz.func163, Tryz.ntmps163
  go_wp2_with (first | (go_at_call 143; refine HB.mono ?_; rintro e6 w3 ⟨rfl, hr3⟩))
  go_end0
  exact ⟨rfl, hr3⟩
end Kc
end Go.Proofs.YtodeeegbajgafaaGreatDoor

namespace Go.Proofs.YtodeeegbajgafaaGreatDoor
namespace Kc
open Go.RowKit
set_option maxHeartbeats 2000000 in
theorem shift_any' (N : Nat → Prop) (g : Gh) (rb fuel : Nat) (s s' : St) (w : World) (h : RunAt N g rb fuel s w) (sl a : Value) (fs : List Rd.F) (e : Env) (hs : RepFs (g.ok N) w sl fs) (ha : RepM g.tb (g.ok N) w a (.env e)) (hbe : s.beyond ≠ []) (hx : (({ s with todo := [] } : St).scope [.cont s.todo]).body fs (s.sc.length :: e) = some s') :
    Calls Tryz.prog 148 #[ptrV rb, .agg #[sl], a] w (RunC N g rb fuel s' w) := by
  obtain ⟨fa, fc, rfl, _, _⟩ := RepFs.shape hs
  obtain ⟨p, rfl⟩ := RepM.ptr ha
  have hB : Below w.heap.size w (w.alloc (.cells #[.slice (some fa) fs.length fc] 184)) := (Below.refl _ w).alloc (Nat.le_refl _) _
  have h1 := h.below hB
  have hlt := h.lt
  obtain ⟨T, vf, va, vv, vt, vb, hb, hc, ht, hy⟩ := h.blk
  obtain ⟨pt, rfl⟩ := RepM.ptr' ht
  obtain ⟨kb, rfl⟩ : ∃ k, vb = .pointer (some ⟨k, 0, none⟩) := by
    cases hbb : s.beyond with
    | nil => exact absurd hbb hbe
    | cons t b => rw [hbb] at hy; obtain ⟨k, x, y, T, h1, _⟩ := hy; exact ⟨k, h1⟩
  have c6 := cell_of_at hb 6
  have c7 := cell_of_at hb 7
  have f6 := free_of_at hb 6
  simp only [runCells, List.getElem?_toArray, List.getElem?_cons_zero, List.getElem?_cons_succ] at c6 c7
  have hbx := at_new w (.cells #[.slice (some fa) fs.length fc] 184)
  obtain ⟨q0, _⟩ := cells1 hbx
  have hs1 := hs.mono (ok' := g.ok N) (w' := w.alloc (.cells #[.slice (some fa) fs.length fc] 184)) fun j hj ho => ⟨ho, hB.block j hj⟩
  have ha1 := ha.mono (ok' := g.ok N) (w' := w.alloc (.cells #[.slice (some fa) fs.length fc] 184)) fun j hj ho => ⟨ho, hB.block j hj⟩
  have ht1 := ht.mono (ok' := g.ok N) (w' := w.alloc (.cells #[.slice (some fa) fs.length fc] 184)) fun j hj ho => ⟨ho, hB.block j hj⟩
  have hnew1 := Gh.ok_new h1.m
  have HC := newContinuation_any N g (w.alloc (.cells #[.slice (some fa) fs.length fc] 184)) hnew1 _ s.todo ht1
  have hbr : (w.alloc (.cells #[.slice (some fa) fs.length fc] 184)).heap[rb]? = some (.cells (runCells g.mb fuel s vf va vv (.pointer pt) (.pointer (some ⟨kb, 0, none⟩))) T (0, 0)) := at_alloc hb _
  have HBd : Hid (∀ w2 b, Below (w.alloc (.cells #[.slice (some fa) fs.length fc] 184)).heap.size (w.alloc (.cells #[.slice (some fa) fs.length fc] 184)) w2 → RepM g.tb (g.ok N) w2 (.iface 258 (ptrV b)) (.val (.cont s.todo)) →
      Calls Tryz.prog 143 #[.pointer (some ⟨rb, 0, none⟩), .slice (some fa) fs.length fc, .pointer (some ⟨w2.heap.size + 1, 0, none⟩)] (((w2.setCell ⟨rb, 6, none⟩ (.pointer none)).alloc (.cells #[.iface 258 (.pointer (some ⟨b, 0, none⟩))] 60)).alloc (.cells #[.slice (some ⟨w2.heap.size, 0, none⟩) 1 1, .pointer p] 256)) (RunC N g rb fuel s' w)) := by
    intro w2 b hb2 hr2
    have h2 := h1.below hb2
    have h3 := h2.todoNil
    have hne : ∀ k, g.ok N k → k ≠ rb := fun k hk e => hk.1 (e ▸ h.inN)
    have hs2 : (w2.setCell ⟨rb, 6, none⟩ (.pointer none)).heap.size = w2.heap.size := by simp
    have hB4 : Below (w2.setCell ⟨rb, 6, none⟩ (.pointer none)).heap.size (w2.setCell ⟨rb, 6, none⟩ (.pointer none)) ((w2.setCell ⟨rb, 6, none⟩ (.pointer none)).alloc (.cells #[.iface 258 (.pointer (some ⟨b, 0, none⟩))] 60)) := (Below.refl _ _).alloc (Nat.le_refl _) _
    have h4 := h3.fence hB4 (b := w2.heap.size) (by omega) (by simp)
    have hst2 : ∀ k, k < w2.heap.size → g.ok N k → g.ok (NX N w2.heap.size) k ∧ ((w2.setCell ⟨rb, 6, none⟩ (.pointer none)).alloc (.cells #[.iface 258 (.pointer (some ⟨b, 0, none⟩))] 60)).heap[k]? = w2.heap[k]? := fun k hk ho => ⟨⟨fun e => by rcases e with e | e; exact ho.1 e; omega, ho.2⟩, by rw [hB4.block k (by simpa using hk), Below.heap_setCell _ _ _ _ (hne k ho)]⟩
    have hst : ∀ k, k < (w.alloc (.cells #[.slice (some fa) fs.length fc] 184)).heap.size → g.ok N k → g.ok (NX N w2.heap.size) k ∧ ((w2.setCell ⟨rb, 6, none⟩ (.pointer none)).alloc (.cells #[.iface 258 (.pointer (some ⟨b, 0, none⟩))] 60)).heap[k]? = (w.alloc (.cells #[.slice (some fa) fs.length fc] 184)).heap[k]? := fun k hk ho => ⟨(hst2 k (Nat.lt_of_lt_of_le hk hb2.size) ho).1, by rw [(hst2 k (Nat.lt_of_lt_of_le hk hb2.size) ho).2, hb2.block k hk]⟩
    have e1 : ((w2.setCell ⟨rb, 6, none⟩ (.pointer none)).alloc (.cells #[.iface 258 (.pointer (some ⟨b, 0, none⟩))] 60)).heap[w2.heap.size]? = some (.cells #[.iface 258 (.pointer (some ⟨b, 0, none⟩))] 60 (0, 0)) := by simpa using at_new (w2.setCell ⟨rb, 6, none⟩ (.pointer none)) (.cells #[.iface 258 (.pointer (some ⟨b, 0, none⟩))] 60)
    have hvals : HandAt N g w2.heap.size ((w2.setCell ⟨rb, 6, none⟩ (.pointer none)).alloc (.cells #[.iface 258 (.pointer (some ⟨b, 0, none⟩))] 60)) (.slice (some ⟨w2.heap.size, 0, none⟩) 1 1) [.cont s.todo] := by
      refine ⟨.inr ⟨w2.heap.size, 0, 1, _, 60, fun _ => .iface 258 (ptrV b), rfl, e1, by simp, by unfold maxLen; omega, ?_, ?_⟩, fun k hk => ?_⟩
      · intro i hi
        have : i = 0 := by simpa using hi
        subst this; rfl
      · intro i hi
        have : i = 0 := by simpa using hi
        subst this
        exact hr2.mono hst2
      · cases hk
        exact ⟨rfl, fun e => by have h9 : w2.heap.size < w2.heap.size := h2.m.low _ e; omega⟩
    have hk4 : Kept (RM g rb) w ((w2.setCell ⟨rb, 6, none⟩ (.pointer none)).alloc (.cells #[.iface 258 (.pointer (some ⟨b, 0, none⟩))] 60)) :=
      (((Kept.of_below hB _).trans (Kept.of_below hb2 _)).setCell (p := ⟨rb, 6, none⟩) (fun _ => Or.inl rfl) _).alloc _
    have hszW : ((w2.setCell ⟨rb, 6, none⟩ (.pointer none)).alloc (.cells #[.iface 258 (.pointer (some ⟨b, 0, none⟩))] 60)).heap.size = w2.heap.size + 1 := by simp
    have := body_scope N g rb fuel { s with todo := [] } s' w ((w2.setCell ⟨rb, 6, none⟩ (.pointer none)).alloc (.cells #[.iface 258 (.pointer (some ⟨b, 0, none⟩))] 60)) w2.heap.size hk4 h.inN h4 _ _ _ fs e [.cont s.todo] (hs1.mono hst) (ha1.mono hst) (fun k hk => by cases hk; exact Nat.le_trans hB.size hb2.size) hvals hx
    rw [hszW] at this
    exact this
  clear h hs ha hs1 ha1 hx hc ht hy ht1 hbe hb
  unfold ptrV at *
  generalize hW : w.alloc (.cells #[.slice (some fa) fs.length fc] 184) = W at *
  have HW := (show Hid _ from hW)
  have hcr : ∀ w2, Below W.heap.size W w2 → w2.cell? ⟨rb, 6, none⟩ = some (.pointer pt) ∧ w2.frozen? ⟨rb, 6, none⟩ = false ∧ w2.cell? ⟨w.heap.size, 0, none⟩ = some (.slice (some fa) fs.length fc) ∧ rb < w2.heap.size ∧ w.heap.size ≠ rb := fun w2 hb2 => by
    have e1 := Below.at hb2 hbr
    refine ⟨?_, free_of_at e1 6, (Kept.of_below hb2 (fun _ => False)).cell id q0, lt_of_at e1, by omega⟩
    rw [cell_of_at e1 6]; rfl
  have HR := (show Hid _ from hcr)
  clear hcr hW hbr hbx
  go_enter Tryz.func148, Tryz.ntmps148
  go_wp2_with (first | (go_at_call 167; rw [HW.out]; refine HC.mono ?_; rintro e2 w2 ⟨b, rfl, hr2, hb2⟩; obtain ⟨z1, z2, z3, z4, z5⟩ := HR.out _ hb2) | (go_at_call 143; refine (HBd.out _ _ hb2 hr2).mono ?_; rintro e3 w3 ⟨rfl, hr3⟩))
  go_end0
  exact ⟨rfl, hr3⟩
set_option maxHeartbeats 2000000 in
theorem shift_no (N : Nat → Prop) (g : Gh) (rb fuel : Nat) (s : St) (w : World) (h : RunAt N g rb fuel s w) (sl a : Value) (fs : List Rd.F) (e : Env) (hs : RepFs (g.ok N) w sl fs) (ha : RepM g.tb (g.ok N) w a (.env e)) (hbe : s.beyond = []) :
    Calls Tryz.prog 148 #[ptrV rb, .agg #[sl], a] w (RunC N g rb fuel (s.fail 7) w) := by
  obtain ⟨fa, fc, rfl, _, _⟩ := RepFs.shape hs
  obtain ⟨p, rfl⟩ := RepM.ptr ha
  have hB : Below w.heap.size w (w.alloc (.cells #[.slice (some fa) fs.length fc] 184)) := (Below.refl _ w).alloc (Nat.le_refl _) _
  have HF : Hid (Calls Tryz.prog 159 #[.pointer (some ⟨rb, 0, none⟩), .int .i64 7] (w.alloc (.cells #[.slice (some fa) fs.length fc] 184)) (RunK N g rb fuel (s.fail 7) (w.alloc (.cells #[.slice (some fa) fs.length fc] 184)))) := fail_any N g rb fuel s _ (h.below hB) 7
  obtain ⟨T, vf, va, vv, vt, vb, hb, hc, ht, hy⟩ := h.blk
  rw [hbe] at hy
  have hy' : vb = .pointer none := hy
  subst hy'
  have c7 := cell_of_at (at_alloc hb (.cells #[.slice (some fa) fs.length fc] 184)) 7
  simp only [runCells, List.getElem?_toArray, List.getElem?_cons_zero, List.getElem?_cons_succ] at c7
  clear h hs ha hb hc ht hy hbe
  unfold ptrV at *
  go_enter Tryz.func148, Tryz.ntmps148
  go_wp2_with (first | (go_at_call 159; refine HF.out.mono ?_; rintro e2 w2 ⟨rfl, hr2, hk2⟩))
  go_end0
  exact RunK.c ⟨rfl, hr2, (Kept.of_below hB _).trans hk2⟩
end Kc
end Go.Proofs.YtodeeegbajgafaaGreatDoor

namespace Go.Proofs.YtodeeegbajgafaaGreatDoor
namespace Kc
open Go.RowKit
/-- What a call needs: there is room to show, and the values are fine. -/
def Fit (s : St) (vs : List V) : Prop := s.shown.length < 1000000 ∧ (∀ v, v ∈ vs → fine v) ∧ vs.length ≤ 100000
/-- What a call of the first value with the others comes to. -/
def CallC : Prop := ∀ (N : Nat → Prop) (g : Gh) (rb fuel : Nat) (s s' : St) (w0 w : World) (ga : Nat) (x : Value) (vs : List V), (∀ k, slotBlk x = some k → w0.heap.size ≤ k) → Kept (RM g rb) w0 w → N rb → RunAt (NX N ga) g rb fuel s w → HandAt N g ga w x vs → Fit s vs → s.call fuel vs = some s' →
  Calls Tryz.prog 151 #[ptrV rb, x] w (RunC N g rb fuel s' w0)
theorem RunC.after {N : Nat → Prop} {g : Gh} {rb fuel : Nat} {s' : St} {w w1 : World} (hk : Kept (RM g rb) w w1) {e : Ending} {w' : World} (h : RunC N g rb fuel s' w1 e w') : RunC N g rb fuel s' w e w' := by
  obtain ⟨rfl, g', hn, hr, hk'⟩ := h
  exact ⟨rfl, g', ⟨hn.mb, hn.db, hn.sp, fun k e hk1 => hn.mt k e (Nat.lt_of_lt_of_le hk1 hk.size)⟩, hr, hk.trans hk'⟩
theorem RepM.hd_inv {mb : Gt} {ok : Nat → Prop} {w : World} {x : Value} {h : Hd} (hr : RepM mb ok w x (.hd h)) :
    (h = .call ∧ x = fnV 151) ∨ ∃ b1 b2 y s at' T1 T2 body en, h = .lett body en ∧ x = capFn 163 [b1, b2] ∧ ok b1 ∧ ok b2 ∧ w.heap[b1]? = some (.cells #[y, s] T1 (0, 0)) ∧ w.heap[b2]? = some (.cells #[at'] T2 (0, 0)) ∧ RepFs ok w s body ∧ RepM mb ok w at' (.env en) := by
  cases hr with
  | call => exact Or.inl ⟨rfl, rfl⟩
  | lett b1 b2 y s at' T1 T2 body en k1 k2 hh1 hh2 h1 h2 => exact Or.inr ⟨b1, b2, y, s, at', T1, T2, body, en, rfl, rfl, k1, k2, hh1, hh2, h1, h2⟩
theorem RepM.hd_func {mb : Gt} {ok : Nat → Prop} {w : World} {x : Value} {h : Hd} (hr : RepM mb ok w x (.hd h)) : ∃ f cap, x = .func f #[] cap := by
  rcases hr.hd_inv with ⟨_, rfl⟩ | ⟨b1, b2, y, s, at', T1, T2, body, en, _, rfl, _⟩
  · exact ⟨_, _, rfl⟩
  · exact ⟨_, _, rfl⟩
set_option maxHeartbeats 4000000 in
set_option maxRecDepth 10000 in
theorem each_more (N : Nat → Prop) (g : Gh) (rb fuel : Nat) (s : St) (w : World) (h : RunAt N g rb fuel s w) (sl a x d : Value) (f : Rd.F) (fs : List Rd.F) (e : Env) (vs : List V) (hd : Hd)
    (hs : RepFs (g.ok N) w sl (f :: fs)) (ha : RepM g.tb (g.ok N) w a (.env e)) (hv : RepM g.tb (g.ok N) w x (.vals vs)) (hh : RepM g.tb (g.ok N) w d (.hd hd)) (hlen : vs.length + (f :: fs).length ≤ 100000) :
    Calls Tryz.prog 150 #[ptrV rb, sl, a, x, d] w (RunC N g rb fuel ((s.push (.each (f :: fs) e vs hd)).eval f e) w) := by
  have hmf : ∀ fn first cap w, (Instr.makeFunc fn first cap).run Tryz.prog w = .ok (.func fn first cap) w := fun _ _ _ _ => rfl
  obtain ⟨p, rfl⟩ := RepM.ptr ha
  obtain ⟨xa, xc, rfl, hvn, hvc⟩ := RepM.vals_shape hv
  obtain ⟨df, dc, rfl⟩ := hh.hd_func
  have hB := boxes4_below w sl (.pointer p) (.slice xa vs.length xc) (.func df #[] dc)
  obtain ⟨b1, b2, b3, b4⟩ := boxes4_at w sl (.pointer p) (.slice xa vs.length xc) (.func df #[] dc)
  have h1 := h.below hB
  have hst : ∀ k, k < w.heap.size → g.ok N k → g.ok N k ∧ (boxes4 w sl (.pointer p) (.slice xa vs.length xc) (.func df #[] dc)).heap[k]? = w.heap[k]? := fun k hk ho => ⟨ho, hB.block k hk⟩
  have hs1 := hs.mono hst
  have ha1 := ha.mono hst
  have hv1 := hv.mono hst
  have hh1 := hh.mono hst
  have HW : Hid ((((w.alloc (.cells #[sl] 65)).alloc (.cells #[.pointer p] 99)).alloc (.cells #[.slice xa vs.length xc] 85)).alloc (.cells #[.func df #[] dc] 236) = boxes4 w sl (.pointer p) (.slice xa vs.length xc) (.func df #[] dc)) := rfl
  have hnew := Gh.ok_new h.m
  have hKW := Kept.of_below hB (RM g rb)
  have hrm := fun k (hk : w.heap.size ≤ k) => RM.new h hk
  generalize boxes4 w sl (.pointer p) (.slice xa vs.length xc) (.func df #[] dc) = W at *
  obtain ⟨q1, _⟩ := cells1 b1
  obtain ⟨q2, _⟩ := cells1 b2
  obtain ⟨q3, _⟩ := cells1 b3
  obtain ⟨q4, _⟩ := cells1 b4
  obtain ⟨g0, o, cap, v0, rfl, hn, hcap, hg0, c0, hv0⟩ := RepFs.first hs1
  obtain ⟨tv, xv, rfl⟩ := RepF.iface hv0
  have hfr : RepM g.tb (g.ok N) W (capFn 169 [w.heap.size, w.heap.size + 1, w.heap.size + 2, w.heap.size + 3]) (.fr (.each (f :: fs) e vs hd)) := .each _ _ _ _ _ _ _ _ 65 99 85 236 _ _ _ _ hlen (hnew _ (by omega)) (hnew _ (by omega)) (hnew _ (by omega)) (hnew _ (by omega)) b1 b2 b3 b4 hs1 ha1 hv1 hh1
  have HT : Hid (Calls Tryz.prog 160 #[.pointer (some ⟨rb, 0, none⟩), .func (.func 169) #[] #[.pointer (some ⟨w.heap.size, 0, none⟩), .pointer (some ⟨w.heap.size + 1, 0, none⟩), .pointer (some ⟨w.heap.size + 2, 0, none⟩), .pointer (some ⟨w.heap.size + 3, 0, none⟩)]] W (RunK N g rb fuel (s.push (.each (f :: fs) e vs hd)) W)) := then_any N g rb fuel s W h1 169 [w.heap.size, w.heap.size + 1, w.heap.size + 2, w.heap.size + 3] _ hfr
  have HE : Hid (∀ w2, RunAt N g rb fuel (s.push (.each (f :: fs) e vs hd)) w2 → Kept (RM g rb) W w2 → Calls Tryz.prog 110 #[.pointer (some ⟨rb, 0, none⟩), .iface tv xv, .pointer p] w2.drew (RunK N g rb fuel ((s.push (.each (f :: fs) e vs hd)).eval f e) w2.drew)) := fun w2 hr hk => evaluate_any N g rb fuel _ w2.drew hr.drew _ _ f e (hv0.mono (h1.stays hk.drew)) (ha1.mono (h1.stays hk.drew))
  have hm0 := RM.ok h hg0
  have hm1 := hrm w.heap.size (Nat.le_refl _)
  have hm2 := hrm (w.heap.size + 1) (by omega)
  have j1 : (0 : Int) < (fs.length : Int) + 1 := by omega
  have j3 : ¬ ((fs.length : Int) + 1 = 0) := by omega
  have j4 : (((fs.length : Int) + 1) == 0) = false := by simp; omega
  clear h h1 hs ha hv hh hs1 ha1 hv1 hh1 b1 b2 b3 b4 hnew hrm hst hB hv0 hfr
  unfold ptrV at *
  go_enter Tryz.func150, Tryz.ntmps150
  go_wp2_with (first | (go_at_call 160; rw [HW.out]; refine HT.out.mono ?_; rintro e2 w2 ⟨rfl, hr2, hk2⟩; have y1 := hk2.cell hm1 q1; have y2 := hk2.cell hm2 q2; have y3 := hk2.cell hm0 c0))
  go_region_held3 (fun X => X.cell? ⟨w.heap.size, 0, none⟩ = some (.slice (some ⟨g0, o, none⟩) (fs.length + 1) cap) ∧ X.cell? ⟨w.heap.size + 1, 0, none⟩ = some (.pointer p) ∧ X.cell? ⟨g0, o, none⟩ = some (.iface tv xv)) (go_keep) (first | (go_at_call 110; refine (HE.out _ hr2 hk2).mono ?_; rintro e3 w3 ⟨rfl, hr3, hk3⟩; have z1 := hk3.cell hm1 y1; have z2 := hk3.cell hm2 y2; have z3 := hk3.cell hm0 y3))
  go_wp2
  go_end0
  exact RunC.after hKW (RunK.c ⟨rfl, hr3, hk2.trans (Kept.undrew hk3)⟩)
set_option maxHeartbeats 4000000 in
set_option maxRecDepth 10000 in
theorem each_end (HC : CallC) (N : Nat → Prop) (g : Gh) (rb fuel : Nat) (s s' : St) (w0 w : World) (ga : Nat) (hk0 : Kept (RM g rb) w0 w) (hrb : N rb) (h : RunAt (NX N ga) g rb fuel s w) (sl a x d : Value) (e : Env) (vs : List V) (hd : Hd)
    (hs : RepFs (g.ok (NX N ga)) w sl []) (ha : RepM g.tb (g.ok (NX N ga)) w a (.env e)) (hw0 : ∀ k, slotBlk x = some k → w0.heap.size ≤ k) (hv : HandAt N g ga w x vs) (hfit : Fit s vs) (hh : RepM g.tb (g.ok (NX N ga)) w d (.hd hd)) (hx : s.handOn fuel vs hd = some s') :
    Calls Tryz.prog 150 #[ptrV rb, sl, a, x, d] w (RunC N g rb fuel s' w0) := by
  have hmf : ∀ fn first cap w, (Instr.makeFunc fn first cap).run Tryz.prog w = .ok (.func fn first cap) w := fun _ _ _ _ => rfl
  obtain ⟨p, rfl⟩ := RepM.ptr ha
  obtain ⟨xa, xc, rfl, hvn, hvc⟩ := hv.1.shape
  have hB := boxes4_below w sl (.pointer p) (.slice xa vs.length xc) d
  obtain ⟨b1, b2, b3, b4⟩ := boxes4_at w sl (.pointer p) (.slice xa vs.length xc) d
  have h1 := h.below hB
  have hst : ∀ k, k < w.heap.size → g.ok (NX N ga) k → g.ok (NX N ga) k ∧ (boxes4 w sl (.pointer p) (.slice xa vs.length xc) d).heap[k]? = w.heap[k]? := fun k hk ho => ⟨ho, hB.block k hk⟩
  have hs1 := hs.mono hst
  have ha1 := ha.mono hst
  have hv1 : HandAt N g ga (boxes4 w sl (.pointer p) (.slice xa vs.length xc) d) (.slice xa vs.length xc) vs := ⟨hv.1.mono rfl (fun _ _ h => h) (fun k hk => hB.block k (hv.1.lt hk)) hst, hv.2⟩
  have hh1 := hh.mono hst
  have HW : Hid ((((w.alloc (.cells #[sl] 65)).alloc (.cells #[.pointer p] 99)).alloc (.cells #[.slice xa vs.length xc] 85)).alloc (.cells #[d] 236) = boxes4 w sl (.pointer p) (.slice xa vs.length xc) d) := rfl
  have hnew := Gh.ok_new h.m
  have hKW := Kept.of_below hB (RM g rb)
  have hrm := fun k (hk : w.heap.size ≤ k) => RM.new h hk
  generalize boxes4 w sl (.pointer p) (.slice xa vs.length xc) d = W at *
  obtain ⟨q1, _⟩ := cells1 b1
  obtain ⟨q2, _⟩ := cells1 b2
  obtain ⟨q3, _⟩ := cells1 b3
  obtain ⟨q4, _⟩ := cells1 b4
  obtain ⟨fa, fc, rfl, _, _⟩ := RepFs.shape hs
  simp only [List.length_nil] at *
  rcases hh1.hd_inv with ⟨rfl, rfl⟩ | ⟨c1, c2, y, bs, at', T1, T2, body, en, rfl, rfl, k1, k2, e1, e2, e3, e4⟩
  · have HCC := HC N g rb fuel s s' w0 W ga _ vs hw0 (hk0.trans hKW) hrb h1 hv1 hfit hx
    clear h h1 hs ha hv hh hs1 ha1 hv1 hh1 hx hfit b1 b2 b3 b4 hnew hrm hst hB
    unfold fnV ptrV at *
    go_enter Tryz.func150, Tryz.ntmps150
    go_wp2_with (first | (go_at_call 151; rw [HW.out]; refine HCC.mono ?_; rintro e6 w3 ⟨rfl, hr3⟩))
    go_end0
    exact ⟨rfl, hr3⟩
  · have HCC := goLet N g rb fuel s s' w0 W ga (hk0.trans hKW) hrb h1 _ vs hw0 hv1 c1 c2 y bs at' T1 T2 body en e1 e2 e3 e4 hx
    clear h h1 hs ha hv hh hs1 ha1 hv1 hh1 hx hfit b1 b2 b3 b4 hnew hrm hst hB e1 e2 e3 e4
    simp only [capFn, List.map_cons, List.map_nil, ptrV] at HW q4 ⊢
    unfold ptrV at HCC
    go_enter Tryz.func150, Tryz.ntmps150
    go_wp2_with (first | (go_at_call 163; rw [HW.out]; refine HCC.mono ?_; rintro e6 w3 ⟨rfl, hr3⟩))
    go_end0
    exact ⟨rfl, hr3⟩
end Kc
end Go.Proofs.YtodeeegbajgafaaGreatDoor

namespace Go.Proofs.YtodeeegbajgafaaGreatDoor
namespace Kc
open Go.RowKit
theorem inRange_iff (n : Int) : inRange n = true ↔ inR n := by simp [inRange, inR]
theorem inRange_not {n : Int} (h : ¬ inR n) : inRange n = false := by
  cases hr : inRange n with
  | false => rfl
  | true => exact absurd ((inRange_iff n).1 hr) h
set_option maxHeartbeats 1000000 in
theorem plus_over (a b : Int) (w : World) (ha : inR a) (hb : inR b) (h : ¬ inR (a + b)) : Calls Tryz.prog 117 #[.int .i64 a, .int .i64 b] w fun e w' => (∃ c, e = .returned (.tuple #[.int .i64 c, .bool false])) ∧ w' = w := by
  unfold inR at *
  by_cases hp : 0 ≤ b
  · have hwr : wrap64 (a + b) = a + b - 18446744073709551616 := by unfold wrap64; omega
    have hc : ¬ a ≤ a + b - 18446744073709551616 := by omega
    clear h ha hb
    go_enter Tryz.func117, Tryz.ntmps117
    go_wp2
    go_ret2
    exact ⟨⟨_, rfl⟩, rfl⟩
  · have hwr : wrap64 (a + b) = a + b + 18446744073709551616 := by unfold wrap64; omega
    have hc : a ≤ a + b + 18446744073709551616 := by omega
    clear h ha hb
    go_enter Tryz.func117, Tryz.ntmps117
    go_wp2
    go_ret2
    exact ⟨⟨_, rfl⟩, rfl⟩
set_option maxHeartbeats 1000000 in
theorem minus_over (a b : Int) (w : World) (ha : inR a) (hb : inR b) (h : ¬ inR (a - b)) : Calls Tryz.prog 119 #[.int .i64 a, .int .i64 b] w fun e w' => (∃ c, e = .returned (.tuple #[.int .i64 c, .bool false])) ∧ w' = w := by
  unfold inR at *
  by_cases hp : 0 ≤ b
  · have hwr : wrap64 (a - b) = a - b + 18446744073709551616 := by unfold wrap64; omega
    have hc : ¬ a - b + 18446744073709551616 ≤ a := by omega
    clear h ha hb
    go_enter Tryz.func119, Tryz.ntmps119
    go_wp2
    go_ret2
    exact ⟨⟨_, rfl⟩, rfl⟩
  · have hwr : wrap64 (a - b) = a - b - 18446744073709551616 := by unfold wrap64; omega
    have hc : a - b - 18446744073709551616 ≤ a := by omega
    clear h ha hb
    go_enter Tryz.func119, Tryz.ntmps119
    go_wp2
    go_ret2
    exact ⟨⟨_, rfl⟩, rfl⟩
set_option maxHeartbeats 1000000 in
theorem wraps_yes (w : World) : Calls Tryz.prog 152 #[.int .i64 (-9223372036854775808), .int .i64 (-1)] w fun e w' => e = .returned (.bool true) ∧ w' = w := by
  go_enter Tryz.func152, Tryz.ntmps152
  go_wp2
  go_ret
  exact ⟨rfl, rfl⟩
/-- What wrapped round is no product. -/
theorem over_quot (a b c : Int) (hb0 : b ≠ 0) (hb : inR b) (hc : c.tdiv b = a) (hm : ∃ k : Int, c = a * b + k * 18446744073709551616) : c = a * b := by
  obtain ⟨k, hk⟩ := hm
  have h1 := Int.mul_tdiv_add_tmod c b
  rw [hc] at h1
  have h2 : c.tmod b < 9223372036854775808 ∧ -9223372036854775808 < c.tmod b := by
    have h3 : (c.tmod b).natAbs = c.natAbs % b.natAbs := Int.natAbs_tmod c b
    have h4 : c.natAbs % b.natAbs < b.natAbs := Nat.mod_lt _ (by omega)
    unfold inR at hb
    omega
  have h5 : b * a = a * b := Int.mul_comm b a
  omega
set_option maxHeartbeats 2000000 in
theorem times_over (a b : Int) (w : World) (ha : inR a) (hb : inR b) (h : ¬ inR (a * b)) : Calls Tryz.prog 118 #[.int .i64 a, .int .i64 b] w fun e w' => (∃ c, e = .returned (.tuple #[.int .i64 c, .bool false])) ∧ w' = w := by
  have hb0 : ¬ b = 0 := fun e => h (by subst e; simp [inR])
  have hb1 : (b == 0) = false := by simpa using hb0
  by_cases hs : a = -9223372036854775808 ∧ b = -1
  · obtain ⟨rfl, rfl⟩ := hs
    have HW := wraps_yes w
    have e1 : (-9223372036854775808 : Int) * (-1) = 9223372036854775808 := by decide
    have e2 : wrap64 9223372036854775808 = -9223372036854775808 := by unfold wrap64; omega
    have e3 : (-9223372036854775808 : Int).tdiv (-1) = 9223372036854775808 := by decide
    clear h ha hb
    go_enter Tryz.func118, Tryz.ntmps118
    go_wp2_with (first | (go_at_call 152; refine HW.mono ?_; rintro e4 w2 ⟨rfl, rfl⟩))
    go_ret2
    exact ⟨⟨_, rfl⟩, rfl⟩
  · obtain ⟨c, hc⟩ : ∃ c, wrap64 (a * b) = c := ⟨_, rfl⟩
    have hcr : inR c := by rw [← hc]; unfold wrap64 inR; omega
    have hck : ∃ k : Int, c = a * b + k * 18446744073709551616 := by
      rw [← hc]
      unfold wrap64
      generalize a * b = m
      exact ⟨-((m + 9223372036854775808) / 18446744073709551616), by omega⟩
    have hcne : c ≠ a * b := fun e => h (e ▸ hcr)
    have hcm : ¬ (c = -9223372036854775808 ∧ b = -1) := by
      rintro ⟨rfl, rfl⟩
      apply hs
      obtain ⟨k, hk⟩ := hck
      unfold inR at *
      omega
    have hq : ¬ c.tdiv b = a := fun e => hcne (over_quot a b c hb0 hb e hck)
    have hqr : wrap64 (c.tdiv b) = c.tdiv b := by
      have h3 : (c.tdiv b).natAbs = c.natAbs / b.natAbs := Int.natAbs_tdiv c b
      have h4 : c.natAbs / b.natAbs ≤ c.natAbs := Nat.div_le_self _ _
      unfold inR at *
      by_cases hbm : b = -1
      · subst hbm
        have : c.tdiv (-1) = -c := by simp
        rw [this]
        unfold wrap64
        omega
      · by_cases hc9 : c = -9223372036854775808
        · have h5 : c.natAbs / b.natAbs < 9223372036854775808 := by
            rw [hc9]
            by_cases hb1' : b = 1
            · subst hb1'
              exfalso
              obtain ⟨k, hk⟩ := hck
              omega
            · have : 2 ≤ b.natAbs := by omega
              have h6 : (-9223372036854775808 : Int).natAbs / b.natAbs ≤ (-9223372036854775808 : Int).natAbs / 2 := Nat.div_le_div_left this (by omega)
              have h7 : (-9223372036854775808 : Int).natAbs / 2 = 4611686018427387904 := by decide
              omega
          unfold wrap64
          generalize c.tdiv b = q at *
          omega
        · unfold wrap64
          generalize c.tdiv b = q at *
          omega
    have hq2 : (c.tdiv b == a) = false := by simpa using hq
    clear h hcne hck hcm hcr ha hb hs
    generalize hqq : c.tdiv b = q at *
    go_enter Tryz.func118, Tryz.ntmps118
    go_wp2
    go_ret2
    exact ⟨⟨_, rfl⟩, rfl⟩
end Kc
end Go.Proofs.YtodeeegbajgafaaGreatDoor
