/- Tasks: of a choice, of a body; or. Tasks: of a choice, of a body; or. Or: what is done behind its forms. Names are looked up. Names, procedures, resets and shifts. Procedures made, resets and shifts. Shifts. Names are defined. Tasks that define and set names. A name is set. Continuations are called; bodies in a scope of their own. Forms are evaluated in turn. -/
import Derived.Test.YtodeeegbajgafaaGreatDoorQ22
import Derived.LaidEqlPtr
namespace Go.Proofs.YtodeeegbajgafaaGreatDoor
open Go.RowKit
open Mc

theorem neq_iface {t : TypeId} {x : Value} (w : World) (h : t ≠ 150) : (binOp .neq 60 (.iface t x) (.iface 150 (.bool false))).run Tryz.prog w = .ok (.bool true) w := by
  have u := Tryz.underlying60
  have h1 : (Op.equal 60 (.iface t x) (.iface 150 (.bool false))).run Tryz.prog w = .ok false w := by
    unfold Op.equal Op.maxDepth
    rw [show (10000 : Nat) = 9999 + 1 from rfl]
    unfold Op.equalIn
    simp [run_underlying u]
    intro e
    exact absurd e h
  simp only [binOp]
  simp [h1]
theorem neq_truth {b : Bool} (w : World) : (binOp .neq 60 (.iface 150 (.bool b)) (.iface 150 (.bool false))).run Tryz.prog w = .ok (.bool b) w := by
  have u := Tryz.underlying60
  have u' := Tryz.underlying150
  have hc : Tryz.t150.comparable = true := by kernel_rfl
  have h1 : (Op.equal 60 (.iface 150 (.bool b)) (.iface 150 (.bool false))).run Tryz.prog w = .ok (!b) w := by
    unfold Op.equal Op.maxDepth
    rw [show (10000 : Nat) = 9998 + 1 + 1 from rfl]
    unfold Op.equalIn
    simp [run_underlying u, hc]
    unfold Op.equalIn
    simp [run_underlying u']
  simp only [binOp]
  simp [h1]

set_option maxHeartbeats 1000000 in
theorem isTrue_of (t : TypeId) (y : Value) (b : Bool) (w : World) (hq : ∀ w, (binOp .neq 60 (.iface t y) (.iface 150 (.bool false))).run Tryz.prog w = .ok (.bool b) w) :
    Calls Tryz.prog 128 #[.iface t y] w fun e w' => e = .returned (.bool b) ∧ w' = w := by
  go_enter Tryz.func128, Tryz.ntmps128
  go_wp2
  go_ret
  exact ⟨rfl, rfl⟩

theorem isTrue_any (mb : Nat) (ok : Nat → Prop) (x : Value) (v : V) (w w0 : World) (h : RepM mb ok w0 x (.val v)) :
    Calls Tryz.prog 128 #[x] w fun e w' => e = .returned (.bool v.isTrue) ∧ w' = w := by
  cases h with
  | atom a =>
    cases a with
    | truth b => cases b <;> exact isTrue_of _ _ _ w (fun w => neq_truth w)
    | num n => exact isTrue_of _ _ _ w (fun w => neq_iface w (by decide))
    | sym n => exact isTrue_of _ _ _ w (fun w => neq_iface w (by decide))
    | empty => exact isTrue_of _ _ _ w (fun w => neq_iface w (by decide))
  | pair => exact isTrue_of _ _ _ w (fun w => neq_iface w (by decide))
  | basic0 => exact isTrue_of _ _ _ w (fun w => neq_iface w (by decide))
  | basic1 => exact isTrue_of _ _ _ w (fun w => neq_iface w (by decide))
  | clo => exact isTrue_of _ _ _ w (fun w => neq_iface w (by decide))
  | cont => exact isTrue_of _ _ _ w (fun w => neq_iface w (by decide))
end Go.Proofs.YtodeeegbajgafaaGreatDoor

namespace Go.Proofs.YtodeeegbajgafaaGreatDoor
open Go.RowKit
open Mc

theorem RepM.choose_inv {mb : Nat} {ok : Nat → Prop} {w : World} {x : Value} {t a e : Rd.F} {en : Env} (h : RepM mb ok w x (.fr (.choose t a e en))) :
    ∃ b1 b2 vt va ve at' T1 T2, x = capFn 161 [b1, b2] ∧ ok b1 ∧ ok b2 ∧ w.heap[b1]? = some (.cells #[vt, va, ve] T1 (0, 0)) ∧ w.heap[b2]? = some (.cells #[at'] T2 (0, 0)) ∧ RepF ok w va a ∧ RepF ok w ve e ∧ RepM mb ok w at' (.env en) := by
  cases h with
  | choose b1 b2 vt va ve at' T1 T2 _ _ _ _ k1 k2 hh1 hh2 h1 h2 h3 => exact ⟨b1, b2, vt, va, ve, at', T1, T2, rfl, k1, k2, hh1, hh2, h1, h2, h3⟩
theorem RepM.body_inv {mb : Nat} {ok : Nat → Prop} {w : World} {x : Value} {fs : List Rd.F} {en : Env} (h : RepM mb ok w x (.fr (.body fs en))) :
    ∃ b1 b2 s at' T1 T2, x = capFn 162 [b1, b2] ∧ ok b1 ∧ ok b2 ∧ w.heap[b1]? = some (.cells #[s] T1 (0, 0)) ∧ w.heap[b2]? = some (.cells #[at'] T2 (0, 0)) ∧ RepFs ok w s fs ∧ RepM mb ok w at' (.env en) := by
  cases h with
  | body b1 b2 s at' T1 T2 _ _ k1 k2 hh1 hh2 h1 h2 => exact ⟨b1, b2, s, at', T1, T2, rfl, k1, k2, hh1, hh2, h1, h2⟩

set_option maxHeartbeats 2000000 in
set_option maxRecDepth 10000 in
theorem goChoose (N : Nat → Prop) (g : Gh) (rb fuel : Nat) (s : St) (w : World) (h : RunAt N g rb fuel s w) (x : Value) (v : V) (hv : RepM g.mb (g.ok N) w x (.val v)) (b1 b2 : Nat) (vt va ve a : Value) (T1 T2 : TypeId) (y z : Rd.F) (e : Env)
    (hb1 : w.heap[b1]? = some (.cells #[vt, va, ve] T1 (0, 0))) (hb2 : w.heap[b2]? = some (.cells #[a] T2 (0, 0))) (h1 : RepF (g.ok N) w va y) (h2 : RepF (g.ok N) w ve z) (ha : RepM g.mb (g.ok N) w a (.env e)) :
    Calls Tryz.prog 161 #[ptrV rb, x, ptrV b1, ptrV b2] w (RunK N g rb fuel (s.eval (if v.isTrue then y else z) e) w) := by
  obtain ⟨p, rfl⟩ := RepM.ptr ha
  obtain ⟨t1, x1, rfl⟩ := RepF.iface h1
  obtain ⟨t2, x2, rfl⟩ := RepF.iface h2
  obtain ⟨t0, x0, rfl⟩ := RepM.iface hv
  obtain ⟨q0, q1, q2, _, _, _⟩ := cells3 hb1
  obtain ⟨q3, _⟩ := cells1 hb2
  have HI : Hid (Calls Tryz.prog 128 #[.iface t0 x0] w fun e w' => e = .returned (.bool v.isTrue) ∧ w' = w) := isTrue_any g.mb (g.ok N) _ v w w hv
  have HE1 : Hid (Calls Tryz.prog 110 #[.pointer (some ⟨rb, 0, none⟩), .iface t1 x1, .pointer p] w (RunK N g rb fuel (s.eval y e) w)) := evaluate_any N g rb fuel s w h _ _ y e h1 ha
  have HE2 : Hid (Calls Tryz.prog 110 #[.pointer (some ⟨rb, 0, none⟩), .iface t2 x2, .pointer p] w (RunK N g rb fuel (s.eval z e) w)) := evaluate_any N g rb fuel s w h _ _ z e h2 ha
  clear h h1 h2 ha hv hb1 hb2
  unfold ptrV
  cases hb : v.isTrue with
  | true =>
    rw [hb] at HI
    simp only [if_true]
    go_enter Tryz.func161, Tryz.ntmps161
    go_wp2_with (first | (go_at_call 128; refine HI.out.mono ?_; rintro e1 w1 ⟨rfl, rfl⟩) | (go_at_call 110; refine HE1.out.mono ?_; rintro e3 w3 ⟨rfl, hr3, hk3⟩))
    go_end0
    exact ⟨rfl, hr3, hk3⟩
  | false =>
    rw [hb] at HI
    simp only [Bool.false_eq_true, if_false]
    go_enter Tryz.func161, Tryz.ntmps161
    go_wp2_with (first | (go_at_call 128; refine HI.out.mono ?_; rintro e1 w1 ⟨rfl, rfl⟩) | (go_at_call 110; refine HE2.out.mono ?_; rintro e3 w3 ⟨rfl, hr3, hk3⟩))
    go_end0
    exact ⟨rfl, hr3, hk3⟩

/-- Forms behind the first. -/
theorem RepFs.tail {ok : Nat → Prop} {w : World} {g o cap n : Nat} {f : Rd.F} {fs : List Rd.F} (h : RepFs ok w (.slice (some ⟨g, o, none⟩) n cap) (f :: fs)) : RepFs ok w (.slice (some ⟨g, o + 1, none⟩) fs.length (cap - 1)) fs := by
  cases h with
  | list _ _ _ c T _ vf hg hh hn hcap hc hs =>
    simp only [List.length_cons] at hn
    refine .list g (o + 1) (cap - 1) c T fs (fun i => vf (i + 1)) hg hh (by omega) (by omega) ?_ ?_
    · intro i hi
      rw [← hc (i + 1) (by simp; omega)]
      congr 1; omega
    · intro i hi
      have := hs (i + 1) (by simp; omega)
      simpa using this
theorem RepFs.tail1 {ok : Nat → Prop} {w : World} {g o o' cap n : Nat} {f : Rd.F} (h : RepFs ok w (.slice (some ⟨g, o, none⟩) n cap) [f]) : RepFs ok w (.slice (some ⟨g, o', none⟩) 0 (cap - 1)) [] := by
  cases h with
  | list _ _ _ c T _ vf hg hh hn hcap hc hs =>
    exact .list g o' (cap - 1) c T [] (fun _ => undef) hg hh (Nat.zero_le _) (by omega) (fun i hi => absurd hi (Nat.not_lt_zero _)) (fun i hi => absurd hi (Nat.not_lt_zero _))

set_option maxHeartbeats 2000000 in
set_option maxRecDepth 10000 in
theorem goBody (N : Nat → Prop) (g : Gh) (rb fuel : Nat) (s s' : St) (w : World) (h : RunAt N g rb fuel s w) (x : Value) (v : V) (hv : RepM g.mb (g.ok N) w x (.val v)) (b1 b2 : Nat) (sl a : Value) (T1 T2 : TypeId) (f : Rd.F) (fs : List Rd.F) (e : Env) (k1 : g.ok N b1) (k2 : g.ok N b2)
    (hb1 : w.heap[b1]? = some (.cells #[sl] T1 (0, 0))) (hb2 : w.heap[b2]? = some (.cells #[a] T2 (0, 0))) (h1 : RepFs (g.ok N) w sl (f :: fs)) (ha : RepM g.mb (g.ok N) w a (.env e)) (hx : s.body fs e = some s') :
    Calls Tryz.prog 162 #[ptrV rb, x, ptrV b1, ptrV b2] w (RunK N g rb fuel s' w) := by
  cases fs with
  | nil => cases hx
  | cons f2 fs =>
  obtain ⟨p, rfl⟩ := RepM.ptr ha
  obtain ⟨t0, x0, rfl⟩ := RepM.iface hv
  obtain ⟨g0, o, cap, v0, rfl, hn, hcap, hg0, c0, hv0⟩ := h1.first
  simp only [List.length_cons] at hn
  have hc1 : ¬ cap = 1 := by omega
  have ht := h1.tail
  simp only [List.length_cons] at ht
  have HB : Hid (Calls Tryz.prog 143 #[.pointer (some ⟨rb, 0, none⟩), .slice (some ⟨g0, o + 1, none⟩) (fs.length + 1) (cap - 1), .pointer p] w.drew (RunK N g rb fuel s' w.drew)) :=
    body_any N g rb fuel s s' w.drew h.drew _ _ (f2 :: fs) e (ht.mono fun k _ ho => ⟨ho, rfl⟩) (ha.mono fun k _ ho => ⟨ho, rfl⟩) hx
  have hm1 := RM.ok h k1
  have hm2 := RM.ok h k2
  obtain ⟨q1, _⟩ := cells1 hb1
  obtain ⟨q2, _⟩ := cells1 hb2
  simp only [List.length_cons] at q1
  have i2 : (1 : Int) ≤ (fs.length : Int) + 1 + 1 := by omega
  have i3 : (fs.length : Int) + 1 + 1 ≤ (cap : Int) := by omega
  clear h h1 ha hv hb1 hb2 ht hx hv0
  unfold ptrV
  go_enter Tryz.func162, Tryz.ntmps162
  go_region_held3 (fun X => X.cell? ⟨b1, 0, none⟩ = some (.slice (some ⟨g0, o, none⟩) (fs.length + 1 + 1) cap) ∧ X.cell? ⟨b2, 0, none⟩ = some (.pointer p)) (go_keep) (first | (go_at_call 143; refine HB.out.mono ?_; rintro e3 w3 ⟨rfl, hr3, hk3⟩; have z1 := hk3.cell hm1 q1; have z2 := hk3.cell hm2 q2))
  go_wp2
  go_end0
  exact ⟨rfl, hr3, Kept.undrew hk3⟩
end Go.Proofs.YtodeeegbajgafaaGreatDoor

namespace Go.Proofs.YtodeeegbajgafaaGreatDoor
open Go.RowKit
open Mc

set_option maxHeartbeats 2000000 in
set_option maxRecDepth 10000 in
theorem runUntil_any (N : Nat → Prop) (g : Gh) (rb fuel : Nat) (s s' : St) (w : World) (h : RunAt N g rb fuel s w) (st : Bool) (sl a : Value) (fs : List Rd.F) (e : Env) (hs : RepFs (g.ok N) w sl fs) (ha : RepM g.mb (g.ok N) w a (.env e)) (hx : s.until_ st fs e = some s') :
    Calls Tryz.prog 146 #[ptrV rb, .bool st, sl, a] w (RunK N g rb fuel s' w) := by
  have hmf : ∀ fn first cap w, (Instr.makeFunc fn first cap).run Tryz.prog w = .ok (.func fn first cap) w := fun _ _ _ _ => rfl
  cases fs with
  | nil => cases hx
  | cons f fs =>
  obtain ⟨g0, o, cap, v0, rfl, hn, hcap, hg0, c0, hv0⟩ := hs.first
  obtain ⟨p, rfl⟩ := RepM.ptr ha
  obtain ⟨tv, xv, rfl⟩ := RepF.iface hv0
  have hB : Below w.heap.size w (((w.alloc (.cells #[.bool st] 4)).alloc (.cells #[.slice (some ⟨g0, o, none⟩) (fs.length + 1) cap] 65)).alloc (.cells #[.pointer p] 99)) := (((Below.refl _ w).alloc (Nat.le_refl _) _).alloc (by simp) _).alloc (by simp; omega) _
  have h1 := h.below hB
  have hst : ∀ k, k < w.heap.size → g.ok N k → g.ok N k ∧ (((w.alloc (.cells #[.bool st] 4)).alloc (.cells #[.slice (some ⟨g0, o, none⟩) (fs.length + 1) cap] 65)).alloc (.cells #[.pointer p] 99)).heap[k]? = w.heap[k]? := fun k hk ho => ⟨ho, hB.block k hk⟩
  have k1 := Gh.ok_new h.m w.heap.size (Nat.le_refl _)
  have k2 := Gh.ok_new h.m (w.heap.size + 1) (by omega)
  have k3 := Gh.ok_new h.m (w.heap.size + 2) (by omega)
  have b0 : (((w.alloc (.cells #[.bool st] 4)).alloc (.cells #[.slice (some ⟨g0, o, none⟩) (fs.length + 1) cap] 65)).alloc (.cells #[.pointer p] 99)).heap[w.heap.size]? = some (.cells #[.bool st] 4 (0, 0)) := at_alloc (at_alloc (at_new w _) _) _
  have b1 : (((w.alloc (.cells #[.bool st] 4)).alloc (.cells #[.slice (some ⟨g0, o, none⟩) (fs.length + 1) cap] 65)).alloc (.cells #[.pointer p] 99)).heap[w.heap.size + 1]? = some (.cells #[.slice (some ⟨g0, o, none⟩) (fs.length + 1) cap] 65 (0, 0)) := at_alloc (by simpa using at_new (w.alloc (.cells #[.bool st] 4)) (.cells #[.slice (some ⟨g0, o, none⟩) (fs.length + 1) cap] 65)) _
  have b2 : (((w.alloc (.cells #[.bool st] 4)).alloc (.cells #[.slice (some ⟨g0, o, none⟩) (fs.length + 1) cap] 65)).alloc (.cells #[.pointer p] 99)).heap[w.heap.size + 2]? = some (.cells #[.pointer p] 99 (0, 0)) := by simpa using at_new ((w.alloc (.cells #[.bool st] 4)).alloc (.cells #[.slice (some ⟨g0, o, none⟩) (fs.length + 1) cap] 65)) (.cells #[.pointer p] 99)
  have hm0 := RM.ok h hg0
  have hm1 := RM.ok h k2
  have hm2 := RM.ok h k3
  generalize hW : (((w.alloc (.cells #[.bool st] 4)).alloc (.cells #[.slice (some ⟨g0, o, none⟩) (fs.length + 1) cap] 65)).alloc (.cells #[.pointer p] 99)) = W at *
  have c0' : W.cell? ⟨g0, o, none⟩ = some (.iface tv xv) := (Kept.of_below hB (fun _ => False)).cell id c0
  have hv1 := hv0.mono hst
  have ha1 := ha.mono hst
  have hs1 := hs.mono hst
  have hfr : RepM g.mb (g.ok N) W (capFn 165 [w.heap.size, w.heap.size + 1, w.heap.size + 2]) (.fr (.until_ st (f :: fs) e)) := .until_ _ _ _ _ _ _ 4 65 99 _ _ k1 k2 k3 b0 b1 b2 hs1 ha1
  obtain ⟨q1, u1⟩ := cells1 b1
  obtain ⟨q2, u2⟩ := cells1 b2
  have hsz := hB.size
  have HX := (show Hid _ from hx)
  have HK := (show Hid _ from Kept.of_below hB (RM g rb))
  have HT : Hid (Calls Tryz.prog 160 #[.pointer (some ⟨rb, 0, none⟩), .func (.func 165) #[] #[.pointer (some ⟨w.heap.size, 0, none⟩), .pointer (some ⟨w.heap.size + 1, 0, none⟩), .pointer (some ⟨w.heap.size + 2, 0, none⟩)]] W (RunK N g rb fuel (s.push (.until_ st (f :: fs) e)) W)) := then_any N g rb fuel s W h1 165 [w.heap.size, w.heap.size + 1, w.heap.size + 2] _ hfr
  have HW := (show Hid _ from hW)
  clear hx hs ha hv0 hs1 hst hW hfr
  unfold ptrV
  have hgo : ∀ (W2 : World) (s2 : St), RunAt N g rb fuel s2 W2 → Kept (RM g rb) W W2 → RepF (g.ok N) W2.drew (.iface tv xv) f ∧ RepM g.mb (g.ok N) W2.drew (.pointer p) (.env e) ∧ RunAt N g rb fuel s2 W2.drew := fun W2 s2 hr hk =>
    ⟨hv1.mono (h1.stays hk.drew), ha1.mono (h1.stays hk.drew), hr.drew⟩
  have HG := (show Hid _ from hgo)
  clear hgo
  cases fs with
  | nil =>
    have hx' := HX.out
    simp only [St.until_, Option.some.injEq] at hx'
    subst hx'
    simp only [List.length_nil, Nat.zero_add] at HW q1
    clear HT b1 hn HX
    have HE : Hid (Calls Tryz.prog 110 #[.pointer (some ⟨rb, 0, none⟩), .iface tv xv, .pointer p] W.drew (RunK N g rb fuel (s.eval f e) W.drew)) := by
      obtain ⟨i1, i2, i3⟩ := HG.out W s h1 (Kept.refl _ _)
      exact evaluate_any N g rb fuel s W.drew i3 _ _ f e i1 i2
    go_enter Tryz.func146, Tryz.ntmps146
    go_wp2
    rw [HW.out]
    go_region_held3 (fun X => X.cell? ⟨w.heap.size + 1, 0, none⟩ = some (.slice (some ⟨g0, o, none⟩) 1 cap) ∧ X.cell? ⟨w.heap.size + 2, 0, none⟩ = some (.pointer p) ∧ X.cell? ⟨g0, o, none⟩ = some (.iface tv xv)) (go_keep) (first | (go_at_call 110; refine HE.out.mono ?_; rintro e3 w3 ⟨rfl, hr3, hk3⟩; have z1 := hk3.cell hm1 q1; have z2 := hk3.cell hm2 q2; have z3 := hk3.cell hm0 c0'))
    go_wp2
    go_end0
    exact ⟨rfl, hr3, HK.out.trans (Kept.undrew hk3)⟩
  | cons f2 fs =>
    have hx' := HX.out
    simp only [St.until_, Option.some.injEq] at hx'
    subst hx'
    simp only [List.length_cons] at HW q1 hn
    clear b1 HX
    have j1 : (0 : Int) < (fs.length : Int) + 1 + 1 := by omega
    have j2 : ((0 : Int) < (fs.length : Int) + 1 + 1) = True := by simp; omega
    go_enter Tryz.func146, Tryz.ntmps146
    go_wp2_with (go_at_call 160; rw [HW.out]; refine HT.out.mono ?_; rintro e2 w2 ⟨rfl, hr2, hk2⟩; have y1 := hk2.cell hm1 q1; have y2 := hk2.cell hm2 q2; have y3 := hk2.cell hm0 c0')
    have HE : Hid (Calls Tryz.prog 110 #[.pointer (some ⟨rb, 0, none⟩), .iface tv xv, .pointer p] w2.drew (RunK N g rb fuel ((s.push (.until_ st (f :: f2 :: fs) e)).eval f e) w2.drew)) := by
      obtain ⟨i1, i2, i3⟩ := HG.out w2 _ hr2 hk2
      exact evaluate_any N g rb fuel _ w2.drew i3 _ _ f e i1 i2
    go_region_held3 (fun X => X.cell? ⟨w.heap.size + 1, 0, none⟩ = some (.slice (some ⟨g0, o, none⟩) (fs.length + 1 + 1) cap) ∧ X.cell? ⟨w.heap.size + 2, 0, none⟩ = some (.pointer p) ∧ X.cell? ⟨g0, o, none⟩ = some (.iface tv xv)) (go_keep) (first | (go_at_call 110; refine HE.out.mono ?_; rintro e3 w3 ⟨rfl, hr3, hk3⟩; have z1 := hk3.cell hm1 y1; have z2 := hk3.cell hm2 y2; have z3 := hk3.cell hm0 y3))
    go_wp2
    go_end0
    exact ⟨rfl, hr3, (HK.out.trans hk2).trans (Kept.undrew hk3)⟩

theorem RepM.until_inv {mb : Nat} {ok : Nat → Prop} {w : World} {x : Value} {st : Bool} {fs : List Rd.F} {en : Env} (h : RepM mb ok w x (.fr (.until_ st fs en))) :
    ∃ b0 b1 b2 s at' T0 T1 T2, x = capFn 165 [b0, b1, b2] ∧ ok b0 ∧ ok b1 ∧ ok b2 ∧ w.heap[b0]? = some (.cells #[.bool st] T0 (0, 0)) ∧ w.heap[b1]? = some (.cells #[s] T1 (0, 0)) ∧ w.heap[b2]? = some (.cells #[at'] T2 (0, 0)) ∧ RepFs ok w s fs ∧ RepM mb ok w at' (.env en) := by
  cases h with
  | until_ b0 b1 b2 _ s at' T0 T1 T2 _ _ k0 k1 k2 hh0 hh1 hh2 h1 h2 => exact ⟨b0, b1, b2, s, at', T0, T1, T2, rfl, k0, k1, k2, hh0, hh1, hh2, h1, h2⟩

set_option maxHeartbeats 2000000 in
set_option maxRecDepth 10000 in
theorem goUntil (N : Nat → Prop) (g : Gh) (rb fuel : Nat) (s s' : St) (w : World) (h : RunAt N g rb fuel s w) (x : Value) (v : V) (hv : RepM g.mb (g.ok N) w x (.val v)) (b0 b1 b2 : Nat) (st : Bool) (sl a : Value) (T0 T1 T2 : TypeId) (f : Rd.F) (fs : List Rd.F) (e : Env) (k0 : g.ok N b0) (k1 : g.ok N b1) (k2 : g.ok N b2)
    (hb0 : w.heap[b0]? = some (.cells #[.bool st] T0 (0, 0))) (hb1 : w.heap[b1]? = some (.cells #[sl] T1 (0, 0))) (hb2 : w.heap[b2]? = some (.cells #[a] T2 (0, 0))) (h1 : RepFs (g.ok N) w sl (f :: fs)) (ha : RepM g.mb (g.ok N) w a (.env e)) (hx : (if v.isTrue = st then some (s.give v) else s.until_ st fs e) = some s') :
    Calls Tryz.prog 165 #[ptrV rb, x, ptrV b0, ptrV b1, ptrV b2] w (RunK N g rb fuel s' w) := by
  obtain ⟨p, rfl⟩ := RepM.ptr ha
  obtain ⟨t0, x0, rfl⟩ := RepM.iface hv
  obtain ⟨g0, o, cap, v0, rfl, hn, hcap, hg0, c0, hv0⟩ := h1.first
  have hm0 := RM.ok h k0
  have hm1 := RM.ok h k1
  have hm2 := RM.ok h k2
  obtain ⟨q0, _⟩ := cells1 hb0
  obtain ⟨q1, _⟩ := cells1 hb1
  obtain ⟨q2, _⟩ := cells1 hb2
  have HI : Hid (Calls Tryz.prog 128 #[.iface t0 x0] w.drew fun e w' => e = .returned (.bool v.isTrue) ∧ w' = w.drew) := isTrue_any g.mb (g.ok N) _ v w.drew w hv
  by_cases hb : v.isTrue = st
  · rw [if_pos hb] at hx
    simp only [Option.some.injEq] at hx
    subst hx
    rw [hb] at HI
    have hvd : RepM g.mb (g.ok N) w.drew (.iface t0 x0) (.val v) := hv.mono fun k _ ho => ⟨ho, rfl⟩
    have HG : Hid (Calls Tryz.prog 139 #[.pointer (some ⟨rb, 0, none⟩), .iface t0 x0] w.drew (RunK N g rb fuel (s.give v) w.drew)) := give_any N g rb fuel s w.drew h.drew _ v hvd
    clear h h1 ha hv hb0 hb1 hb2 hv0 hvd hb
    unfold ptrV
    go_enter Tryz.func165, Tryz.ntmps165
    go_wp2
    go_region_held3 (fun X => X.cell? ⟨b0, 0, none⟩ = some (.bool st)) (go_keep) (first | (go_at_call 128; refine HI.out.mono ?_; rintro e1 w1 ⟨rfl, rfl⟩))
    go_wp2_with (first | (go_at_call 139; refine HG.out.mono ?_; rintro e3 w3 ⟨rfl, hr3, hk3⟩))
    go_end0
    exact ⟨rfl, hr3, Kept.undrew hk3⟩
  · rw [if_neg hb] at hx
    cases fs with
    | nil => cases hx
    | cons f2 fs =>
    simp only [List.length_cons] at hn q1
    have ht := h1.tail
    simp only [List.length_cons] at ht
    have HB : Hid (Calls Tryz.prog 146 #[.pointer (some ⟨rb, 0, none⟩), .bool st, .slice (some ⟨g0, o + 1, none⟩) (fs.length + 1) (cap - 1), .pointer p] w.drew.drew (RunK N g rb fuel s' w.drew.drew)) :=
      runUntil_any N g rb fuel s s' w.drew.drew h.drew.drew st _ _ (f2 :: fs) e (ht.mono fun k _ ho => ⟨ho, rfl⟩) (ha.mono fun k _ ho => ⟨ho, rfl⟩) hx
    have hc1 : ¬ cap = 1 := by omega
    have i2 : (1 : Int) ≤ (fs.length : Int) + 1 + 1 := by omega
    have i3 : (fs.length : Int) + 1 + 1 ≤ (cap : Int) := by omega
    have hq : (v.isTrue == st) = false := by simpa using hb
    clear h h1 ha hv hb0 hb1 hb2 ht hx hv0
    unfold ptrV
    go_enter Tryz.func165, Tryz.ntmps165
    go_wp2
    go_region_held3 (fun X => X.cell? ⟨b0, 0, none⟩ = some (.bool st)) (go_keep) (first | (go_at_call 128; refine HI.out.mono ?_; rintro e1 w1 ⟨rfl, rfl⟩))
    go_wp2
    go_region_held3 (fun X => X.cell? ⟨b0, 0, none⟩ = some (.bool st) ∧ X.cell? ⟨b1, 0, none⟩ = some (.slice (some ⟨g0, o, none⟩) (fs.length + 1 + 1) cap) ∧ X.cell? ⟨b2, 0, none⟩ = some (.pointer p)) (go_keep) (first | (go_at_call 146; refine HB.out.mono ?_; rintro e3 w3 ⟨rfl, hr3, hk3⟩; have z0 := hk3.cell hm0 q0; have z1 := hk3.cell hm1 q1; have z2 := hk3.cell hm2 q2))
    go_wp2
    go_end0
    exact ⟨rfl, hr3, Kept.undrew (Kept.undrew hk3)⟩
end Go.Proofs.YtodeeegbajgafaaGreatDoor

namespace Go.Proofs.YtodeeegbajgafaaGreatDoor
open Go.RowKit
open Mc

theorem find_ix (n : Rd.Sym) : ∀ (G : List (Rd.Sym × V)) (xs : List Nat) (k : Nat) (v : V), xs.length = G.length → find? n G = some v →
    ∃ i, ∃ (hi : i < G.length), ∃ b, xs[i]? = some b ∧ G[i].1 = n ∧ G[i].2 = v ∧ symIx n ((G.map (·.1)).zip (xs.map ptrV)) k = some (k + i, ptrV b) ∧ ∀ v', put n v' G = G.set i (n, v')
  | [], xs, k, v, hl, h => by simp [find?] at h
  | g :: G, xs, k, v, hl, h => by
    cases xs with
    | nil => simp at hl
    | cons x xs =>
    simp only [List.length_cons, Nat.add_right_cancel_iff] at hl
    by_cases hq : g.1 = n
    · simp only [find?, List.find?_cons, hq, beq_self_eq_true, Option.map_some, Option.some.injEq] at h
      refine ⟨0, by simp, x, by simp, by simpa using hq, by simpa using h, ?_, ?_⟩
      · simp [symIx, hq]
      · intro v'; simp [put, hq]
    · have hq1 : (g.1 == n) = false := by simpa using hq
      have hq2 : (n == g.1) = false := by simpa using fun e => hq e.symm
      have h' : find? n G = some v := by
        simp only [find?, List.find?_cons, hq1] at h
        exact h
      obtain ⟨i, hi, b, h1, h2, h3, h4, h5⟩ := find_ix n G xs (k + 1) v hl h'
      refine ⟨i + 1, by simp; omega, b, by simpa using h1, by simpa using h2, by simpa using h3, ?_, ?_⟩
      · simp only [List.map_cons, List.zip_cons_cons, symIx, hq2, Bool.false_eq_true, if_false, h4]
        simp; omega
      · intro v'; simp [put, hq, h5 v']

theorem zero152 : ∀ w, (zeroValue 152).run Tryz.prog w = .ok (.pointer none) w := fun w => by kernel_rfl

def nmV (n : Rd.Sym) : Value := .agg #[symV n, .bool false, .int .i64 0, .int .i64 0]

set_option maxHeartbeats 2000000 in
set_option maxRecDepth 10000 in
theorem find_global (N : Nat → Prop) (g : Gh) (rb fuel : Nat) (s : St) (w : World) (h : RunAt N g rb fuel s w) (n : Rd.Sym) (a : Value) (i b : Nat) (hix : symIx n ((s.G.map (·.1)).zip (g.xs.map ptrV)) 0 = some (i, ptrV b)) :
    Calls Tryz.prog 158 #[ptrV rb, nmV n, a] w fun e w' => e = .returned (ptrV b) ∧ Below w.heap.size w w' := by
  obtain ⟨T, vf, va, vv, vt, vb, hb, hc, ht, hy⟩ := h.blk
  obtain ⟨T2, hm⟩ := h.m.mach
  have hsy := h.m.glob
  have hB : Below w.heap.size w (w.alloc (.cells #[symV n, .bool false, .int .i64 0, .int .i64 0] 178)) := (Below.refl _ w).alloc (Nat.le_refl _) _
  have hlk := lookup_sym (w := (w.alloc (.cells #[symV n, .bool false, .int .i64 0, .int .i64 0] 178)).drew) Tryz.underlying105 zero152 (b := g.db) (S := (s.G.map (·.1)).zip (g.xs.map ptrV)) (by
    obtain ⟨es, c, e1, e2⟩ := hsy
    exact ⟨es, c, at_drew (Below.at hB e1), e2⟩) n
  rw [hix] at hlk
  simp only [Option.map_some, Option.getD_some, ptrV] at hlk
  have c0 := cell_of_at hb 0
  have m0 := cell_of_at hm 0
  simp only [runCells, List.getElem?_toArray, List.getElem?_cons_zero, ptrV] at c0 m0
  have hlt := lt_of_at hb
  have hlm := lt_of_at hm
  clear h hb hm hc ht hy hsy hix
  unfold nmV symV ptrV at *
  go_enter Tryz.func158, Tryz.ntmps158
  go_wp2
  go_region
  all_goals
    go_wp2
    go_ret
    exact ⟨rfl, hB.drew⟩

theorem RepM.env_inv {mb : Nat} {ok : Nat → Prop} {w : World} {x : Value} {vs : List V} {e : Env} (h : RepM mb ok w x (.env (vs :: e))) :
    ∃ b s at' T, x = ptrV b ∧ ok b ∧ w.heap[b]? = some (.cells #[s, at'] T (0, 0)) ∧ RepM mb ok w s (.vals vs) ∧ RepM mb ok w at' (.env e) := by
  cases h with
  | env1 b s at' T _ _ hb hh h1 h2 => exact ⟨b, s, at', T, rfl, hb, hh, h1, h2⟩
theorem RepM.vals_inv {mb : Nat} {ok : Nat → Prop} {w : World} {x : Value} {vs : List V} (h : RepM mb ok w x (.vals vs)) (i : Nat) (hi : i < vs.length) :
    ∃ g o cap y, x = .slice (some ⟨g, o, none⟩) vs.length cap ∧ vs.length ≤ cap ∧ cap ≤ maxLen ∧ ok g ∧ w.cell? ⟨g, o + i, none⟩ = some y ∧ RepM mb ok w y (.val vs[i]) := by
  cases h with
  | vals0 => exact absurd hi (Nat.not_lt_zero _)
  | vals g o cap c T _ vf hg hh hn hcap hc hs => exact ⟨g, o, cap, vf i, rfl, hn, hcap, hg, by rw [cell_of_at hh]; exact hc i hi, hs i hi⟩

def lcV (n : Rd.Sym) (up slot : Nat) : Value := .agg #[symV n, .bool true, .int .i64 up, .int .i64 slot]

set_option maxHeartbeats 2000000 in
set_option maxRecDepth 10000 in
theorem find_local (N : Nat → Prop) (g : Gh) (rb : Nat) (w : World) (n : Rd.Sym) (up slot : Nat) (hup : up ≤ 100000) (a : Value) (e : Env) (v : V) (ha : RepM g.mb (g.ok N) w a (.env e)) (hl : Mc.look e up slot = some v) :
    Calls Tryz.prog 158 #[ptrV rb, lcV n up slot, a] w fun e w' => (∃ gg oo y, e = .returned (.pointer (some ⟨gg, oo, none⟩)) ∧ w.cell? ⟨gg, oo, none⟩ = some y ∧ RepM g.mb (g.ok N) w y (.val v)) ∧ Below w.heap.size w w' := by
  have hup' : up < e.length := by
    unfold Mc.look at hl
    split at hl
    · rename_i vs hv; exact (List.getElem?_eq_some_iff.1 hv).1
    · cases hl
  obtain ⟨vs, hvs⟩ : ∃ vs, e[up]? = some vs := ⟨_, List.getElem?_eq_getElem hup'⟩
  have hsl : vs[slot]? = some v := by unfold Mc.look at hl; rw [hvs] at hl; exact hl
  obtain ⟨hs1, hs2⟩ := List.getElem?_eq_some_iff.1 hsl
  have hdr : e.drop up = vs :: e.drop (up + 1) := by
    rw [List.drop_eq_getElem_cons hup']
    congr 1
    exact (List.getElem?_eq_some_iff.1 hvs).2
  have hB : Below w.heap.size w (w.alloc (.cells #[symV n, .bool true, .int .i64 up, .int .i64 slot] 178)) := (Below.refl _ w).alloc (Nat.le_refl _) _
  have hbx := at_new w (.cells #[symV n, .bool true, .int .i64 up, .int .i64 slot] 178)
  have HD := (show Hid _ from hdr)
  have HS := (show Hid _ from hs2)
  clear hl hvs hsl hdr hs2
  obtain ⟨p, rfl⟩ := RepM.ptr ha
  unfold lcV symV ptrV at *
  go_enter Tryz.func158, Tryz.ntmps158
  go_wp2
  go_loopg [2, 22] up (fun k u i wr => ∃ j : Nat, j + k = up ∧ i = .int .i64 j ∧ RepM g.mb (g.ok N) w u (.env (e.drop j)) ∧ wr = w.alloc (.cells #[.string ⟨n.toArray⟩, .bool true, .int .i64 up, .int .i64 slot] 178))
  case atStart => exact ⟨0, by omega, rfl, by simpa using ha, rfl⟩
  case round =>
    obtain ⟨j, hj, rfl, hr, rfl⟩ := hrel
    by_cases hlt : j < up
    · rw [List.drop_eq_getElem_cons (by omega)] at hr
      obtain ⟨b, s, at', T, rfl, hok, hh, _, hr2⟩ := hr.env_inv
      obtain ⟨p2, rfl⟩ := RepM.ptr hr2
      obtain ⟨d0, d1, _, _⟩ := cells2 hh
      have hlb := lt_of_at hh
      clear hr hh
      unfold ptrV
      go_wp2
      go_roundg (gk - 1)
      case measure => omega
      case rel => exact ⟨j + 1, by omega, by go_num, hr2, rfl⟩
    · have hju : j = up := by omega
      subst hju
      rw [HD.out] at hr
      obtain ⟨b, s, at', T, rfl, hok, hh, hvals, _⟩ := hr.env_inv
      obtain ⟨gg, oo, cap, y, rfl, hn, hcap, hg, hcell, hy⟩ := hvals.vals_inv slot hs1
      rw [HS.out] at hy
      obtain ⟨d0, d1, _, _⟩ := cells2 hh
      have hlb := lt_of_at hh
      have i1 : (0 : Int) ≤ (slot : Int) := by omega
      have i2 : (slot : Int) < (vs.length : Int) := by omega
      clear hr hh hvals
      unfold ptrV
      go_wp2
      go_region
      all_goals
        go_wp2
        go_ret
        exact ⟨⟨gg, oo + slot, y, rfl, hcell, hy⟩, hB.drew⟩
end Go.Proofs.YtodeeegbajgafaaGreatDoor

namespace Go.Proofs.YtodeeegbajgafaaGreatDoor
open Go.RowKit
open Mc

/-- The box of a name. -/
theorem MachAt.box {N : Nat → Prop} {g : Gh} {G : List (Rd.Sym × V)} {shown : List (List UInt8)} {w : World} (h : MachAt N g G shown w) {n : Rd.Sym} {v : V} (hf : find? n G = some v) :
    ∃ i, ∃ (_ : i < G.length), ∃ b x T, g.xs[i]? = some b ∧ symIx n ((G.map (·.1)).zip (g.xs.map ptrV)) 0 = some (i, ptrV b) ∧ w.heap[b]? = some (.cells #[x] T (0, 0)) ∧ RepM g.mb (g.ok N) w x (.val v) ∧ ∀ v', put n v' G = G.set i (n, v') := by
  obtain ⟨i, hi, b, h1, h2, h3, h4, h5⟩ := find_ix n G g.xs 0 v h.len hf
  obtain ⟨b', x, T, e1, e2, e3⟩ := h.boxes i hi
  rw [h1] at e1
  cases e1
  rw [h3] at e3
  rw [Nat.zero_add] at h4
  exact ⟨i, hi, b, x, T, h1, h4, e2, e3, h5⟩

set_option maxHeartbeats 2000000 in
set_option maxRecDepth 10000 in
theorem look_global (N : Nat → Prop) (g : Gh) (rb fuel : Nat) (s : St) (w : World) (h : RunAt N g rb fuel s w) (n : Rd.Sym) (a : Value) (e : Env) (v : V) (ha : RepM g.mb (g.ok N) w a (.env e)) (hf : find? n s.G = some v) :
    Calls Tryz.prog 140 #[ptrV rb, nmV n, a] w (RunK N g rb fuel (s.give v) w) := by
  obtain ⟨p, rfl⟩ := RepM.ptr ha
  have hB : Below w.heap.size w (w.alloc (.cells #[symV n, .bool false, .int .i64 0, .int .i64 0] 178)) := (Below.refl _ w).alloc (Nat.le_refl _) _
  have h1 := h.below hB
  obtain ⟨i, hi, b, x, T, e1, e2, e3, e4, _⟩ := h.m.box hf
  obtain ⟨tv, xv, rfl⟩ := RepM.iface e4
  have HF : Hid (Calls Tryz.prog 158 #[.pointer (some ⟨rb, 0, none⟩), .agg #[.string ⟨n.toArray⟩, .bool false, .int .i64 0, .int .i64 0], .pointer p] (w.alloc (.cells #[.string ⟨n.toArray⟩, .bool false, .int .i64 0, .int .i64 0] 178)) fun e w' => e = .returned (.pointer (some ⟨b, 0, none⟩)) ∧ Below (w.alloc (.cells #[.string ⟨n.toArray⟩, .bool false, .int .i64 0, .int .i64 0] 178)).heap.size (w.alloc (.cells #[.string ⟨n.toArray⟩, .bool false, .int .i64 0, .int .i64 0] 178)) w') := find_global N g rb fuel s _ h1 n _ i b e2
  have hst : ∀ w2, Below w.heap.size w w2 → Calls Tryz.prog 139 #[.pointer (some ⟨rb, 0, none⟩), .iface tv xv] w2 (RunK N g rb fuel (s.give v) w2) := fun w2 hb => give_any N g rb fuel s w2 (h.below hb) _ v (e4.mono fun k hk ho => ⟨ho, hb.block k hk⟩)
  have HG := (show Hid _ from hst)
  clear h h1 ha e4 hst hf
  unfold nmV symV ptrV at *
  go_enter Tryz.func140, Tryz.ntmps140
  go_wp2_with (first | (go_at_call 158; refine HF.out.mono ?_; rintro e5 w2 ⟨rfl, hb2⟩; have hB2 := hB.trans (hb2.mono hB.size); obtain ⟨q0, _⟩ := cells1 (Below.at hB2 e3)) | (go_at_call 139; refine (HG.out _ hB2).mono ?_; rintro e6 w3 ⟨rfl, hr3, hk3⟩))
  go_end0
  exact ⟨rfl, hr3, (Kept.of_below hB2 _).trans hk3⟩

set_option maxHeartbeats 2000000 in
set_option maxRecDepth 10000 in
theorem look_local (N : Nat → Prop) (g : Gh) (rb fuel : Nat) (s : St) (w : World) (h : RunAt N g rb fuel s w) (n : Rd.Sym) (up slot : Nat) (hup : up ≤ 100000) (a : Value) (e : Env) (v : V) (ha : RepM g.mb (g.ok N) w a (.env e)) (hl : Mc.look e up slot = some v) :
    Calls Tryz.prog 140 #[ptrV rb, lcV n up slot, a] w (RunK N g rb fuel (s.give v) w) := by
  have hB : Below w.heap.size w (w.alloc (.cells #[symV n, .bool true, .int .i64 up, .int .i64 slot] 178)) := (Below.refl _ w).alloc (Nat.le_refl _) _
  have h1 := h.below hB
  have ha1 : RepM g.mb (g.ok N) (w.alloc (.cells #[symV n, .bool true, .int .i64 up, .int .i64 slot] 178)) a (.env e) := ha.mono fun k hk ho => ⟨ho, hB.block k hk⟩
  obtain ⟨p, rfl⟩ := RepM.ptr ha
  have HF := find_local N g rb (w.alloc (.cells #[symV n, .bool true, .int .i64 up, .int .i64 slot] 178)) n up slot hup _ e v ha1 hl
  unfold lcV symV ptrV at *
  generalize hW : w.alloc (.cells #[.string ⟨n.toArray⟩, .bool true, .int .i64 up, .int .i64 slot] 178) = W at *
  have HW := (show Hid _ from hW)
  have hst : ∀ w2 x, RepM g.mb (g.ok N) W x (.val v) → Below W.heap.size W w2 → Calls Tryz.prog 139 #[.pointer (some ⟨rb, 0, none⟩), x] w2 (RunK N g rb fuel (s.give v) w2) := fun w2 x hx hb => give_any N g rb fuel s w2 (h1.below hb) _ v (hx.mono fun k hk ho => ⟨ho, hb.block k hk⟩)
  have HG := (show Hid _ from hst)
  have hbx : W.heap[w.heap.size]? = some (.cells #[.string ⟨n.toArray⟩, .bool true, .int .i64 up, .int .i64 slot] 178 (0, 0)) := by rw [← hW]; exact at_new w _
  clear h h1 ha ha1 hst hl hW
  go_enter Tryz.func140, Tryz.ntmps140
  go_wp2_with (first | (go_at_call 158; rw [HW.out]; refine HF.mono ?_; rintro e5 w2 ⟨⟨gg, oo, y, rfl, hy1, hy2⟩, hb2⟩; obtain ⟨tv, xv, rfl⟩ := RepM.iface hy2; have q0 := (Kept.of_below hb2 (fun _ => False)).cell id hy1) | (go_at_call 139; refine (HG.out _ _ hy2 hb2).mono ?_; rintro e6 w3 ⟨rfl, hr3, hk3⟩))
  go_end0
  exact ⟨rfl, hr3, ((Kept.of_below hB _).trans (Kept.of_below hb2 _)).trans hk3⟩
end Go.Proofs.YtodeeegbajgafaaGreatDoor

namespace Go.Proofs.YtodeeegbajgafaaGreatDoor
open Go.RowKit
open Mc

set_option maxHeartbeats 2000000 in
theorem newClosure_any (N : Nat → Prop) (g : Gh) (w : World) (hnew : ∀ k, w.heap.size ≤ k → g.ok N k) (k : Nat) (sl a : Value) (body : List Rd.F) (e : Env) (hs : RepFs (g.ok N) w sl body) (ha : RepM g.mb (g.ok N) w a (.env e)) :
    Calls Tryz.prog 142 #[.agg #[.int .i64 k, sl], a] w fun r w' => ∃ b, r = .returned (ptrV b) ∧ RepM g.mb (g.ok N) w' (.iface 226 (ptrV b)) (.val (.clo k body e)) ∧ Below w.heap.size w w' := by
  obtain ⟨fa, fc, rfl, _, _⟩ := RepFs.shape hs
  obtain ⟨p, rfl⟩ := RepM.ptr ha
  have hB : Below w.heap.size w ((w.alloc (.cells #[.int .i64 k, .slice (some fa) body.length fc] 214)).alloc (.cells #[.int .i64 k, .int .i64 k, .slice (some fa) body.length fc, .pointer p] 254)) := ((Below.refl _ w).alloc (Nat.le_refl _) _).alloc (by simp) _
  have hR : RepM g.mb (g.ok N) ((w.alloc (.cells #[.int .i64 k, .slice (some fa) body.length fc] 214)).alloc (.cells #[.int .i64 k, .int .i64 k, .slice (some fa) body.length fc, .pointer p] 254)) (.iface 226 (ptrV (w.heap.size + 1))) (.val (.clo k body e)) :=
    .clo (w.heap.size + 1) k _ _ 254 body e (hnew _ (by omega)) (by simpa using at_new (w.alloc (.cells #[.int .i64 k, .slice (some fa) body.length fc] 214)) (.cells #[.int .i64 k, .int .i64 k, .slice (some fa) body.length fc, .pointer p] 254)) (hs.mono fun j hj ho => ⟨ho, hB.block j hj⟩) (ha.mono fun j hj ho => ⟨ho, hB.block j hj⟩)
  clear hs ha
  go_enter Tryz.func142, Tryz.ntmps142
  go_wp2
  go_ret
  exact ⟨_, rfl, hR, hB⟩

set_option maxHeartbeats 2000000 in
theorem newContinuation_any (N : Nat → Prop) (g : Gh) (w : World) (hnew : ∀ k, w.heap.size ≤ k → g.ok N k) (t : Value) (fs : List Fr) (ht : RepM g.mb (g.ok N) w t (.todo fs)) :
    Calls Tryz.prog 167 #[t] w fun r w' => ∃ b, r = .returned (ptrV b) ∧ RepM g.mb (g.ok N) w' (.iface 258 (ptrV b)) (.val (.cont fs)) ∧ Below w.heap.size w w' := by
  obtain ⟨p, rfl⟩ := RepM.ptr' ht
  have hB : Below w.heap.size w (w.alloc (.cells #[.int .i64 1, .int .i64 1, .pointer p] 265)) := (Below.refl _ w).alloc (Nat.le_refl _) _
  have hR : RepM g.mb (g.ok N) (w.alloc (.cells #[.int .i64 1, .int .i64 1, .pointer p] 265)) (.iface 258 (ptrV w.heap.size)) (.val (.cont fs)) :=
    .cont w.heap.size _ 265 fs (hnew _ (Nat.le_refl _)) (at_new w _) (ht.mono fun j hj ho => ⟨ho, hB.block j hj⟩)
  clear ht
  go_enter Tryz.func167, Tryz.ntmps167
  go_wp2
  go_ret
  exact ⟨_, rfl, hR, hB⟩

set_option maxHeartbeats 2000000 in
theorem reset_any' (N : Nat → Prop) (g : Gh) (rb fuel : Nat) (s s' : St) (w : World) (h : RunAt N g rb fuel s w) (sl a : Value) (fs : List Rd.F) (e : Env) (hs : RepFs (g.ok N) w sl fs) (ha : RepM g.mb (g.ok N) w a (.env e)) (hx : ({ s with beyond := s.todo :: s.beyond, todo := [] } : St).body fs e = some s') :
    Calls Tryz.prog 147 #[ptrV rb, .agg #[sl], a] w (RunK N g rb fuel s' w) := by
  obtain ⟨fa, fc, rfl, _, _⟩ := RepFs.shape hs
  obtain ⟨p, rfl⟩ := RepM.ptr ha
  have hB : Below w.heap.size w (w.alloc (.cells #[.slice (some fa) fs.length fc] 183)) := (Below.refl _ w).alloc (Nat.le_refl _) _
  have h1 := h.below hB
  have hm1 : ¬ RM g rb w.heap.size := RM.new h (Nat.le_refl _)
  have hbx := at_new w (.cells #[.slice (some fa) fs.length fc] 183)
  obtain ⟨q0, _⟩ := cells1 hbx
  have hs1 := hs.mono (ok' := g.ok N) (w' := w.alloc (.cells #[.slice (some fa) fs.length fc] 183)) fun j hj ho => ⟨ho, hB.block j hj⟩
  have ha1 := ha.mono (ok' := g.ok N) (w' := w.alloc (.cells #[.slice (some fa) fs.length fc] 183)) fun j hj ho => ⟨ho, hB.block j hj⟩
  have HE : Hid (Calls Tryz.prog 166 #[.pointer (some ⟨rb, 0, none⟩), .pointer none] (w.alloc (.cells #[.slice (some fa) fs.length fc] 183)) (RunK N g rb fuel { s with todo := [], beyond := s.todo :: s.beyond } (w.alloc (.cells #[.slice (some fa) fs.length fc] 183)))) := runEnter_any N g rb fuel s _ h1 _ [] .todo0
  have HBd : Hid (∀ w2, RunAt N g rb fuel { s with todo := [], beyond := s.todo :: s.beyond } w2 → Kept (RM g rb) (w.alloc (.cells #[.slice (some fa) fs.length fc] 183)) w2 → Calls Tryz.prog 143 #[.pointer (some ⟨rb, 0, none⟩), .slice (some fa) fs.length fc, .pointer p] w2 (RunK N g rb fuel s' w2)) :=
    fun w2 hr hk => body_any N g rb fuel _ s' w2 hr _ _ fs e (hs1.mono (h1.stays hk)) (ha1.mono (h1.stays hk)) hx
  clear h h1 hs ha hs1 ha1 hx hbx
  unfold ptrV
  go_enter Tryz.func147, Tryz.ntmps147
  go_wp2_with (first | (go_at_call 166; refine HE.out.mono ?_; rintro e2 w2 ⟨rfl, hr2, hk2⟩; have z0 := hk2.cell hm1 q0) | (go_at_call 143; refine (HBd.out _ hr2 hk2).mono ?_; rintro e3 w3 ⟨rfl, hr3, hk3⟩))
  go_end0
  exact ⟨rfl, hr3, ((Kept.of_below hB _).trans hk2).trans hk3⟩
end Go.Proofs.YtodeeegbajgafaaGreatDoor

namespace Go.Proofs.YtodeeegbajgafaaGreatDoor
open Go.RowKit
open Mc

theorem RunAt.todoNil {N : Nat → Prop} {g : Gh} {rb fuel : Nat} {s : St} {w : World} (h : RunAt N g rb fuel s w) : RunAt N g rb fuel { s with todo := [] } (w.setCell ⟨rb, 6, none⟩ (.pointer none)) := by
  obtain ⟨T, vf, va, vv, vt, vb, hb, hc, ht, hy⟩ := h.blk
  have hne : ∀ k, g.ok N k → k ≠ rb := fun k hk e => hk.1 (e ▸ h.inN)
  have hw : ∀ k, k ≠ rb → (w.setCell ⟨rb, 6, none⟩ (.pointer none)).heap[k]? = w.heap[k]? := fun k hk => by rw [Below.heap_setCell _ _ _ _ hk]
  have hst : ∀ k, k < w.heap.size → g.ok N k → g.ok N k ∧ (w.setCell ⟨rb, 6, none⟩ (.pointer none)).heap[k]? = w.heap[k]? := fun k _ ho => ⟨ho, hw k (hne k ho)⟩
  refine h.upd (by simp) (fun k _ hk => hw k hk) ⟨rfl, rfl⟩ ⟨T, vf, va, vv, .pointer none, vb, ?_, hc.mono hst, .todo0, hy.mono hst⟩ h.bound.1
  rw [at_setCell hb 6 _]
  simp [runCells]

set_option maxHeartbeats 2000000 in
theorem shift_any' (N : Nat → Prop) (g : Gh) (rb fuel : Nat) (s s' : St) (w : World) (h : RunAt N g rb fuel s w) (sl a : Value) (fs : List Rd.F) (e : Env) (hs : RepFs (g.ok N) w sl fs) (ha : RepM g.mb (g.ok N) w a (.env e)) (hbe : s.beyond ≠ []) (hx : ({ s with todo := [] } : St).body fs ([.cont s.todo] :: e) = some s') :
    Calls Tryz.prog 148 #[ptrV rb, .agg #[sl], a] w (RunK N g rb fuel s' w) := by
  obtain ⟨fa, fc, rfl, _, _⟩ := RepFs.shape hs
  obtain ⟨p, rfl⟩ := RepM.ptr ha
  have hB : Below w.heap.size w (w.alloc (.cells #[.slice (some fa) fs.length fc] 184)) := (Below.refl _ w).alloc (Nat.le_refl _) _
  have h1 := h.below hB
  have hlt := h.lt
  obtain ⟨T, vf, va, vv, vt, vb, hb, hc, ht, hy⟩ := h.blk
  obtain ⟨pt, rfl⟩ := RepM.ptr' ht
  obtain ⟨kb, rfl⟩ : ∃ k, vb = .pointer (some ⟨k, 0, none⟩) := by
    cases hbb : s.beyond with
    | nil => exact absurd hbb hbe
    | cons t b => rw [hbb] at hy; obtain ⟨k, x, y, T, h1, _⟩ := hy; exact ⟨k, h1⟩
  have c6 := cell_of_at hb 6
  have c7 := cell_of_at hb 7
  have f6 := free_of_at hb 6
  simp only [runCells, List.getElem?_toArray, List.getElem?_cons_zero, List.getElem?_cons_succ] at c6 c7
  have hbx := at_new w (.cells #[.slice (some fa) fs.length fc] 184)
  obtain ⟨q0, _⟩ := cells1 hbx
  have hs1 := hs.mono (ok' := g.ok N) (w' := w.alloc (.cells #[.slice (some fa) fs.length fc] 184)) fun j hj ho => ⟨ho, hB.block j hj⟩
  have ha1 := ha.mono (ok' := g.ok N) (w' := w.alloc (.cells #[.slice (some fa) fs.length fc] 184)) fun j hj ho => ⟨ho, hB.block j hj⟩
  have ht1 := ht.mono (ok' := g.ok N) (w' := w.alloc (.cells #[.slice (some fa) fs.length fc] 184)) fun j hj ho => ⟨ho, hB.block j hj⟩
  have hnew1 := Gh.ok_new h1.m
  have HC := newContinuation_any N g (w.alloc (.cells #[.slice (some fa) fs.length fc] 184)) hnew1 _ s.todo ht1
  have hbr : (w.alloc (.cells #[.slice (some fa) fs.length fc] 184)).heap[rb]? = some (.cells (runCells g.mb fuel s vf va vv (.pointer pt) (.pointer (some ⟨kb, 0, none⟩))) T (0, 0)) := at_alloc hb _
  have HBd : Hid (∀ w2 b, Below (w.alloc (.cells #[.slice (some fa) fs.length fc] 184)).heap.size (w.alloc (.cells #[.slice (some fa) fs.length fc] 184)) w2 → RepM g.mb (g.ok N) w2 (.iface 258 (ptrV b)) (.val (.cont s.todo)) →
      Calls Tryz.prog 143 #[.pointer (some ⟨rb, 0, none⟩), .slice (some fa) fs.length fc, .pointer (some ⟨w2.heap.size + 1, 0, none⟩)] (((w2.setCell ⟨rb, 6, none⟩ (.pointer none)).alloc (.cells #[.iface 258 (.pointer (some ⟨b, 0, none⟩))] 60)).alloc (.cells #[.slice (some ⟨w2.heap.size, 0, none⟩) 1 1, .pointer p] 256)) (RunK N g rb fuel s' w)) := by
    intro w2 b hb2 hr2
    have h2 := h1.below hb2
    have h3 := h2.todoNil
    have hne : ∀ k, g.ok N k → k ≠ rb := fun k hk e => hk.1 (e ▸ h.inN)
    have hB4 : Below (w2.setCell ⟨rb, 6, none⟩ (.pointer none)).heap.size (w2.setCell ⟨rb, 6, none⟩ (.pointer none)) (((w2.setCell ⟨rb, 6, none⟩ (.pointer none)).alloc (.cells #[.iface 258 (.pointer (some ⟨b, 0, none⟩))] 60)).alloc (.cells #[.slice (some ⟨w2.heap.size, 0, none⟩) 1 1, .pointer p] 256)) := ((Below.refl _ _).alloc (Nat.le_refl _) _).alloc (by simp) _
    have h4 := h3.below hB4
    have hst2 : ∀ k, k < w2.heap.size → g.ok N k → g.ok N k ∧ (((w2.setCell ⟨rb, 6, none⟩ (.pointer none)).alloc (.cells #[.iface 258 (.pointer (some ⟨b, 0, none⟩))] 60)).alloc (.cells #[.slice (some ⟨w2.heap.size, 0, none⟩) 1 1, .pointer p] 256)).heap[k]? = w2.heap[k]? := fun k hk ho => ⟨ho, by rw [hB4.block k (by simpa using hk), Below.heap_setCell _ _ _ _ (hne k ho)]⟩
    have hst : ∀ k, k < (w.alloc (.cells #[.slice (some fa) fs.length fc] 184)).heap.size → g.ok N k → g.ok N k ∧ (((w2.setCell ⟨rb, 6, none⟩ (.pointer none)).alloc (.cells #[.iface 258 (.pointer (some ⟨b, 0, none⟩))] 60)).alloc (.cells #[.slice (some ⟨w2.heap.size, 0, none⟩) 1 1, .pointer p] 256)).heap[k]? = (w.alloc (.cells #[.slice (some fa) fs.length fc] 184)).heap[k]? := fun k hk ho => ⟨ho, by rw [(hst2 k (Nat.lt_of_lt_of_le hk hb2.size) ho).2, hb2.block k hk]⟩
    have hn2 := Gh.ok_new h2.m
    have e1 : (((w2.setCell ⟨rb, 6, none⟩ (.pointer none)).alloc (.cells #[.iface 258 (.pointer (some ⟨b, 0, none⟩))] 60)).alloc (.cells #[.slice (some ⟨w2.heap.size, 0, none⟩) 1 1, .pointer p] 256)).heap[w2.heap.size]? = some (.cells #[.iface 258 (.pointer (some ⟨b, 0, none⟩))] 60 (0, 0)) := at_alloc (by simpa using at_new (w2.setCell ⟨rb, 6, none⟩ (.pointer none)) (.cells #[.iface 258 (.pointer (some ⟨b, 0, none⟩))] 60)) _
    have e2 : (((w2.setCell ⟨rb, 6, none⟩ (.pointer none)).alloc (.cells #[.iface 258 (.pointer (some ⟨b, 0, none⟩))] 60)).alloc (.cells #[.slice (some ⟨w2.heap.size, 0, none⟩) 1 1, .pointer p] 256)).heap[w2.heap.size + 1]? = some (.cells #[.slice (some ⟨w2.heap.size, 0, none⟩) 1 1, .pointer p] 256 (0, 0)) := by simpa using at_new ((w2.setCell ⟨rb, 6, none⟩ (.pointer none)).alloc (.cells #[.iface 258 (.pointer (some ⟨b, 0, none⟩))] 60)) (.cells #[.slice (some ⟨w2.heap.size, 0, none⟩) 1 1, .pointer p] 256)
    have hvals : RepM g.mb (g.ok N) (((w2.setCell ⟨rb, 6, none⟩ (.pointer none)).alloc (.cells #[.iface 258 (.pointer (some ⟨b, 0, none⟩))] 60)).alloc (.cells #[.slice (some ⟨w2.heap.size, 0, none⟩) 1 1, .pointer p] 256)) (.slice (some ⟨w2.heap.size, 0, none⟩) 1 1) (.vals [.cont s.todo]) := by
      refine .vals w2.heap.size 0 1 _ 60 [.cont s.todo] (fun _ => .iface 258 (ptrV b)) (hn2 _ (Nat.le_refl _)) e1 (by simp) (by unfold maxLen; omega) ?_ ?_
      · intro i hi
        have : i = 0 := by simpa using hi
        subst this; rfl
      · intro i hi
        have : i = 0 := by simpa using hi
        subst this
        exact hr2.mono hst2
    have hk4 : Kept (RM g rb) w (((w2.setCell ⟨rb, 6, none⟩ (.pointer none)).alloc (.cells #[.iface 258 (.pointer (some ⟨b, 0, none⟩))] 60)).alloc (.cells #[.slice (some ⟨w2.heap.size, 0, none⟩) 1 1, .pointer p] 256)) :=
      ((((Kept.of_below hB _).trans (Kept.of_below hb2 _)).setCell (p := ⟨rb, 6, none⟩) (fun _ => Or.inl rfl) _).alloc _).alloc _
    refine (body_any N g rb fuel _ s' _ h4 _ _ fs ([.cont s.todo] :: e) (hs1.mono hst) (.env1 _ _ _ 256 _ _ (hn2 _ (by omega)) e2 hvals (ha1.mono hst)) hx).mono ?_
    rintro r w5 ⟨rfl, hr5, hk5⟩
    exact ⟨rfl, hr5, hk4.trans hk5⟩
  clear h hs ha hs1 ha1 hx hc ht hy ht1 hbe hb
  unfold ptrV at *
  generalize hW : w.alloc (.cells #[.slice (some fa) fs.length fc] 184) = W at *
  have HW := (show Hid _ from hW)
  have hcr : ∀ w2, Below W.heap.size W w2 → w2.cell? ⟨rb, 6, none⟩ = some (.pointer pt) ∧ w2.frozen? ⟨rb, 6, none⟩ = false ∧ w2.cell? ⟨w.heap.size, 0, none⟩ = some (.slice (some fa) fs.length fc) ∧ rb < w2.heap.size ∧ w.heap.size ≠ rb := fun w2 hb2 => by
    have e1 := Below.at hb2 hbr
    refine ⟨?_, free_of_at e1 6, (Kept.of_below hb2 (fun _ => False)).cell id q0, lt_of_at e1, by omega⟩
    rw [cell_of_at e1 6]; rfl
  have HR := (show Hid _ from hcr)
  clear hcr hW hbr hbx
  go_enter Tryz.func148, Tryz.ntmps148
  go_wp2_with (first | (go_at_call 167; rw [HW.out]; refine HC.mono ?_; rintro e2 w2 ⟨b, rfl, hr2, hb2⟩; obtain ⟨z1, z2, z3, z4, z5⟩ := HR.out _ hb2) | (go_at_call 143; refine (HBd.out _ _ hb2 hr2).mono ?_; rintro e3 w3 ⟨rfl, hr3, hk3⟩))
  go_end0
  exact ⟨rfl, hr3, hk3⟩
end Go.Proofs.YtodeeegbajgafaaGreatDoor

namespace Go.Proofs.YtodeeegbajgafaaGreatDoor
open Go.RowKit
open Mc

theorem find_none_ix (n : Rd.Sym) : ∀ (G : List (Rd.Sym × V)) (xs : List Nat) (k : Nat), find? n G = none → symIx n ((G.map (·.1)).zip (xs.map ptrV)) k = none
  | [], xs, k, _ => rfl
  | g :: G, [], k, _ => rfl
  | g :: G, x :: xs, k, h => by
    by_cases hq : g.1 = n
    · simp [find?, hq] at h
    · have hq1 : (g.1 == n) = false := by simpa using hq
      have hq2 : (n == g.1) = false := by simpa using fun e => hq e.symm
      have h' : find? n G = none := by
        simp only [find?, List.find?_cons, hq1] at h
        exact h
      simp only [List.map_cons, List.zip_cons_cons, symIx, hq2, Bool.false_eq_true, if_false]
      exact find_none_ix n G xs (k + 1) h'

def Gh.more (g : Gh) (b : Nat) : Gh := { g with xs := g.xs ++ [b] }
theorem Gh.more_mut {g : Gh} {b k : Nat} : (g.more b).mut k ↔ g.mut k ∨ k = b := by
  simp only [Gh.mut, Gh.more, List.mem_append, List.mem_singleton]
  constructor
  · rintro (h | h | (h | h) | h)
    · exact Or.inl (Or.inl h)
    · exact Or.inl (Or.inr (Or.inl h))
    · exact Or.inl (Or.inr (Or.inr (Or.inl h)))
    · exact Or.inr h
    · exact Or.inl (Or.inr (Or.inr (Or.inr h)))
  · rintro ((h | h | h | h) | h)
    · exact Or.inl h
    · exact Or.inr (Or.inl h)
    · exact Or.inr (Or.inr (Or.inl (Or.inl h)))
    · exact Or.inr (Or.inr (Or.inr h))
    · exact Or.inr (Or.inr (Or.inl (Or.inr h)))

/-- What is below stays ok when a box is made. -/
theorem Gh.more_ok {g : Gh} {N : Nat → Prop} {b k : Nat} (h : g.ok N k) (hk : k < b) : (g.more b).ok N k :=
  ⟨h.1, fun e => by rcases Gh.more_mut.1 e with e | e; exact h.2 e; omega⟩

/-- The world behind a definition. -/
def defined (w : World) (db : Nat) (es : Array MapEntry) (c : Nat) (n : Rd.Sym) (x : Value) : World :=
  putObj (w.alloc (.cells #[x] 60)) db (.map (es.push { key := .string ⟨n.toArray⟩, val := .pointer (some ⟨w.heap.size, 0, none⟩), born := c }) (c + 1))

theorem defined_at {w : World} {db : Nat} {es : Array MapEntry} {c : Nat} {n : Rd.Sym} {x : Value} {k : Nat} (hk : k < w.heap.size) (hd : k ≠ db) : (defined w db es c n x).heap[k]? = w.heap[k]? := by
  unfold defined
  rw [putObj_ne _ _ _ _ hd, Below.heap_alloc _ _ _ hk]

theorem MachAt.define {N : Nat → Prop} {g : Gh} {G : List (Rd.Sym × V)} {shown : List (List UInt8)} {w : World} (h : MachAt N g G shown w) (n : Rd.Sym) (x : Value) (v : V) (hx : RepM g.mb (g.ok N) w x (.val v)) (es : Array MapEntry) (c : Nat) (hes : w.heap[g.db]? = some (.map es c)) (hkv : kvs es.toList = ((G.map (·.1)).zip (g.xs.map ptrV)).map symKV) :
    MachAt N (g.more w.heap.size) (G ++ [(n, v)]) shown (defined w g.db es c n x) := by
  have hmut := Gh.low h
  have hkeep : ∀ k, k < w.heap.size → g.ok N k → (g.more w.heap.size).ok N k ∧ (defined w g.db es c n x).heap[k]? = w.heap[k]? := fun k hk ho => ⟨Gh.more_ok ho hk, defined_at hk (fun e => ho.2 (Or.inr (Or.inl e)))⟩
  have hdb : g.db < w.heap.size := lt_of_at hes
  have hnew : (defined w g.db es c n x).heap[w.heap.size]? = some (.cells #[x] 60 (0, 0)) := by
    unfold defined
    rw [putObj_ne _ _ _ _ (by omega)]
    exact at_new w _
  have hnx : ∀ k, k ∈ g.xs → k < w.heap.size := fun k hk => hmut k (Or.inr (Or.inr (Or.inl hk)))
  obtain ⟨T, hm⟩ := h.mach
  have hmb := lt_of_at hm
  refine ⟨⟨T, (defined_at hmb h.apart.1).trans hm⟩, ?_, by simp [Gh.more, h.len], ?_, ?_, ?_, ?_, ?_, ?_⟩
  · have := SymsAt.push (w := w.alloc (.cells #[x] 60)) (at_alloc hes _) hkv n (.pointer (some ⟨w.heap.size, 0, none⟩)) (c + 1)
    have e : ((G ++ [(n, v)]).map (·.1)).zip ((g.more w.heap.size).xs.map ptrV) = (G.map (·.1)).zip (g.xs.map ptrV) ++ [(n, ptrV w.heap.size)] := by
      simp only [Gh.more, List.map_append, List.map_cons, List.map_nil]
      rw [List.zip_append (by simp [h.len])]
      rfl
    rw [e]
    exact this
  · intro i hi
    simp only [List.length_append, List.length_cons, List.length_nil] at hi
    by_cases hlt : i < G.length
    · obtain ⟨b, y, T, e1, e2, e3⟩ := h.boxes i hlt
      have hbx : b ∈ g.xs := List.mem_of_getElem? e1
      refine ⟨b, y, T, ?_, (defined_at (lt_of_at e2) (fun e => h.apart.2.2.1 (by rw [← e]; exact hbx))).trans e2, ?_⟩
      · rw [← e1]; exact List.getElem?_append_left (by rw [h.len]; exact hlt)
      · rw [List.getElem_append_left hlt]; exact e3.mono hkeep
    · have : i = G.length := by omega
      subst this
      refine ⟨w.heap.size, x, 60, ?_, hnew, ?_⟩
      · simp [Gh.more, ← h.len]
      · have hx' := hx.mono hkeep
        have e : (G ++ [(n, v)])[G.length].2 = v := by simp
        rw [e]
        exact hx'
  · obtain ⟨B, hB⟩ := h.own
    refine ⟨B, ?_⟩
    obtain ⟨a, b | ⟨gb, cap, cur, hv, hB, hh, r⟩⟩ := hB
    · exact ⟨a, Or.inl b⟩
    · refine ⟨a, Or.inr ⟨gb, cap, cur, hv, hB, (defined_at (lt_of_at hh) ?_).trans hh, r⟩⟩
      exact (h.apart' gb (by rw [hv]; rfl)).2.1
  · refine ⟨h.apart.1, ?_, ?_, ?_⟩
    · simp only [Gh.more, List.mem_append, List.mem_singleton, not_or]
      exact ⟨h.apart.2.1, by omega⟩
    · simp only [Gh.more, List.mem_append, List.mem_singleton, not_or]
      exact ⟨h.apart.2.2.1, by omega⟩
    · simp only [Gh.more]
      rw [List.nodup_append]
      refine ⟨h.apart.2.2.2, by simp, ?_⟩
      intro a ha b hb
      simp only [List.mem_singleton] at hb
      have := hnx a ha
      omega
  · intro k hk
    obtain ⟨h1, h2, h3⟩ := h.apart' k hk
    have := hmut k (Or.inr (Or.inr (Or.inr hk)))
    refine ⟨h1, h2, ?_⟩
    simp only [Gh.more, List.mem_append, List.mem_singleton, not_or]
    exact ⟨h3, by omega⟩
  · intro k hk
    have := h.low k hk
    have hs : (defined w g.db es c n x).heap.size = w.heap.size + 1 := by simp [defined, putObj]
    omega
  · intro k hk hN
    rcases Gh.more_mut.1 hk with e | e
    · exact h.disj k e hN
    · have := h.low k hN; omega

set_option maxHeartbeats 2000000 in
set_option maxRecDepth 10000 in
theorem define40 (N : Nat → Prop) (g : Gh) (G : List (Rd.Sym × V)) (shown : List (List UInt8)) (w : World) (h : MachAt N g G shown w) (n : Rd.Sym) (x : Value) (v : V) (hx : RepM g.mb (g.ok N) w x (.val v)) (hn : find? n G = none) :
    Calls Tryz.prog 40 #[ptrV g.mb, symV n, x] w fun e w' => e = .returned (.tuple #[]) ∧ ∃ es c, w.heap[g.db]? = some (.map es c) ∧ kvs es.toList = ((G.map (·.1)).zip (g.xs.map ptrV)).map symKV ∧ w' = defined w g.db es c n x := by
  obtain ⟨es, c, hes, hkv⟩ := id h.glob
  obtain ⟨tv, xv, rfl⟩ := RepM.iface hx
  obtain ⟨T, hm⟩ := h.mach
  have m0 := cell_of_at hm 0
  simp only [List.getElem?_toArray, List.getElem?_cons_zero] at m0
  have hlm := lt_of_at hm
  have hup := update_sym Tryz.underlying105 (w := w.alloc (.cells #[.iface tv xv] 60)) (at_alloc hes _) hkv n (.pointer (some ⟨w.heap.size, 0, none⟩)) (find_none_ix n G g.xs 0 hn)
  have hres : ∃ es' c', w.heap[g.db]? = some (.map es' c') ∧ kvs es'.toList = ((G.map (·.1)).zip (g.xs.map ptrV)).map symKV ∧ putObj (w.alloc (.cells #[.iface tv xv] 60)) g.db (.map (es.push { key := .string ⟨n.toArray⟩, val := .pointer (some ⟨w.heap.size, 0, none⟩), born := c }) (c + 1)) = defined w g.db es' c' n (.iface tv xv) := ⟨es, c, hes, hkv, rfl⟩
  generalize hW : putObj (w.alloc (.cells #[.iface tv xv] 60)) g.db (.map (es.push { key := .string ⟨n.toArray⟩, val := .pointer (some ⟨w.heap.size, 0, none⟩), born := c }) (c + 1)) = W at *
  clear h hx hm hes hkv hW hn
  unfold symV ptrV
  go_enter Tryz.func40, Tryz.ntmps40
  go_wp2
  go_end0
  exact ⟨rfl, hres⟩
end Go.Proofs.YtodeeegbajgafaaGreatDoor

namespace Go.Proofs.YtodeeegbajgafaaGreatDoor
open Go.RowKit
open Mc

/-- Where the machine lies later: what changes of it is new or did before. -/
structure Gh.Next (w : World) (g g' : Gh) : Prop where
  mb : g'.mb = g.mb
  db : g'.db = g.db
  mt : ∀ k, g'.mut k → k < w.heap.size → g.mut k
theorem Gh.Next.refl (w : World) (g : Gh) : Gh.Next w g g := ⟨rfl, rfl, fun _ h _ => h⟩
theorem Gh.Next.ok {w : World} {g g' : Gh} {N : Nat → Prop} (h : Gh.Next w g g') {k : Nat} (hk : k < w.heap.size) (ho : g.ok N k) : g'.ok N k := ⟨ho.1, fun e => ho.2 (h.mt k e hk)⟩

theorem Kept.chain {M M' : Nat → Prop} {a b c : World} (h : Kept M a b) (h' : Kept M' b c) (hm : ∀ k, k < a.heap.size → M' k → M k) : Kept M a c :=
  ⟨h'.os.trans h.os, h'.tape.trans h.tape, h'.output.trans h.output, Nat.le_trans h.size h'.size, fun k hk hn => (h'.block k (Nat.lt_of_lt_of_le hk h.size) (fun e => hn (hm k hk e))).trans (h.block k hk hn)⟩

theorem Gh.Next.rm {w : World} {g g' : Gh} {rb : Nat} (h : Gh.Next w g g') : ∀ k, k < w.heap.size → RM g' rb k → RM g rb k := fun k hk e => by
  rcases e with e | e
  · exact Or.inl e
  · exact Or.inr (h.mt k e hk)

/-- The run goes on so. -/
def RunC (N : Nat → Prop) (g : Gh) (rb fuel : Nat) (s' : St) (w : World) : Ending → World → Prop := fun e w' => e = .returned (.tuple #[]) ∧ ∃ g', Gh.Next w g g' ∧ RunAt N g' rb fuel s' w' ∧ Kept (RM g rb) w w'
theorem RunK.c {N : Nat → Prop} {g : Gh} {rb fuel : Nat} {s' : St} {w : World} {e : Ending} {w' : World} (h : RunK N g rb fuel s' w e w') : RunC N g rb fuel s' w e w' := ⟨h.1, g, Gh.Next.refl _ _, h.2.1, h.2.2⟩

theorem RunAt.define {N : Nat → Prop} {g : Gh} {rb fuel : Nat} {s : St} {w : World} (h : RunAt N g rb fuel s w) (n : Rd.Sym) (x : Value) (v : V) (hx : RepM g.mb (g.ok N) w x (.val v)) (es : Array MapEntry) (c : Nat) (hes : w.heap[g.db]? = some (.map es c)) (hkv : kvs es.toList = ((s.G.map (·.1)).zip (g.xs.map ptrV)).map symKV) :
    RunAt N (g.more w.heap.size) rb fuel { s with G := s.G ++ [(n, v)] } (defined w g.db es c n x) := by
  have hkeep : ∀ k, k < w.heap.size → g.ok N k → (g.more w.heap.size).ok N k ∧ (defined w g.db es c n x).heap[k]? = w.heap[k]? := fun k hk ho => ⟨Gh.more_ok ho hk, defined_at hk (fun e => ho.2 (Or.inr (Or.inl e)))⟩
  obtain ⟨T, vf, va, vv, vt, vb, hb, hc, ht, hy⟩ := h.blk
  refine ⟨h.inN, h.m.define n x v hx es c hes hkv, ⟨T, vf, va, vv, vt, vb, ?_, hc.mono hkeep, ht.mono hkeep, hy.mono hkeep⟩, h.bound⟩
  refine (defined_at (lt_of_at hb) (fun e => ?_)).trans hb
  exact h.m.disj g.db (Or.inr (Or.inl rfl)) (e ▸ h.inN)

theorem defined_kept (g : Gh) (rb : Nat) (w : World) (n : Rd.Sym) (x : Value) (es : Array MapEntry) (c : Nat) : Kept (RM g rb) w (defined w g.db es c n x) := by
  unfold defined
  exact ((Kept.refl _ w).alloc _).trans ((putObj_kept _ _ _).mono fun k _ e => Or.inr (Or.inr (Or.inl e)))

theorem more_next (w : World) (g : Gh) : Gh.Next w g (g.more w.heap.size) := ⟨rfl, rfl, fun k e hk => by rcases Gh.more_mut.1 e with e | e; exact e; omega⟩

theorem RepM.define_inv {mb : Nat} {ok : Nat → Prop} {w : World} {x : Value} {n : Rd.Sym} {f : Rd.F} (h : RepM mb ok w x (.fr (.define n f))) :
    ∃ b1 y T1, x = capFn 168 [b1] ∧ ok b1 ∧ w.heap[b1]? = some (.cells #[symV n, y] T1 (0, 0)) := by
  cases h with
  | define b1 y T1 _ _ k1 hh1 => exact ⟨b1, y, T1, rfl, k1, hh1⟩

set_option maxHeartbeats 2000000 in
set_option maxRecDepth 10000 in
theorem goDefine (N : Nat → Prop) (g : Gh) (rb fuel : Nat) (s : St) (w : World) (h : RunAt N g rb fuel s w) (x : Value) (v : V) (hv : RepM g.mb (g.ok N) w x (.val v)) (b1 : Nat) (y : Value) (T1 : TypeId) (n : Rd.Sym) (k1 : g.ok N b1) (hb1 : w.heap[b1]? = some (.cells #[symV n, y] T1 (0, 0))) (hn : find? n s.G = none) :
    Calls Tryz.prog 168 #[ptrV rb, x, ptrV b1] w (RunC N g rb fuel ({ s with G := s.G ++ [(n, v)] }.give (.atom (.sym n))) w) := by
  have hvd : RepM g.mb (g.ok N) w.drew x (.val v) := hv.mono fun k _ ho => ⟨ho, rfl⟩
  have HD := define40 N g s.G s.shown w.drew h.drew.m n x v hvd hn
  obtain ⟨T, vf, va, vv, vt, vb, hb, hc, ht, hy⟩ := h.blk
  have c0 := cell_of_at hb 0
  simp only [runCells, List.getElem?_toArray, List.getElem?_cons_zero, ptrV] at c0
  obtain ⟨q0, q1, _, _⟩ := cells2 hb1
  have hrd : rb ≠ g.db := fun e => h.m.disj g.db (Or.inr (Or.inl rfl)) (e ▸ h.inN)
  have hbd : b1 ≠ g.db := fun e => k1.2 (Or.inr (Or.inl e))
  have hst : ∀ es c, w.drew.heap[g.db]? = some (.map es c) → kvs es.toList = ((s.G.map (·.1)).zip (g.xs.map ptrV)).map symKV →
      (defined w.drew g.db es c n x).cell? ⟨rb, 0, none⟩ = some (.pointer (some ⟨g.mb, 0, none⟩)) ∧ (defined w.drew g.db es c n x).cell? ⟨b1, 0, none⟩ = some (.string ⟨n.toArray⟩) ∧
      Calls Tryz.prog 139 #[.pointer (some ⟨rb, 0, none⟩), .iface 115 (.string ⟨n.toArray⟩)] (defined w.drew g.db es c n x) (RunC N g rb fuel ({ s with G := s.G ++ [(n, v)] }.give (.atom (.sym n))) w) := by
    intro es c hes hkv
    have hr := h.drew.define n x v hvd es c hes hkv
    refine ⟨?_, ?_, ?_⟩
    · rw [← c0]; exact World.cell?_of_block (defined_at (w := w.drew) (lt_of_at hb) hrd)
    · rw [← show w.cell? ⟨b1, 0, none⟩ = some (.string ⟨n.toArray⟩) from q0]; exact World.cell?_of_block (defined_at (w := w.drew) (lt_of_at hb1) hbd)
    · refine (give_any N (g.more w.drew.heap.size) rb fuel _ _ hr (.iface 115 (.string ⟨n.toArray⟩)) (.atom (.sym n)) (.atom (.sym n))).mono ?_
      rintro r w3 ⟨rfl, hr3, hk3⟩
      have hnx : Gh.Next w g (g.more w.drew.heap.size) := more_next w g
      exact ⟨rfl, _, hnx, hr3, (Kept.undrew (defined_kept g rb w.drew n x es c)).chain hk3 hnx.rm⟩
  have HS := (show Hid _ from hst)
  obtain ⟨tv, xv, rfl⟩ := RepM.iface hv
  clear h hb hc ht hy hv hvd hst hb1 hn
  unfold ptrV symV at *
  go_enter Tryz.func168, Tryz.ntmps168
  go_wp2
  go_region_held3 (fun X => X.cell? ⟨rb, 0, none⟩ = some (.pointer (some ⟨g.mb, 0, none⟩)) ∧ X.cell? ⟨b1, 0, none⟩ = some (.string ⟨n.toArray⟩)) (go_keep) (first | (go_at_call 40; refine HD.mono ?_; rintro e2 w2 ⟨rfl, es, c, hes, hkv, rfl⟩; obtain ⟨z0, z1, HG⟩ := HS.out es c hes hkv; clear hes hkv))
  go_wp2_with (first | (go_at_call 139; refine HG.mono ?_; rintro e3 w3 ⟨rfl, hR⟩))
  go_end0
  exact ⟨rfl, hR⟩
end Go.Proofs.YtodeeegbajgafaaGreatDoor

namespace Go.Proofs.YtodeeegbajgafaaGreatDoor
open Go.RowKit
open Mc

theorem MachAt.setBox {N : Nat → Prop} {g : Gh} {G : List (Rd.Sym × V)} {shown : List (List UInt8)} {w : World} (h : MachAt N g G shown w) {i b : Nat} (hi : i < G.length) (hb : g.xs[i]? = some b) {n : Rd.Sym} (hn : G[i].1 = n) (x : Value) (v : V) (hx : RepM g.mb (g.ok N) w x (.val v)) :
    MachAt N g (G.set i (n, v)) shown (w.setCell ⟨b, 0, none⟩ x) := by
  have hbx : b ∈ g.xs := List.mem_of_getElem? hb
  have hne : ∀ k, k ≠ b → (w.setCell ⟨b, 0, none⟩ x).heap[k]? = w.heap[k]? := fun k hk => Below.heap_setCell _ _ _ _ hk
  have hok : ∀ k, k < w.heap.size → g.ok N k → g.ok N k ∧ (w.setCell ⟨b, 0, none⟩ x).heap[k]? = w.heap[k]? := fun k _ ho => ⟨ho, hne k (fun e => ho.2 (Or.inr (Or.inr (Or.inl (e ▸ hbx)))))⟩
  have hnm : (G.set i (n, v)).map (·.1) = G.map (·.1) := by
    rw [List.map_set]
    apply List.ext_getElem (by simp)
    intro j h1 h2
    by_cases e : i = j
    · subst e; simp [hn]
    · simp [List.getElem_set_ne e]
  obtain ⟨T, hm⟩ := h.mach
  obtain ⟨es, c, e1, e2⟩ := h.glob
  refine ⟨⟨T, (hne g.mb (fun e => h.apart.2.1 (e ▸ hbx))).trans hm⟩, ⟨es, c, (hne g.db (fun e => h.apart.2.2.1 (e ▸ hbx))).trans e1, by rw [hnm]; exact e2⟩, by simpa using h.len, ?_, ?_, h.apart, h.apart', fun k hk => by simpa using h.low k hk, h.disj⟩
  · intro j hj
    simp only [List.length_set] at hj
    obtain ⟨b', y, T', f1, f2, f3⟩ := h.boxes j hj
    by_cases e : i = j
    · subst e
      rw [hb] at f1
      cases f1
      refine ⟨b, x, T', hb, ?_, ?_⟩
      · rw [at_setCell f2 0 _]; simp
      · simpa using hx.mono hok
    · have hbb : b' ≠ b := by
        intro eb
        subst eb
        obtain ⟨hi1, hi2⟩ := List.getElem?_eq_some_iff.1 hb
        obtain ⟨hj1, hj2⟩ := List.getElem?_eq_some_iff.1 f1
        exact e ((List.getElem_inj h.apart.2.2.2).1 (hi2.trans hj2.symm))
      refine ⟨b', y, T', f1, (hne _ hbb).trans f2, ?_⟩
      rw [List.getElem_set_ne e]
      exact f3.mono hok
  · obtain ⟨B, hB⟩ := h.own
    refine ⟨B, ?_⟩
    obtain ⟨a, b0 | ⟨gb, cap, cur, hv, hB, hh, r⟩⟩ := hB
    · exact ⟨a, Or.inl b0⟩
    · refine ⟨a, Or.inr ⟨gb, cap, cur, hv, hB, (hne _ ?_).trans hh, r⟩⟩
      intro e
      exact (h.apart' gb (by rw [hv]; rfl)).2.2 (e ▸ hbx)

theorem RepM.set_inv {mb : Nat} {ok : Nat → Prop} {w : World} {x : Value} {n : Rd.Sym} {f : Rd.F} {e : Env} (h : RepM mb ok w x (.fr (.set_ n f e))) :
    ∃ b1 b2 y at' T1 T2, x = capFn 164 [b1, b2] ∧ ok b1 ∧ ok b2 ∧ w.heap[b1]? = some (.cells #[symV n, .bool false, .int .i64 0, .int .i64 0, y] T1 (0, 0)) ∧ w.heap[b2]? = some (.cells #[at'] T2 (0, 0)) := by
  cases h with
  | set_ b1 b2 y at' T1 T2 _ _ _ k1 k2 hh1 hh2 => exact ⟨b1, b2, y, at', T1, T2, rfl, k1, k2, hh1, hh2⟩

set_option maxHeartbeats 2000000 in
set_option maxRecDepth 10000 in
theorem goSet (N : Nat → Prop) (g : Gh) (rb fuel : Nat) (s : St) (w : World) (h : RunAt N g rb fuel s w) (x : Value) (v : V) (hv : RepM g.mb (g.ok N) w x (.val v)) (b1 b2 : Nat) (y a : Value) (T1 T2 : TypeId) (n : Rd.Sym)
    (hb1 : w.heap[b1]? = some (.cells #[symV n, .bool false, .int .i64 0, .int .i64 0, y] T1 (0, 0))) (hb2 : w.heap[b2]? = some (.cells #[a] T2 (0, 0))) (hn : (find? n s.G).isSome) :
    Calls Tryz.prog 164 #[ptrV rb, x, ptrV b1, ptrV b2] w (RunK N g rb fuel ({ s with G := put n v s.G }.give (.atom .empty)) w) := by
  obtain ⟨u, hu⟩ := Option.isSome_iff_exists.1 hn
  obtain ⟨i, hi, b, f1, f2, f3, f4, f5⟩ := find_ix n s.G g.xs 0 u h.m.len hu
  rw [Nat.zero_add] at f4
  obtain ⟨b', z, T, e1, e2, e3⟩ := h.m.boxes i hi
  rw [f1] at e1
  cases e1
  obtain ⟨tz, xz, rfl⟩ := RepM.iface e3
  have HF := find_global N g rb fuel s w h n a i b f4
  have hbm : g.mut b := Or.inr (Or.inr (Or.inl (List.mem_of_getElem? f1)))
  have hbr : b ≠ rb := fun e => h.m.disj b hbm (e ▸ h.inN)
  have hG : ∀ w2, Below w.heap.size w w2 → Calls Tryz.prog 139 #[.pointer (some ⟨rb, 0, none⟩), .iface 146 (.agg #[])] (w2.setCell ⟨b, 0, none⟩ x) (RunK N g rb fuel ({ s with G := put n v s.G }.give (.atom .empty)) w) := by
    intro w2 hb
    have h2 := h.below hb
    have hx2 : RepM g.mb (g.ok N) w2 x (.val v) := hv.mono fun k hk ho => ⟨ho, hb.block k hk⟩
    have hm3 := h2.m.setBox hi f1 f2 x v hx2
    have hne : ∀ k, k ≠ b → (w2.setCell ⟨b, 0, none⟩ x).heap[k]? = w2.heap[k]? := fun k hk => Below.heap_setCell _ _ _ _ hk
    have hok : ∀ k, k < w2.heap.size → g.ok N k → g.ok N k ∧ (w2.setCell ⟨b, 0, none⟩ x).heap[k]? = w2.heap[k]? := fun k _ ho => ⟨ho, hne k (fun e => ho.2 (e ▸ hbm))⟩
    obtain ⟨T, vf, va, vv, vt, vb, hbb, hc, ht, hy⟩ := h2.blk
    have h3 : RunAt N g rb fuel { s with G := put n v s.G } (w2.setCell ⟨b, 0, none⟩ x) := by
      refine ⟨h.inN, ?_, ⟨T, vf, va, vv, vt, vb, (hne rb (fun e => hbr e.symm)).trans hbb, hc.mono hok, ht.mono hok, hy.mono hok⟩, h.bound⟩
      show MachAt N g (put n v s.G) s.shown _
      rw [f5 v]
      exact hm3
    refine (give_any N g rb fuel _ _ h3 (.iface 146 (.agg #[])) (.atom .empty) (.atom .empty)).mono ?_
    rintro r w4 ⟨rfl, hr4, hk4⟩
    exact ⟨rfl, hr4, ((Kept.of_below hb _).setCell (p := ⟨b, 0, none⟩) (fun _ => Or.inr hbm) _).trans hk4⟩
  have HG := (show Hid _ from hG)
  have q0 := cell_of_at hb1 0
  have q1 := cell_of_at hb1 1
  have q2 := cell_of_at hb1 2
  have q3 := cell_of_at hb1 3
  simp only [List.getElem?_toArray, List.getElem?_cons_zero, List.getElem?_cons_succ] at q0 q1 q2 q3
  obtain ⟨q4, _⟩ := cells1 hb2
  obtain ⟨tv, xv, rfl⟩ := RepM.iface hv
  clear h hv hG hb1 hb2 hn hu f5 e3
  unfold nmV symV ptrV at *
  go_enter Tryz.func164, Tryz.ntmps164
  go_wp2_with (first | (go_at_call 158; refine HF.mono ?_; rintro e5 w2 ⟨rfl, hb⟩; obtain ⟨c0, c1⟩ := cells1 (Below.at hb e2)) | (go_at_call 139; refine (HG.out _ hb).mono ?_; rintro e6 w3 ⟨rfl, hr3, hk3⟩))
  go_end0
  exact ⟨rfl, hr3, hk3⟩
end Go.Proofs.YtodeeegbajgafaaGreatDoor

namespace Go.Proofs.YtodeeegbajgafaaGreatDoor
open Go.RowKit
open Mc

/-- What calling a continuation comes to. -/
def Mc.St.resume (s : St) (fuel : Nat) (todo : List Fr) (v : V) : St := match s.step? fuel with
  | (s, true) => { s with beyond := s.todo :: s.beyond, todo := todo }.give v
  | (s, false) => s

set_option maxHeartbeats 2000000 in
theorem resume_any (N : Nat → Prop) (g : Gh) (rb fuel : Nat) (s : St) (w : World) (h : RunAt N g rb fuel s w) (x : Value) (v : V) (hv : RepM g.mb (g.ok N) w x (.val v)) (b : Nat) (t : Value) (T : TypeId) (fs : List Fr) (hb : g.ok N b) (hh : w.heap[b]? = some (.cells #[.int .i64 1, .int .i64 1, t] T (0, 0))) (ht : RepM g.mb (g.ok N) w t (.todo fs)) :
    Calls Tryz.prog 178 #[ptrV rb, ptrV b, x] w (RunK N g rb fuel (s.resume fuel fs v) w) := by
  obtain ⟨p, rfl⟩ := RepM.ptr' ht
  obtain ⟨tv, xv, rfl⟩ := RepM.iface hv
  have HS := step_any N g rb fuel s w h
  have hm := RM.ok h hb
  have q2 := cell_of_at hh 2
  simp only [List.getElem?_toArray, List.getElem?_cons_zero, List.getElem?_cons_succ] at q2
  unfold St.resume
  unfold StepR at HS
  generalize s.step? fuel = sr at *
  obtain ⟨s1, r⟩ := sr
  cases r with
  | false =>
    clear h hv ht hh
    unfold ptrV at *
    go_enter Tryz.func178, Tryz.ntmps178
    go_wp2_with (first | (go_at_call 111; refine HS.mono ?_; rintro e2 w2 ⟨rfl, hr2, hk2⟩))
    go_end0
    exact ⟨rfl, hr2, hk2⟩
  | true =>
    have HE : Hid (∀ w2, RunAt N g rb fuel s1 w2 → Kept (RM g rb) w w2 → Calls Tryz.prog 166 #[.pointer (some ⟨rb, 0, none⟩), .pointer p] w2 (RunK N g rb fuel { s1 with todo := fs, beyond := s1.todo :: s1.beyond } w2)) := fun w2 hr hk => runEnter_any N g rb fuel s1 w2 hr _ fs (ht.mono (h.stays hk))
    have HG : Hid (∀ w2, RunAt N g rb fuel { s1 with todo := fs, beyond := s1.todo :: s1.beyond } w2 → Kept (RM g rb) w w2 → Calls Tryz.prog 139 #[.pointer (some ⟨rb, 0, none⟩), .iface tv xv] w2 (RunK N g rb fuel ({ s1 with todo := fs, beyond := s1.todo :: s1.beyond }.give v) w2)) := fun w2 hr hk => give_any N g rb fuel _ w2 hr _ v (hv.mono (h.stays hk))
    clear h hv ht hh
    unfold ptrV at *
    go_enter Tryz.func178, Tryz.ntmps178
    go_wp2_with (first | (go_at_call 111; refine HS.mono ?_; rintro e2 w2 ⟨rfl, hr2, hk2⟩; have z2 := hk2.cell hm q2) | (go_at_call 166; refine (HE.out _ hr2 hk2).mono ?_; rintro e3 w3 ⟨rfl, hr3, hk3⟩; have hk03 := hk2.trans hk3) | (go_at_call 139; refine (HG.out _ hr3 hk03).mono ?_; rintro e4 w4 ⟨rfl, hr4, hk4⟩))
    go_end0
    exact ⟨rfl, hr4, hk03.trans hk4⟩

/-- A body in a new scope. -/
theorem body_scope (N : Nat → Prop) (g : Gh) (rb fuel : Nat) (s s' : St) (w : World) (h : RunAt N g rb fuel s w) (sl a x : Value) (fs : List Rd.F) (e : Env) (vs : List V) (hs : RepFs (g.ok N) w sl fs) (ha : RepM g.mb (g.ok N) w a (.env e)) (hv : RepM g.mb (g.ok N) w x (.vals vs)) (hx : s.body fs (vs :: e) = some s') :
    Calls Tryz.prog 143 #[ptrV rb, sl, ptrV w.heap.size] (w.alloc (.cells #[x, a] 256)) (RunK N g rb fuel s' w) := by
  have hB : Below w.heap.size w (w.alloc (.cells #[x, a] 256)) := (Below.refl _ w).alloc (Nat.le_refl _) _
  have hst : ∀ k, k < w.heap.size → g.ok N k → g.ok N k ∧ (w.alloc (.cells #[x, a] 256)).heap[k]? = w.heap[k]? := fun k hk ho => ⟨ho, hB.block k hk⟩
  refine (body_any N g rb fuel s s' _ (h.below hB) _ _ fs (vs :: e) (hs.mono hst) (.env1 w.heap.size _ _ 256 _ _ (Gh.ok_new h.m _ (Nat.le_refl _)) (at_new w _) (hv.mono hst) (ha.mono hst)) hx).mono ?_
  rintro r w2 ⟨rfl, hr, hk⟩
  exact ⟨rfl, hr, (Kept.of_below hB _).trans hk⟩

theorem RepM.vals_shape {mb : Nat} {ok : Nat → Prop} {w : World} {x : Value} {vs : List V} (h : RepM mb ok w x (.vals vs)) : ∃ a cap, x = .slice a vs.length cap ∧ vs.length ≤ cap ∧ cap ≤ maxLen := by
  cases h with
  | vals0 => exact ⟨none, 0, rfl, Nat.le_refl _, by unfold maxLen; omega⟩
  | vals g o cap c T _ vf hg hh hn hcap hc hs => exact ⟨_, cap, rfl, hn, hcap⟩

set_option maxHeartbeats 2000000 in
theorem goLet (N : Nat → Prop) (g : Gh) (rb fuel : Nat) (s s' : St) (w : World) (h : RunAt N g rb fuel s w) (x : Value) (vs : List V) (hv : RepM g.mb (g.ok N) w x (.vals vs)) (b1 b2 : Nat) (y sl a : Value) (T1 T2 : TypeId) (fs : List Rd.F) (e : Env)
    (hb1 : w.heap[b1]? = some (.cells #[y, sl] T1 (0, 0))) (hb2 : w.heap[b2]? = some (.cells #[a] T2 (0, 0))) (hs : RepFs (g.ok N) w sl fs) (ha : RepM g.mb (g.ok N) w a (.env e)) (hx : s.body fs (vs :: e) = some s') :
    Calls Tryz.prog 163 #[ptrV rb, x, ptrV b1, ptrV b2] w (RunK N g rb fuel s' w) := by
  have HB := body_scope N g rb fuel s s' w h sl a x fs e vs hs ha hv hx
  obtain ⟨p, rfl⟩ := RepM.ptr ha
  obtain ⟨xa, xc, rfl, _, _⟩ := RepM.vals_shape hv
  obtain ⟨fa, fc, rfl, _, _⟩ := RepFs.shape hs
  obtain ⟨q0, q1, _, _⟩ := cells2 hb1
  obtain ⟨q2, _⟩ := cells1 hb2
  clear h hv hs ha hx hb1 hb2
  unfold ptrV at *
  go_enter Tryz.func163, Tryz.ntmps163
  go_wp2_with (first | (go_at_call 143; refine HB.mono ?_; rintro e6 w3 ⟨rfl, hr3, hk3⟩))
  go_end0
  exact ⟨rfl, hr3, hk3⟩
end Go.Proofs.YtodeeegbajgafaaGreatDoor

namespace Go.Proofs.YtodeeegbajgafaaGreatDoor
open Go.RowKit
open Mc

/-- What a call of the first value with the others comes to. -/
def CallC (show_ : V → Option (List UInt8)) : Prop := ∀ (N : Nat → Prop) (g : Gh) (rb fuel : Nat) (s s' : St) (w : World) (x : Value) (vs : List V), RunAt N g rb fuel s w → RepM g.mb (g.ok N) w x (.vals vs) → s.call fuel show_ vs = some s' →
  Calls Tryz.prog 151 #[ptrV rb, x] w (RunC N g rb fuel s' w)

theorem RunC.after {N : Nat → Prop} {g : Gh} {rb fuel : Nat} {s' : St} {w w1 : World} (hk : Kept (RM g rb) w w1) {e : Ending} {w' : World} (h : RunC N g rb fuel s' w1 e w') : RunC N g rb fuel s' w e w' := by
  obtain ⟨rfl, g', hn, hr, hk'⟩ := h
  exact ⟨rfl, g', ⟨hn.mb, hn.db, fun k e hk1 => hn.mt k e (Nat.lt_of_lt_of_le hk1 hk.size)⟩, hr, hk.trans hk'⟩

theorem RepM.hd_inv {mb : Nat} {ok : Nat → Prop} {w : World} {x : Value} {h : Hd} (hr : RepM mb ok w x (.hd h)) :
    (h = .call ∧ x = fnV 151) ∨ ∃ b1 b2 y s at' T1 T2 vs body en, h = .lett vs body en ∧ x = capFn 163 [b1, b2] ∧ ok b1 ∧ ok b2 ∧ w.heap[b1]? = some (.cells #[y, s] T1 (0, 0)) ∧ w.heap[b2]? = some (.cells #[at'] T2 (0, 0)) ∧ RepFs ok w s body ∧ RepM mb ok w at' (.env en) := by
  cases hr with
  | call => exact Or.inl ⟨rfl, rfl⟩
  | lett b1 b2 y s at' T1 T2 vs body en k1 k2 hh1 hh2 h1 h2 => exact Or.inr ⟨b1, b2, y, s, at', T1, T2, vs, body, en, rfl, rfl, k1, k2, hh1, hh2, h1, h2⟩
theorem RepM.hd_func {mb : Nat} {ok : Nat → Prop} {w : World} {x : Value} {h : Hd} (hr : RepM mb ok w x (.hd h)) : ∃ f cap, x = .func f #[] cap := by
  rcases hr.hd_inv with ⟨_, rfl⟩ | ⟨b1, b2, y, s, at', T1, T2, vs, body, en, _, rfl, _⟩
  · exact ⟨_, _, rfl⟩
  · exact ⟨_, _, rfl⟩

def boxes4 (w : World) (a b c d : Value) : World := (((w.alloc (.cells #[a] 65)).alloc (.cells #[b] 99)).alloc (.cells #[c] 85)).alloc (.cells #[d] 236)
theorem boxes4_below (w : World) (a b c d : Value) : Below w.heap.size w (boxes4 w a b c d) := ((((Below.refl _ w).alloc (Nat.le_refl _) _).alloc (by simp) _).alloc (by simp; omega) _).alloc (by simp; omega) _
theorem boxes4_at (w : World) (a b c d : Value) : (boxes4 w a b c d).heap[w.heap.size]? = some (.cells #[a] 65 (0, 0)) ∧ (boxes4 w a b c d).heap[w.heap.size + 1]? = some (.cells #[b] 99 (0, 0)) ∧ (boxes4 w a b c d).heap[w.heap.size + 2]? = some (.cells #[c] 85 (0, 0)) ∧ (boxes4 w a b c d).heap[w.heap.size + 3]? = some (.cells #[d] 236 (0, 0)) := by
  refine ⟨at_alloc (at_alloc (at_alloc (at_new w _) _) _) _, at_alloc (at_alloc ?_ _) _, at_alloc ?_ _, ?_⟩
  · simpa using at_new (w.alloc (.cells #[a] 65)) (.cells #[b] 99)
  · simpa using at_new ((w.alloc (.cells #[a] 65)).alloc (.cells #[b] 99)) (.cells #[c] 85)
  · unfold boxes4
    simpa using at_new (((w.alloc (.cells #[a] 65)).alloc (.cells #[b] 99)).alloc (.cells #[c] 85)) (.cells #[d] 236)

set_option maxHeartbeats 4000000 in
set_option maxRecDepth 10000 in
theorem each_any (show_ : V → Option (List UInt8)) (HC : CallC show_) (N : Nat → Prop) (g : Gh) (rb fuel : Nat) (s s' : St) (w : World) (h : RunAt N g rb fuel s w) (sl a x d : Value) (fs : List Rd.F) (e : Env) (vs : List V) (hd : Hd)
    (hs : RepFs (g.ok N) w sl fs) (ha : RepM g.mb (g.ok N) w a (.env e)) (hv : RepM g.mb (g.ok N) w x (.vals vs)) (hh : RepM g.mb (g.ok N) w d (.hd hd)) (hlen : vs.length + fs.length ≤ 100000) (hx : s.each fuel show_ fs e vs hd = some s') :
    Calls Tryz.prog 150 #[ptrV rb, sl, a, x, d] w (RunC N g rb fuel s' w) := by
  have hmf : ∀ fn first cap w, (Instr.makeFunc fn first cap).run Tryz.prog w = .ok (.func fn first cap) w := fun _ _ _ _ => rfl
  obtain ⟨p, rfl⟩ := RepM.ptr ha
  obtain ⟨xa, xc, rfl, hvn, hvc⟩ := RepM.vals_shape hv
  have hB := boxes4_below w sl (.pointer p) (.slice xa vs.length xc) d
  obtain ⟨b1, b2, b3, b4⟩ := boxes4_at w sl (.pointer p) (.slice xa vs.length xc) d
  have h1 := h.below hB
  have hst : ∀ k, k < w.heap.size → g.ok N k → g.ok N k ∧ (boxes4 w sl (.pointer p) (.slice xa vs.length xc) d).heap[k]? = w.heap[k]? := fun k hk ho => ⟨ho, hB.block k hk⟩
  have hs1 := hs.mono hst
  have ha1 := ha.mono hst
  have hv1 := hv.mono hst
  have hh1 := hh.mono hst
  have HW : Hid ((((w.alloc (.cells #[sl] 65)).alloc (.cells #[.pointer p] 99)).alloc (.cells #[.slice xa vs.length xc] 85)).alloc (.cells #[d] 236) = boxes4 w sl (.pointer p) (.slice xa vs.length xc) d) := rfl
  have hnew := Gh.ok_new h.m
  have hKW := Kept.of_below hB (RM g rb)
  have hrm := fun k (hk : w.heap.size ≤ k) => RM.new h hk
  generalize boxes4 w sl (.pointer p) (.slice xa vs.length xc) d = W at *
  obtain ⟨q1, _⟩ := cells1 b1
  obtain ⟨q2, _⟩ := cells1 b2
  obtain ⟨q3, _⟩ := cells1 b3
  obtain ⟨q4, _⟩ := cells1 b4
  cases fs with
  | nil =>
    obtain ⟨fa, fc, rfl, _, _⟩ := RepFs.shape hs
    simp only [List.length_nil] at *
    rcases hh1.hd_inv with ⟨rfl, rfl⟩ | ⟨c1, c2, y, bs, at', T1, T2, vs', body, en, rfl, rfl, k1, k2, e1, e2, e3, e4⟩
    · have HCC := HC N g rb fuel s s' W _ vs h1 hv1 hx
      clear h h1 hs ha hv hh hs1 ha1 hv1 hh1 hx b1 b2 b3 b4 hnew hrm hst hB
      unfold fnV ptrV at *
      go_enter Tryz.func150, Tryz.ntmps150
      go_wp2_with (first | (go_at_call 151; rw [HW.out]; refine HCC.mono ?_; rintro e6 w3 ⟨rfl, hr3⟩))
      go_end0
      exact RunC.after hKW ⟨rfl, hr3⟩
    · have HCC := goLet N g rb fuel s s' W h1 _ vs hv1 c1 c2 y bs at' T1 T2 body en e1 e2 e3 e4 hx
      clear h h1 hs ha hv hh hs1 ha1 hv1 hh1 hx b1 b2 b3 b4 hnew hrm hst hB e1 e2 e3 e4
      simp only [capFn, List.map_cons, List.map_nil, ptrV] at HW q4 ⊢
      unfold ptrV at HCC
      go_enter Tryz.func150, Tryz.ntmps150
      go_wp2_with (first | (go_at_call 163; rw [HW.out]; refine HCC.mono ?_; rintro e6 w3 ⟨rfl, hr3, hk3⟩))
      go_end0
      exact RunC.after hKW (RunK.c ⟨rfl, hr3, hk3⟩)
  | cons f fs =>
    obtain ⟨g0, o, cap, v0, rfl, hn, hcap, hg0, c0, hv0⟩ := RepFs.first hs1
    obtain ⟨tv, xv, rfl⟩ := RepF.iface hv0
    obtain ⟨df, dc, rfl⟩ := hh.hd_func
    simp only [St.each, Option.some.injEq] at hx
    subst hx
    have hfr : RepM g.mb (g.ok N) W (capFn 169 [w.heap.size, w.heap.size + 1, w.heap.size + 2, w.heap.size + 3]) (.fr (.each (f :: fs) e vs hd)) := .each _ _ _ _ _ _ _ _ 65 99 85 236 _ _ _ _ hlen (hnew _ (by omega)) (hnew _ (by omega)) (hnew _ (by omega)) (hnew _ (by omega)) b1 b2 b3 b4 hs1 ha1 hv1 hh1
    have HT : Hid (Calls Tryz.prog 160 #[.pointer (some ⟨rb, 0, none⟩), .func (.func 169) #[] #[.pointer (some ⟨w.heap.size, 0, none⟩), .pointer (some ⟨w.heap.size + 1, 0, none⟩), .pointer (some ⟨w.heap.size + 2, 0, none⟩), .pointer (some ⟨w.heap.size + 3, 0, none⟩)]] W (RunK N g rb fuel (s.push (.each (f :: fs) e vs hd)) W)) := then_any N g rb fuel s W h1 169 [w.heap.size, w.heap.size + 1, w.heap.size + 2, w.heap.size + 3] _ hfr
    have HE : Hid (∀ w2, RunAt N g rb fuel (s.push (.each (f :: fs) e vs hd)) w2 → Kept (RM g rb) W w2 → Calls Tryz.prog 110 #[.pointer (some ⟨rb, 0, none⟩), .iface tv xv, .pointer p] w2.drew (RunK N g rb fuel ((s.push (.each (f :: fs) e vs hd)).eval f e) w2.drew)) := fun w2 hr hk => evaluate_any N g rb fuel _ w2.drew hr.drew _ _ f e (hv0.mono (h1.stays hk.drew)) (ha1.mono (h1.stays hk.drew))
    have hm0 := RM.ok h hg0
    have hm1 := hrm w.heap.size (Nat.le_refl _)
    have hm2 := hrm (w.heap.size + 1) (by omega)
    have j1 : (0 : Int) < (fs.length : Int) + 1 := by omega
    have j3 : ¬ ((fs.length : Int) + 1 = 0) := by omega
    have j4 : (((fs.length : Int) + 1) == 0) = false := by simp; omega
    clear h h1 hs ha hv hh hs1 ha1 hv1 hh1 b1 b2 b3 b4 hnew hrm hst hB hv0 hfr
    unfold ptrV at *
    go_enter Tryz.func150, Tryz.ntmps150
    go_wp2_with (first | (go_at_call 160; rw [HW.out]; refine HT.out.mono ?_; rintro e2 w2 ⟨rfl, hr2, hk2⟩; have y1 := hk2.cell hm1 q1; have y2 := hk2.cell hm2 q2; have y3 := hk2.cell hm0 c0))
    go_region_held3 (fun X => X.cell? ⟨w.heap.size, 0, none⟩ = some (.slice (some ⟨g0, o, none⟩) (fs.length + 1) cap) ∧ X.cell? ⟨w.heap.size + 1, 0, none⟩ = some (.pointer p) ∧ X.cell? ⟨g0, o, none⟩ = some (.iface tv xv)) (go_keep) (first | (go_at_call 110; refine (HE.out _ hr2 hk2).mono ?_; rintro e3 w3 ⟨rfl, hr3, hk3⟩; have z1 := hk3.cell hm1 y1; have z2 := hk3.cell hm2 y2; have z3 := hk3.cell hm0 y3))
    go_wp2
    go_end0
    exact RunC.after hKW (RunK.c ⟨rfl, hr3, hk2.trans (Kept.undrew hk3)⟩)
end Go.Proofs.YtodeeegbajgafaaGreatDoor
