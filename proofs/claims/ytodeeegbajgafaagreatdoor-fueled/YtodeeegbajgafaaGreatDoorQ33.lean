/- Steps; resets entered and left. Written by gen_km2.py. Forms that lay a task and evaluate a form. Written by gen_km2.py. -/
import Derived.Test.YtodeeegbajgafaaGreatDoorQ32
import Derived.Test.YtodeeegbajgafaaGreatDoorQ21
import Derived.BigRegion
namespace Go.Proofs.YtodeeegbajgafaaGreatDoor
namespace Kc
open Go.RowKit
def StepR (N : Nat → Prop) (g : Gh) (rb fuel : Nat) (s : St) (w : World) : Ending → World → Prop := fun e w' => e = .returned (.bool (s.step? fuel).2) ∧ RunAt N g rb fuel (s.step? fuel).1 w' ∧ Kept (RM g rb) w w'
set_option maxHeartbeats 1000000 in
theorem step_any (N : Nat → Prop) (g : Gh) (rb fuel : Nat) (s : St) (w : World) (h : RunAt N g rb fuel s w) :
    Calls Tryz.prog 111 #[ptrV rb] w (StepR N g rb fuel s w) := by
  obtain ⟨T, vf, va, vv, vt, vb, hb, hc, ht, hy⟩ := h.blk
  have c1 := cell_of_at hb 1
  have c2 := cell_of_at hb 2
  have c8 := cell_of_at hb 8
  have f2 := free_of_at hb 2
  have f8 := free_of_at hb 8
  simp only [runCells, List.getElem?_toArray, List.getElem?_cons_zero, List.getElem?_cons_succ] at c1 c2 c8
  have hne : ∀ k, g.ok N k → k ≠ rb := fun k hk e => hk.1 (e ▸ h.inN)
  obtain ⟨hb1, hb2⟩ := h.bound
  by_cases hs : s.steps = fuel
  · have hR : RunAt N g rb fuel (s.step? fuel).1 (w.drew.setCell ⟨rb, 8, none⟩ (.int .i64 3)) := by
      have hw : ∀ k, k ≠ rb → (w.drew.setCell ⟨rb, 8, none⟩ (.int .i64 3)).heap[k]? = w.heap[k]? := fun k hk => by rw [Below.heap_setCell _ _ _ _ hk]; rfl
      have hst : ∀ k, k < w.heap.size → g.ok N k → g.ok N k ∧ (w.drew.setCell ⟨rb, 8, none⟩ (.int .i64 3)).heap[k]? = w.heap[k]? := fun k _ ho => ⟨ho, hw k (hne k ho)⟩
      rw [St.step?, if_pos hs]
      refine h.upd (by simp) (fun k _ hk => hw k hk) ⟨rfl, rfl⟩ ⟨T, vf, va, vv, vt, vb, ?_, hc.mono hst, ht.mono hst, hy.mono hst⟩ h.bound.1
      rw [at_setCell (at_drew hb) 8 _]
      simp [runCells]
    have hK : Kept (RM g rb) w (w.drew.setCell ⟨rb, 8, none⟩ (.int .i64 3)) := (Kept.refl _ w).drew.setCell (p := ⟨rb, 8, none⟩) (fun _ => Or.inl rfl) _
    have h2 : (s.step? fuel).2 = false := by rw [St.step?, if_pos hs]
    unfold StepR
    rw [h2]
    rw [hs] at c2
    clear h hb hc ht hy hne hs
    unfold ptrV
    go_enter Tryz.func111, Tryz.ntmps111
    go_wp2
    go_region
    all_goals
      go_wp2
      go_ret
      exact ⟨rfl, hR, hK⟩
  · have hR : RunAt N g rb fuel (s.step? fuel).1 (w.drew.setCell ⟨rb, 2, none⟩ (.int .i64 ((s.steps : Int) + 1))) := by
      have hw : ∀ k, k ≠ rb → (w.drew.setCell ⟨rb, 2, none⟩ (.int .i64 ((s.steps : Int) + 1))).heap[k]? = w.heap[k]? := fun k hk => by rw [Below.heap_setCell _ _ _ _ hk]; rfl
      have hst : ∀ k, k < w.heap.size → g.ok N k → g.ok N k ∧ (w.drew.setCell ⟨rb, 2, none⟩ (.int .i64 ((s.steps : Int) + 1))).heap[k]? = w.heap[k]? := fun k _ ho => ⟨ho, hw k (hne k ho)⟩
      rw [St.step?, if_neg hs]
      refine h.upd (by simp) (fun k _ hk => hw k hk) ⟨rfl, rfl⟩ ⟨T, vf, va, vv, vt, vb, ?_, hc.mono hst, ht.mono hst, hy.mono hst⟩ (by show s.steps + 1 ≤ fuel; omega)
      rw [at_setCell (at_drew hb) 2 _]
      simp [runCells]
    have hK : Kept (RM g rb) w (w.drew.setCell ⟨rb, 2, none⟩ (.int .i64 ((s.steps : Int) + 1))) := (Kept.refl _ w).drew.setCell (p := ⟨rb, 2, none⟩) (fun _ => Or.inl rfl) _
    have h2 : (s.step? fuel).2 = true := by rw [St.step?, if_neg hs]
    unfold StepR
    rw [h2]
    have hq : ((s.steps : Int) == (fuel : Int)) = false := by simp; omega
    have hq' : ¬ (s.steps : Int) = (fuel : Int) := by omega
    have hwr : IntKind.i64.wrap ((s.steps : Int) + 1) = (s.steps : Int) + 1 := i64_in _ (by omega) (by omega)
    clear h hb hc ht hy hne hs
    unfold ptrV
    go_enter Tryz.func111, Tryz.ntmps111
    go_wp2
    go_region
    all_goals
      go_wp2
      go_ret
      exact ⟨rfl, hR, hK⟩
set_option maxHeartbeats 1000000 in
theorem runLeave_any (N : Nat → Prop) (g : Gh) (rb fuel : Nat) (s : St) (w : World) (h : RunAt N g rb fuel s w) (t : List Fr) (b : List (List Fr)) (hbe : s.beyond = t :: b) :
    Calls Tryz.prog 113 #[ptrV rb] w (RunK N g rb fuel { s with todo := t, beyond := b } w) := by
  obtain ⟨T, vf, va, vv, vt, vb, hb, hc, ht, hy⟩ := h.blk
  rw [hbe] at hy
  obtain ⟨k, x, y, T2, rfl, hk, hh, hx, hyy⟩ := hy
  obtain ⟨px, rfl⟩ := RepM.ptr' hx
  obtain ⟨py, rfl⟩ := BeyAt.ptr hyy
  have c6 := cell_of_at hb 6
  have c7 := cell_of_at hb 7
  have f6 := free_of_at hb 6
  have f7 := free_of_at hb 7
  simp only [runCells, List.getElem?_toArray, List.getElem?_cons_zero, List.getElem?_cons_succ] at c6 c7
  obtain ⟨d0, d1, u0, u1⟩ := cells2 hh
  have hne : ∀ k, g.ok N k → k ≠ rb := fun k hk e => hk.1 (e ▸ h.inN)
  have hkr := hne k hk
  have hw : ∀ k, k ≠ rb → ((w.drew.setCell ⟨rb, 6, none⟩ (.pointer px)).setCell ⟨rb, 7, none⟩ (.pointer py)).heap[k]? = w.heap[k]? := fun k hk => by rw [Below.heap_setCell _ _ _ _ hk, Below.heap_setCell _ _ _ _ hk]; rfl
  have hst : ∀ k, k < w.heap.size → g.ok N k → g.ok N k ∧ ((w.drew.setCell ⟨rb, 6, none⟩ (.pointer px)).setCell ⟨rb, 7, none⟩ (.pointer py)).heap[k]? = w.heap[k]? := fun k _ ho => ⟨ho, hw k (hne k ho)⟩
  have hR : RunAt N g rb fuel { s with todo := t, beyond := b } ((w.drew.setCell ⟨rb, 6, none⟩ (.pointer px)).setCell ⟨rb, 7, none⟩ (.pointer py)) := by
    refine h.upd (by simp) (fun k _ hk => hw k hk) ⟨rfl, rfl⟩ ⟨T, vf, va, vv, .pointer px, .pointer py, ?_, hc.mono hst, hx.mono hst, hyy.mono hst⟩ h.bound.1
    rw [at_setCell (at_setCell (at_drew hb) 6 _) 7 _]
    simp [runCells]
  have hK : Kept (RM g rb) w ((w.drew.setCell ⟨rb, 6, none⟩ (.pointer px)).setCell ⟨rb, 7, none⟩ (.pointer py)) := ((Kept.refl _ w).drew.setCell (p := ⟨rb, 6, none⟩) (fun _ => Or.inl rfl) _).setCell (p := ⟨rb, 7, none⟩) (fun _ => Or.inl rfl) _
  clear h hb hc ht hx hyy hh hne hw hst hbe
  unfold ptrV at *
  go_enter Tryz.func113, Tryz.ntmps113
  go_region
  all_goals
    go_wp2
    go_end0
    exact ⟨rfl, hR, hK⟩
set_option maxHeartbeats 1000000 in
theorem runEnter_any (N : Nat → Prop) (g : Gh) (rb fuel : Nat) (s : St) (w : World) (h : RunAt N g rb fuel s w) (v : Value) (t : List Fr) (hv : RepM g.tb (g.ok N) w v (.todo t)) :
    Calls Tryz.prog 166 #[ptrV rb, v] w (RunK N g rb fuel { s with todo := t, beyond := s.todo :: s.beyond } w) := by
  obtain ⟨T, vf, va, vv, vt, vb, hb, hc, ht, hy⟩ := h.blk
  obtain ⟨pv, rfl⟩ := RepM.ptr' hv
  obtain ⟨pt, rfl⟩ := RepM.ptr' ht
  obtain ⟨py, rfl⟩ := BeyAt.ptr hy
  have c6 := cell_of_at hb 6
  have c7 := cell_of_at hb 7
  have f6 := free_of_at hb 6
  have f7 := free_of_at hb 7
  simp only [runCells, List.getElem?_toArray, List.getElem?_cons_zero, List.getElem?_cons_succ] at c6 c7
  have hne : ∀ k, g.ok N k → k ≠ rb := fun k hk e => hk.1 (e ▸ h.inN)
  have hlt := h.lt
  have hnew := Gh.ok_new h.m w.heap.size (Nat.le_refl _)
  have hw : ∀ j, j < w.heap.size → j ≠ rb → (((w.setCell ⟨rb, 7, none⟩ (ptrV w.heap.size)).setCell ⟨rb, 6, none⟩ (.pointer pv)).alloc (.cells #[.pointer pt, .pointer py] 239)).drew.heap[j]? = w.heap[j]? := fun j hj hk => by
    show (((w.setCell ⟨rb, 7, none⟩ (ptrV w.heap.size)).setCell ⟨rb, 6, none⟩ (.pointer pv)).alloc (.cells #[.pointer pt, .pointer py] 239)).heap[j]? = w.heap[j]?
    rw [Below.heap_alloc _ _ _ (by simpa using hj), Below.heap_setCell _ _ _ _ hk, Below.heap_setCell _ _ _ _ hk]
  have hst : ∀ j, j < w.heap.size → g.ok N j → g.ok N j ∧ (((w.setCell ⟨rb, 7, none⟩ (ptrV w.heap.size)).setCell ⟨rb, 6, none⟩ (.pointer pv)).alloc (.cells #[.pointer pt, .pointer py] 239)).drew.heap[j]? = w.heap[j]? := fun j hj ho => ⟨ho, hw j hj (hne j ho)⟩
  have hR : RunAt N g rb fuel { s with todo := t, beyond := s.todo :: s.beyond } (((w.setCell ⟨rb, 7, none⟩ (ptrV w.heap.size)).setCell ⟨rb, 6, none⟩ (.pointer pv)).alloc (.cells #[.pointer pt, .pointer py] 239)).drew := by
    refine h.upd (by simp) hw ⟨rfl, rfl⟩ ⟨T, vf, va, vv, .pointer pv, ptrV w.heap.size, ?_, hc.mono hst, hv.mono hst, ?_⟩ h.bound.1
    · refine at_drew (Eq.trans (at_alloc (at_setCell (at_setCell hb 7 _) 6 _) _) ?_)
      simp [runCells]
    · refine ⟨w.heap.size, .pointer pt, .pointer py, 239, rfl, hnew, ?_, ht.mono hst, hy.mono hst⟩
      exact at_drew (by simpa using at_new ((w.setCell ⟨rb, 7, none⟩ (ptrV w.heap.size)).setCell ⟨rb, 6, none⟩ (.pointer pv)) (.cells #[.pointer pt, .pointer py] 239))
  have hK : Kept (RM g rb) w (((w.setCell ⟨rb, 7, none⟩ (ptrV w.heap.size)).setCell ⟨rb, 6, none⟩ (.pointer pv)).alloc (.cells #[.pointer pt, .pointer py] 239)).drew := ((((Kept.refl _ w).setCell (p := ⟨rb, 7, none⟩) (fun _ => Or.inl rfl) _).setCell (p := ⟨rb, 6, none⟩) (fun _ => Or.inl rfl) _).alloc _).drew
  clear h hb hc ht hy hv hne hw hst
  unfold ptrV at *
  go_enter Tryz.func166, Tryz.ntmps166
  go_wp2
  go_region
  all_goals
    go_wp2
    go_end0
    exact ⟨rfl, hR, hK⟩
end Kc
end Go.Proofs.YtodeeegbajgafaaGreatDoor

namespace Go.Proofs.YtodeeegbajgafaaGreatDoor
namespace Kc
open Go.RowKit
set_option maxHeartbeats 2000000 in
set_option maxRecDepth 10000 in
theorem choose_any (N : Nat → Prop) (g : Gh) (rb fuel : Nat) (s : St) (w : World) (h : RunAt N g rb fuel s w) (vt va ve a : Value) (t x y : Rd.F) (e : Env) (h1 : RepF (g.ok N) w vt t) (h2 : RepF (g.ok N) w va x) (h3 : RepF (g.ok N) w ve y) (ha : RepM g.tb (g.ok N) w a (.env e)) :
    Calls Tryz.prog 141 #[ptrV rb, .agg #[vt, va, ve], a] w (RunK N g rb fuel ((s.push (.choose x (some y) e)).eval t e) w) := by
  have hmf : ∀ fn first cap w, (Instr.makeFunc fn first cap).run Tryz.prog w = .ok (.func fn first cap) w := fun _ _ _ _ => rfl
  obtain ⟨p, rfl⟩ := RepM.ptr ha
  obtain ⟨t1, x1, rfl⟩ := RepF.iface h1
  obtain ⟨t2, x2, rfl⟩ := RepF.iface h2
  obtain ⟨t3, x3, rfl⟩ := RepF.iface h3
  have hB : Below w.heap.size w ((w.alloc (.cells #[.iface t1 x1, .iface t2 x2, .iface t3 x3] 166)).alloc (.cells #[.pointer p] 99)) := ((Below.refl _ w).alloc (Nat.le_refl _) _).alloc (by simp) _
  have hr1 := h.below hB
  have hst : ∀ k, k < w.heap.size → g.ok N k → g.ok N k ∧ ((w.alloc (.cells #[.iface t1 x1, .iface t2 x2, .iface t3 x3] 166)).alloc (.cells #[.pointer p] 99)).heap[k]? = w.heap[k]? := fun k hk ho => ⟨ho, hB.block k hk⟩
  have k1 := Gh.ok_new h.m w.heap.size (Nat.le_refl _)
  have k2 := Gh.ok_new h.m (w.heap.size + 1) (by omega)
  have b1 : ((w.alloc (.cells #[.iface t1 x1, .iface t2 x2, .iface t3 x3] 166)).alloc (.cells #[.pointer p] 99)).heap[w.heap.size]? = some (.cells #[.iface t1 x1, .iface t2 x2, .iface t3 x3] 166 (0, 0)) := at_alloc (at_new w _) _
  have b2 : ((w.alloc (.cells #[.iface t1 x1, .iface t2 x2, .iface t3 x3] 166)).alloc (.cells #[.pointer p] 99)).heap[w.heap.size + 1]? = some (.cells #[.pointer p] 99 (0, 0)) := by simpa using at_new (w.alloc (.cells #[.iface t1 x1, .iface t2 x2, .iface t3 x3] 166)) (.cells #[.pointer p] 99)
  have hm1 := RM.ok h k1
  have hm2 := RM.ok h k2
  generalize hW : ((w.alloc (.cells #[.iface t1 x1, .iface t2 x2, .iface t3 x3] 166)).alloc (.cells #[.pointer p] 99)) = W at *
  have hf := h1.mono hst
  have ha1 := ha.mono hst
  have hfr : RepM g.tb (g.ok N) W (capFn 161 [w.heap.size, w.heap.size + 1]) (.fr (.choose x (some y) e)) := .choose _ _ _ _ _ _ 166 99 x (some y) e k1 k2 b1 b2 (h2.mono hst) (RepX.mono h3 hst) ha1
  obtain ⟨q0, q1, q2, _, _, _⟩ := cells3 b1
  obtain ⟨q3, _⟩ := cells1 b2
  have HK := (show Hid _ from Kept.of_below hB (RM g rb))
  have HT : Hid (Calls Tryz.prog 160 #[.pointer (some ⟨rb, 0, none⟩), .func (.func 161) #[] #[.pointer (some ⟨w.heap.size, 0, none⟩), .pointer (some ⟨w.heap.size + 1, 0, none⟩)]] W (RunK N g rb fuel (s.push (.choose x (some y) e)) W)) := then_any N g rb fuel s W hr1 161 [w.heap.size, w.heap.size + 1] _ hfr
  have HE : Hid (∀ w2, RunAt N g rb fuel (s.push (.choose x (some y) e)) w2 → Kept (RM g rb) W w2 → Calls Tryz.prog 110 #[.pointer (some ⟨rb, 0, none⟩), .iface t1 x1, .pointer p] w2 (RunK N g rb fuel ((s.push (.choose x (some y) e)).eval t e) w2)) := fun w2 hr hk => evaluate_any N g rb fuel _ w2 hr _ _ t e (hf.mono (hr1.stays hk)) (ha1.mono (hr1.stays hk))
  have HW := (show Hid _ from hW)
  clear h1 h2 h3 ha hf ha1 hst hW hfr b1 b2 hB
  unfold ptrV
  go_enter Tryz.func141, Tryz.ntmps141
  go_wp2_with (first | (go_at_call 160; rw [HW.out]; refine HT.out.mono ?_; rintro e2 w2 ⟨rfl, hr2, hk2⟩; have y1 := hk2.cell hm1 q0; have y3 := hk2.cell hm2 q3) | (go_at_call 110; refine (HE.out _ hr2 hk2).mono ?_; rintro e3 w3 ⟨rfl, hr3, hk3⟩))
  go_end0
  exact ⟨rfl, hr3, (HK.out.trans hk2).trans hk3⟩
set_option maxHeartbeats 2000000 in
set_option maxRecDepth 10000 in
theorem runSet_any (N : Nat → Prop) (g : Gh) (rb fuel : Nat) (s : St) (w : World) (h : RunAt N g rb fuel s w) (n : Rd.Sym) (l : Option (Nat × Nat)) (v a : Value) (x : Rd.F) (e : Env) (h1 : RepF (g.ok N) w v x) (ha : RepM g.tb (g.ok N) w a (.env e)) :
    Calls Tryz.prog 145 #[ptrV rb, .agg #[symV n, .bool l.isSome, .int .i64 (locUp l), .int .i64 (locSlot l), v], a] w (RunK N g rb fuel ((s.push (.set_ n l e)).eval x e) w) := by
  have hmf : ∀ fn first cap w, (Instr.makeFunc fn first cap).run Tryz.prog w = .ok (.func fn first cap) w := fun _ _ _ _ => rfl
  obtain ⟨p, rfl⟩ := RepM.ptr ha
  obtain ⟨t1, x1, rfl⟩ := RepF.iface h1
  have hB : Below w.heap.size w ((w.alloc (.cells #[symV n, .bool l.isSome, .int .i64 (locUp l), .int .i64 (locSlot l), .iface t1 x1] 181)).alloc (.cells #[.pointer p] 99)) := ((Below.refl _ w).alloc (Nat.le_refl _) _).alloc (by simp) _
  have hr1 := h.below hB
  have hst : ∀ k, k < w.heap.size → g.ok N k → g.ok N k ∧ ((w.alloc (.cells #[symV n, .bool l.isSome, .int .i64 (locUp l), .int .i64 (locSlot l), .iface t1 x1] 181)).alloc (.cells #[.pointer p] 99)).heap[k]? = w.heap[k]? := fun k hk ho => ⟨ho, hB.block k hk⟩
  have k1 := Gh.ok_new h.m w.heap.size (Nat.le_refl _)
  have k2 := Gh.ok_new h.m (w.heap.size + 1) (by omega)
  have b1 : ((w.alloc (.cells #[symV n, .bool l.isSome, .int .i64 (locUp l), .int .i64 (locSlot l), .iface t1 x1] 181)).alloc (.cells #[.pointer p] 99)).heap[w.heap.size]? = some (.cells #[symV n, .bool l.isSome, .int .i64 (locUp l), .int .i64 (locSlot l), .iface t1 x1] 181 (0, 0)) := at_alloc (at_new w _) _
  have b2 : ((w.alloc (.cells #[symV n, .bool l.isSome, .int .i64 (locUp l), .int .i64 (locSlot l), .iface t1 x1] 181)).alloc (.cells #[.pointer p] 99)).heap[w.heap.size + 1]? = some (.cells #[.pointer p] 99 (0, 0)) := by simpa using at_new (w.alloc (.cells #[symV n, .bool l.isSome, .int .i64 (locUp l), .int .i64 (locSlot l), .iface t1 x1] 181)) (.cells #[.pointer p] 99)
  have hm1 := RM.ok h k1
  have hm2 := RM.ok h k2
  unfold symV at *
  generalize hW : ((w.alloc (.cells #[.string ⟨n.toArray⟩, .bool l.isSome, .int .i64 (locUp l), .int .i64 (locSlot l), .iface t1 x1] 181)).alloc (.cells #[.pointer p] 99)) = W at *
  have hf := h1.mono hst
  have ha1 := ha.mono hst
  have hfr : RepM g.tb (g.ok N) W (capFn 164 [w.heap.size, w.heap.size + 1]) (.fr (.set_ n l e)) := .set_ _ _ _ _ 181 99 n l e k1 k2 b1 b2 ha1
  have q4 := cell_of_at b1 4
  simp only [List.getElem?_toArray, List.getElem?_cons_zero, List.getElem?_cons_succ] at q4
  obtain ⟨q3, _⟩ := cells1 b2
  have HK := (show Hid _ from Kept.of_below hB (RM g rb))
  have HT : Hid (Calls Tryz.prog 160 #[.pointer (some ⟨rb, 0, none⟩), .func (.func 164) #[] #[.pointer (some ⟨w.heap.size, 0, none⟩), .pointer (some ⟨w.heap.size + 1, 0, none⟩)]] W (RunK N g rb fuel (s.push (.set_ n l e)) W)) := then_any N g rb fuel s W hr1 164 [w.heap.size, w.heap.size + 1] _ hfr
  have HE : Hid (∀ w2, RunAt N g rb fuel (s.push (.set_ n l e)) w2 → Kept (RM g rb) W w2 → Calls Tryz.prog 110 #[.pointer (some ⟨rb, 0, none⟩), .iface t1 x1, .pointer p] w2 (RunK N g rb fuel ((s.push (.set_ n l e)).eval x e) w2)) := fun w2 hr hk => evaluate_any N g rb fuel _ w2 hr _ _ x e (hf.mono (hr1.stays hk)) (ha1.mono (hr1.stays hk))
  have HW := (show Hid _ from hW)
  clear h1 ha hf ha1 hst hW hfr b1 b2 hB
  unfold ptrV
  go_enter Tryz.func145, Tryz.ntmps145
  go_wp2_with (first | (go_at_call 160; rw [HW.out]; refine HT.out.mono ?_; rintro e2 w2 ⟨rfl, hr2, hk2⟩; have y1 := hk2.cell hm1 q4; have y3 := hk2.cell hm2 q3) | (go_at_call 110; refine (HE.out _ hr2 hk2).mono ?_; rintro e3 w3 ⟨rfl, hr3, hk3⟩))
  go_end0
  exact ⟨rfl, hr3, (HK.out.trans hk2).trans hk3⟩
set_option maxHeartbeats 2000000 in
set_option maxRecDepth 10000 in
theorem runDefine_any (N : Nat → Prop) (g : Gh) (rb fuel : Nat) (s : St) (w : World) (h : RunAt N g rb fuel s w) (n : Rd.Sym) (v a : Value) (x : Rd.F) (e : Env) (h1 : RepF (g.ok N) w v x) (ha : RepM g.tb (g.ok N) w a (.env e)) :
    Calls Tryz.prog 149 #[ptrV rb, .agg #[symV n, v], a] w (RunK N g rb fuel ((s.push (.define n)).eval x e) w) := by
  have hmf : ∀ fn first cap w, (Instr.makeFunc fn first cap).run Tryz.prog w = .ok (.func fn first cap) w := fun _ _ _ _ => rfl
  obtain ⟨p, rfl⟩ := RepM.ptr ha
  obtain ⟨t1, x1, rfl⟩ := RepF.iface h1
  have hB : Below w.heap.size w (w.alloc (.cells #[symV n, .iface t1 x1] 187)) := (Below.refl _ w).alloc (Nat.le_refl _) _
  have hr1 := h.below hB
  have hst : ∀ k, k < w.heap.size → g.ok N k → g.ok N k ∧ (w.alloc (.cells #[symV n, .iface t1 x1] 187)).heap[k]? = w.heap[k]? := fun k hk ho => ⟨ho, hB.block k hk⟩
  have k1 := Gh.ok_new h.m w.heap.size (Nat.le_refl _)
  have b1 : (w.alloc (.cells #[symV n, .iface t1 x1] 187)).heap[w.heap.size]? = some (.cells #[symV n, .iface t1 x1] 187 (0, 0)) := at_new w _
  have hm1 := RM.ok h k1
  unfold symV at *
  generalize hW : (w.alloc (.cells #[.string ⟨n.toArray⟩, .iface t1 x1] 187)) = W at *
  have hf := h1.mono hst
  have ha1 := ha.mono hst
  have hfr : RepM g.tb (g.ok N) W (capFn 168 [w.heap.size]) (.fr (.define n)) := .define _ _ 187 n k1 b1
  obtain ⟨q0, q1, _, _⟩ := cells2 b1
  have HK := (show Hid _ from Kept.of_below hB (RM g rb))
  have HT : Hid (Calls Tryz.prog 160 #[.pointer (some ⟨rb, 0, none⟩), .func (.func 168) #[] #[.pointer (some ⟨w.heap.size, 0, none⟩)]] W (RunK N g rb fuel (s.push (.define n)) W)) := then_any N g rb fuel s W hr1 168 [w.heap.size] _ hfr
  have HE : Hid (∀ w2, RunAt N g rb fuel (s.push (.define n)) w2 → Kept (RM g rb) W w2 → Calls Tryz.prog 110 #[.pointer (some ⟨rb, 0, none⟩), .iface t1 x1, .pointer p] w2 (RunK N g rb fuel ((s.push (.define n)).eval x e) w2)) := fun w2 hr hk => evaluate_any N g rb fuel _ w2 hr _ _ x e (hf.mono (hr1.stays hk)) (ha1.mono (hr1.stays hk))
  have HW := (show Hid _ from hW)
  clear h1 ha hf ha1 hst hW hfr b1 hB
  unfold ptrV
  go_enter Tryz.func149, Tryz.ntmps149
  go_wp2_with (first | (go_at_call 160; rw [HW.out]; refine HT.out.mono ?_; rintro e2 w2 ⟨rfl, hr2, hk2⟩; have y1 := hk2.cell hm1 q1) | (go_at_call 110; refine (HE.out _ hr2 hk2).mono ?_; rintro e3 w3 ⟨rfl, hr3, hk3⟩))
  go_end0
  exact ⟨rfl, hr3, (HK.out.trans hk2).trans hk3⟩
set_option maxHeartbeats 2000000 in
set_option maxRecDepth 10000 in
theorem choose_none (N : Nat → Prop) (g : Gh) (rb fuel : Nat) (s : St) (w : World) (h : RunAt N g rb fuel s w) (vt va a : Value) (t x : Rd.F) (e : Env) (h1 : RepF (g.ok N) w vt t) (h2 : RepF (g.ok N) w va x) (ha : RepM g.tb (g.ok N) w a (.env e)) :
    Calls Tryz.prog 141 #[ptrV rb, .agg #[vt, va, .nilIface], a] w (RunK N g rb fuel ((s.push (.choose x none e)).eval t e) w) := by
  have hmf : ∀ fn first cap w, (Instr.makeFunc fn first cap).run Tryz.prog w = .ok (.func fn first cap) w := fun _ _ _ _ => rfl
  obtain ⟨p, rfl⟩ := RepM.ptr ha
  obtain ⟨t1, x1, rfl⟩ := RepF.iface h1
  obtain ⟨t2, x2, rfl⟩ := RepF.iface h2
  have hB : Below w.heap.size w ((w.alloc (.cells #[.iface t1 x1, .iface t2 x2, .nilIface] 166)).alloc (.cells #[.pointer p] 99)) := ((Below.refl _ w).alloc (Nat.le_refl _) _).alloc (by simp) _
  have hr1 := h.below hB
  have hst : ∀ k, k < w.heap.size → g.ok N k → g.ok N k ∧ ((w.alloc (.cells #[.iface t1 x1, .iface t2 x2, .nilIface] 166)).alloc (.cells #[.pointer p] 99)).heap[k]? = w.heap[k]? := fun k hk ho => ⟨ho, hB.block k hk⟩
  have k1 := Gh.ok_new h.m w.heap.size (Nat.le_refl _)
  have k2 := Gh.ok_new h.m (w.heap.size + 1) (by omega)
  have b1 : ((w.alloc (.cells #[.iface t1 x1, .iface t2 x2, .nilIface] 166)).alloc (.cells #[.pointer p] 99)).heap[w.heap.size]? = some (.cells #[.iface t1 x1, .iface t2 x2, .nilIface] 166 (0, 0)) := at_alloc (at_new w _) _
  have b2 : ((w.alloc (.cells #[.iface t1 x1, .iface t2 x2, .nilIface] 166)).alloc (.cells #[.pointer p] 99)).heap[w.heap.size + 1]? = some (.cells #[.pointer p] 99 (0, 0)) := by simpa using at_new (w.alloc (.cells #[.iface t1 x1, .iface t2 x2, .nilIface] 166)) (.cells #[.pointer p] 99)
  have hm1 := RM.ok h k1
  have hm2 := RM.ok h k2
  generalize hW : ((w.alloc (.cells #[.iface t1 x1, .iface t2 x2, .nilIface] 166)).alloc (.cells #[.pointer p] 99)) = W at *
  have hf := h1.mono hst
  have ha1 := ha.mono hst
  have hfr : RepM g.tb (g.ok N) W (capFn 161 [w.heap.size, w.heap.size + 1]) (.fr (.choose x none e)) := .choose _ _ _ _ _ _ 166 99 x none e k1 k2 b1 b2 (h2.mono hst) rfl ha1
  obtain ⟨q0, q1, q2, _, _, _⟩ := cells3 b1
  obtain ⟨q3, _⟩ := cells1 b2
  have HK := (show Hid _ from Kept.of_below hB (RM g rb))
  have HT : Hid (Calls Tryz.prog 160 #[.pointer (some ⟨rb, 0, none⟩), .func (.func 161) #[] #[.pointer (some ⟨w.heap.size, 0, none⟩), .pointer (some ⟨w.heap.size + 1, 0, none⟩)]] W (RunK N g rb fuel (s.push (.choose x none e)) W)) := then_any N g rb fuel s W hr1 161 [w.heap.size, w.heap.size + 1] _ hfr
  have HE : Hid (∀ w2, RunAt N g rb fuel (s.push (.choose x none e)) w2 → Kept (RM g rb) W w2 → Calls Tryz.prog 110 #[.pointer (some ⟨rb, 0, none⟩), .iface t1 x1, .pointer p] w2 (RunK N g rb fuel ((s.push (.choose x none e)).eval t e) w2)) := fun w2 hr hk => evaluate_any N g rb fuel _ w2 hr _ _ t e (hf.mono (hr1.stays hk)) (ha1.mono (hr1.stays hk))
  have HW := (show Hid _ from hW)
  clear h1 h2 ha hf ha1 hst hW hfr b1 b2 hB
  unfold ptrV
  go_enter Tryz.func141, Tryz.ntmps141
  go_wp2_with (first | (go_at_call 160; rw [HW.out]; refine HT.out.mono ?_; rintro e2 w2 ⟨rfl, hr2, hk2⟩; have y1 := hk2.cell hm1 q0; have y3 := hk2.cell hm2 q3) | (go_at_call 110; refine (HE.out _ hr2 hk2).mono ?_; rintro e3 w3 ⟨rfl, hr3, hk3⟩))
  go_end0
  exact ⟨rfl, hr3, (HK.out.trans hk2).trans hk3⟩
end Kc
end Go.Proofs.YtodeeegbajgafaaGreatDoor
