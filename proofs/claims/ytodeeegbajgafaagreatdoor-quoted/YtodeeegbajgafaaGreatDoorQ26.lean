/- The task of forms in turn; let. Procedures that are there: pairs. Procedures that are there: null? and list. Values of data: lists with any end. The value of any datum. A form is started. A constant is started. A procedure is made; any form is started. Any task is done. A form is evaluated whole. Procedures of two numbers. Procedures that are there are called. The run's calls. A procedure is called with arguments. Procedures that were made, and those that are there, are called with arguments. The first of the values is called with the others. -/
import Derived.Test.YtodeeegbajgafaaGreatDoorQ23
import Derived.Test.YtodeeegbajgafaaGreatDoorQ08
import Derived.Test.YtodeeegbajgafaaGreatDoorQ24
import Derived.Test.YtodeeegbajgafaaGreatDoorQ14
import Derived.Test.YtodeeegbajgafaaGreatDoorQ25
import Derived.Test.YtodeeegbajgafaaGreatDoorQ19
import Derived.Deep.RegionLawGrows
import Derived.Deep.LoopGhost
import Derived.Deep.RegionHeld3
namespace Go.Proofs.YtodeeegbajgafaaGreatDoor
open Go.RowKit
open Mc

set_option maxHeartbeats 1000000 in
theorem clip_any (a : Option Addr) (n cap : Nat) (w : World) (hn : n ≤ cap) :
    Calls Tryz.prog 170 #[.slice a n cap] w fun e w' => e = .returned (.slice a n n) ∧ w' = w := by
  have i1 : (0 : Int) ≤ (n : Int) := by omega
  have i2 : (n : Int) ≤ (cap : Int) := by omega
  have i3 : ¬ (cap : Int) < (n : Int) := by omega
  go_enter Tryz.func170, Tryz.ntmps170
  go_wp2
  go_ret
  exact ⟨rfl, rfl⟩

theorem RepM.vals_row {mb : Nat} {ok : Nat → Prop} {w : World} {x : Value} {vs : List V} (h : RepM mb ok w x (.vals vs)) :
    ∃ (a : Option Addr) (cap : Nat) (olds : List Value), x = .slice a vs.length cap ∧ vs.length ≤ cap ∧ cap ≤ maxLen ∧ (a = none → vs.length = 0 ∧ cap = 0) ∧ olds.length = vs.length ∧ (∀ b, a = some b → ∀ j u, olds[j]? = some u → w.cell? (b.add j) = some u) ∧ ∀ i (hi : i < vs.length), RepM mb ok w (olds.getD i undef) (.val vs[i]) := by
  cases h with
  | vals0 => exact ⟨none, 0, [], rfl, Nat.le_refl _, by unfold maxLen; omega, fun _ => ⟨rfl, rfl⟩, rfl, (fun b e => by cases e), fun i hi => absurd hi (Nat.not_lt_zero _)⟩
  | vals g o cap c T _ vf hg hh hn hcap hc hs =>
    refine ⟨some ⟨g, o, none⟩, cap, (List.range vs.length).map vf, rfl, hn, hcap, (fun e => by cases e), by simp, ?_, ?_⟩
    · intro b e j u hj
      cases e
      obtain ⟨h1, h2⟩ := List.getElem?_eq_some_iff.1 hj
      simp only [List.length_map, List.length_range] at h1
      simp only [List.getElem_map, List.getElem_range] at h2
      rw [Addr.add_lit, cell_of_at hh, ← h2]
      exact hc j h1
    · intro i hi
      have : ((List.range vs.length).map vf).getD i undef = vf i := by simp [hi]
      rw [this]
      exact hs i hi

/-- A row that holds values. -/
theorem own_vals {mb : Nat} {ok : Nat → Prop} {w : World} {B : Nat} {x : Value} {vs : List V} {xs : List Value} (ho : w.ownsRow B 60 1 x vs.length xs) (hB : ∀ k, B ≤ k → ok k) (hs : ∀ i (hi : i < vs.length), RepM mb ok w (xs.getD i undef) (.val vs[i])) : RepM mb ok w x (.vals vs) := by
  obtain ⟨hx, h | ⟨g, cap, cur, rfl, hg, hh, hn, hcap, hcs, htk⟩⟩ := ho
  · obtain ⟨rfl, h0⟩ := h
    have : vs = [] := List.length_eq_zero_iff.1 h0
    subst this
    exact .vals0
  · refine .vals g 0 cap cur 60 vs (fun i => xs.getD i undef) (hB g hg) hh hn hcap ?_ hs
    intro i hi
    have h1 : (cur.toList.take (vs.length * 1))[i]? = xs[i]? := by rw [htk]
    rw [List.getElem?_take, if_pos (by omega)] at h1
    rw [Nat.zero_add, ← Array.getElem?_toList, h1, List.getD_eq_getElem?_getD, List.getElem?_eq_getElem (by omega)]
    rfl

theorem Tryz.info60 : (Tryz.prog.info? 60).map (fun i => (i.zero, i.size, i.bytes)) = some (some .nilIface, 1, 16) := by kernel_rfl

theorem RepM.each_inv {mb : Nat} {ok : Nat → Prop} {w : World} {x : Value} {fs : List Rd.F} {en : Env} {vals : List V} {hd : Hd} (h : RepM mb ok w x (.fr (.each fs en vals hd))) :
    ∃ b1 b2 b3 b4 s at' vs d T1 T2 T3 T4, x = capFn 169 [b1, b2, b3, b4] ∧ vals.length + fs.length ≤ 100000 ∧ ok b1 ∧ ok b2 ∧ ok b3 ∧ ok b4 ∧ w.heap[b1]? = some (.cells #[s] T1 (0, 0)) ∧ w.heap[b2]? = some (.cells #[at'] T2 (0, 0)) ∧ w.heap[b3]? = some (.cells #[vs] T3 (0, 0)) ∧ w.heap[b4]? = some (.cells #[d] T4 (0, 0)) ∧
      RepFs ok w s fs ∧ RepM mb ok w at' (.env en) ∧ RepM mb ok w vs (.vals vals) ∧ RepM mb ok w d (.hd hd) := by
  cases h with
  | each b1 b2 b3 b4 s at' vs d T1 T2 T3 T4 _ _ _ _ hb k1 k2 k3 k4 hh1 hh2 hh3 hh4 h1 h2 h3 h4 => exact ⟨b1, b2, b3, b4, s, at', vs, d, T1, T2, T3, T4, rfl, hb, k1, k2, k3, k4, hh1, hh2, hh3, hh4, h1, h2, h3, h4⟩

set_option maxHeartbeats 2000000 in
theorem runLet_any (show_ : V → Option (List UInt8)) (HC : CallC show_) (N : Nat → Prop) (g : Gh) (rb fuel : Nat) (s s' : St) (w : World) (h : RunAt N g rb fuel s w) (y sl a : Value) (vs fs : List Rd.F) (e : Env)
    (hy : RepFs (g.ok N) w y vs) (hs : RepFs (g.ok N) w sl fs) (ha : RepM g.mb (g.ok N) w a (.env e)) (hx : s.each fuel show_ vs e [] (.lett vs fs e) = some s') :
    Calls Tryz.prog 144 #[ptrV rb, .agg #[y, sl], a] w (RunC N g rb fuel s' w) := by
  have hmf : ∀ fn first cap w, (Instr.makeFunc fn first cap).run Tryz.prog w = .ok (.func fn first cap) w := fun _ _ _ _ => rfl
  obtain ⟨p, rfl⟩ := RepM.ptr ha
  obtain ⟨ya, yc, rfl, hyn, hyc⟩ := RepFs.shape hy
  obtain ⟨fa, fc, rfl, _, _⟩ := RepFs.shape hs
  have hB : Below w.heap.size w ((w.alloc (.cells #[.slice (some ya) vs.length yc, .slice (some fa) fs.length fc] 175)).alloc (.cells #[.pointer p] 99)) := ((Below.refl _ w).alloc (Nat.le_refl _) _).alloc (by simp) _
  have b1 : ((w.alloc (.cells #[.slice (some ya) vs.length yc, .slice (some fa) fs.length fc] 175)).alloc (.cells #[.pointer p] 99)).heap[w.heap.size]? = some (.cells #[.slice (some ya) vs.length yc, .slice (some fa) fs.length fc] 175 (0, 0)) := at_alloc (at_new w _) _
  have b2 : ((w.alloc (.cells #[.slice (some ya) vs.length yc, .slice (some fa) fs.length fc] 175)).alloc (.cells #[.pointer p] 99)).heap[w.heap.size + 1]? = some (.cells #[.pointer p] 99 (0, 0)) := by simpa using at_new (w.alloc (.cells #[.slice (some ya) vs.length yc, .slice (some fa) fs.length fc] 175)) (.cells #[.pointer p] 99)
  have HW : Hid (((w.alloc (.cells #[.slice (some ya) vs.length yc, .slice (some fa) fs.length fc] 175)).alloc (.cells #[.pointer p] 99)) = ((w.alloc (.cells #[.slice (some ya) vs.length yc, .slice (some fa) fs.length fc] 175)).alloc (.cells #[.pointer p] 99))) := rfl
  have h1 := h.below hB
  have hst : ∀ k, k < w.heap.size → g.ok N k → g.ok N k ∧ ((w.alloc (.cells #[.slice (some ya) vs.length yc, .slice (some fa) fs.length fc] 175)).alloc (.cells #[.pointer p] 99)).heap[k]? = w.heap[k]? := fun k hk ho => ⟨ho, hB.block k hk⟩
  have hnew := Gh.ok_new h.m
  have HE := each_any show_ HC N g rb fuel s s' _ h1 _ (.pointer p) (.slice none 0 0) (capFn 163 [w.heap.size, w.heap.size + 1]) vs e [] (.lett vs fs e) (hy.mono hst) (ha.mono hst) .vals0 (.lett _ _ _ _ _ 175 99 vs fs e (hnew _ (Nat.le_refl _)) (hnew _ (by omega)) b1 b2 (hs.mono hst) (ha.mono hst)) (by simp; omega) hx
  obtain ⟨q0, q1, _, _⟩ := cells2 b1
  obtain ⟨q2, _⟩ := cells1 b2
  have hKW := Kept.of_below hB (RM g rb)
  clear h h1 hy hs ha hx b1 b2 hst hnew hB HW
  simp only [capFn, List.map_cons, List.map_nil, ptrV] at HE ⊢
  go_enter Tryz.func144, Tryz.ntmps144
  go_wp2_with (first | (go_at_call 150; refine HE.mono ?_; rintro e6 w3 ⟨rfl, hr3⟩))
  go_end0
  exact RunC.after hKW ⟨rfl, hr3⟩

set_option maxHeartbeats 4000000 in
set_option maxRecDepth 10000 in
theorem goEach (show_ : V → Option (List UInt8)) (HC : CallC show_) (N : Nat → Prop) (g : Gh) (rb fuel : Nat) (s s' : St) (w : World) (h : RunAt N g rb fuel s w) (x : Value) (v : V) (hv : RepM g.mb (g.ok N) w x (.val v)) (b1 b2 b3 b4 : Nat) (sl a xs d : Value) (T1 T2 T3 T4 : TypeId) (f : Rd.F) (fs : List Rd.F) (e : Env) (vals : List V) (hd : Hd)
    (hlen : vals.length + (f :: fs).length ≤ 100000) (k1 : g.ok N b1) (k2 : g.ok N b2) (k3 : g.ok N b3) (k4 : g.ok N b4) (hb1 : w.heap[b1]? = some (.cells #[sl] T1 (0, 0))) (hb2 : w.heap[b2]? = some (.cells #[a] T2 (0, 0))) (hb3 : w.heap[b3]? = some (.cells #[xs] T3 (0, 0))) (hb4 : w.heap[b4]? = some (.cells #[d] T4 (0, 0)))
    (h1 : RepFs (g.ok N) w sl (f :: fs)) (ha : RepM g.mb (g.ok N) w a (.env e)) (hxs : RepM g.mb (g.ok N) w xs (.vals vals)) (hdd : RepM g.mb (g.ok N) w d (.hd hd)) (hx : s.each fuel show_ fs e (vals ++ [v]) hd = some s') :
    Calls Tryz.prog 169 #[ptrV rb, x, ptrV b1, ptrV b2, ptrV b3, ptrV b4] w (RunC N g rb fuel s' w) := by
  obtain ⟨i0, hi, hz0, hz1, hz2⟩ := info_parts Tryz.info60
  obtain ⟨p, rfl⟩ := RepM.ptr ha
  obtain ⟨tv, xv, rfl⟩ := RepM.iface hv
  obtain ⟨df, dc, rfl⟩ := hdd.hd_func
  obtain ⟨g0, o, cap, v0, rfl, hn, hcap, hg0, c0, hv0⟩ := RepFs.first h1
  obtain ⟨xa, xc, olds, rfl, hxn, hxc, hxnone, holen, holds, hols⟩ := hxs.vals_row
  simp only [List.length_cons] at hlen
  have ht : ∃ o', RepFs (g.ok N) w (.slice (some ⟨g0, o', none⟩) fs.length (cap - 1)) fs ∧ (¬ cap = 1 → o' = o + 1) := by
    by_cases hc : cap = 1
    · have : fs = [] := List.length_eq_zero_iff.1 (by omega)
      subst this
      exact ⟨o, RepFs.tail1 h1, fun e => absurd hc e⟩
    · exact ⟨o + 1, RepFs.tail h1, fun _ => rfl⟩
  have hB : Below w.heap.size w (w.drew.alloc (.cells #[.iface tv xv] 60)) := (Below.refl _ w).drew.alloc (Nat.le_refl _) _
  have hEach : ∀ v' w2 o', RepFs (g.ok N) w (.slice (some ⟨g0, o', none⟩) fs.length (cap - 1)) fs → w2.ownsRow (w.drew.alloc (.cells #[.iface tv xv] 60)).heap.size 60 1 v' (vals.length + 1) (olds ++ [.iface tv xv]) → (w.drew.alloc (.cells #[.iface tv xv] 60)).grownBy w2 none →
      Calls Tryz.prog 150 #[.pointer (some ⟨rb, 0, none⟩), .slice (some ⟨g0, o', none⟩) fs.length (cap - 1), .pointer p, v', .func df #[] dc] w2 (RunC N g rb fuel s' w) := by
    intro v' w2 o' hfs hown hgr
    have hB2 : Below w.heap.size w w2 := hB.grown hgr (by simp) (fun k e => by cases e)
    have hr2 := h.below hB2
    have hst : ∀ k, k < w.heap.size → g.ok N k → g.ok N k ∧ w2.heap[k]? = w.heap[k]? := fun k hk ho => ⟨ho, hB2.block k hk⟩
    have hvals : RepM g.mb (g.ok N) w2 v' (.vals (vals ++ [v])) := by
      refine own_vals (B := (w.drew.alloc (.cells #[.iface tv xv] 60)).heap.size) (xs := olds ++ [.iface tv xv]) (by simpa using hown) (fun k hk => Gh.ok_new h.m k (by simp at hk; omega)) ?_
      intro i hi
      simp only [List.length_append, List.length_cons, List.length_nil] at hi
      by_cases hlt : i < vals.length
      · have e1 : (olds ++ [Value.iface tv xv]).getD i undef = olds.getD i undef := by
          simp only [List.getD_eq_getElem?_getD]
          rw [List.getElem?_append_left (by omega)]
        rw [e1, List.getElem_append_left hlt]
        exact (hols i hlt).mono hst
      · have : i = vals.length := by omega
        subst this
        have e1 : (olds ++ [Value.iface tv xv]).getD vals.length undef = .iface tv xv := by
          simp only [List.getD_eq_getElem?_getD, ← holen]
          simp
        rw [e1]
        simpa using hv.mono hst
    refine (each_any show_ HC N g rb fuel s s' w2 hr2 _ _ _ _ fs e (vals ++ [v]) hd (hfs.mono hst) (ha.mono hst) hvals (hdd.mono hst) (by simp; omega) hx).mono ?_
    intro r w3 hR
    exact RunC.after (Kept.of_below hB2 _) hR
  have HE := (show Hid _ from hEach)
  have hm1 := RM.ok h k1
  have hm2 := RM.ok h k2
  have hm3 := RM.ok h k3
  have hm4 := RM.ok h k4
  have hcl := fun W => clip_any xa vals.length xc W hxn
  have HL := (show Hid _ from hcl)
  obtain ⟨q1, _⟩ := cells1 hb1
  obtain ⟨q2, _⟩ := cells1 hb2
  obtain ⟨q3, _⟩ := cells1 hb3
  obtain ⟨q4, _⟩ := cells1 hb4
  have hl1 := lt_of_at hb1
  have hl2 := lt_of_at hb2
  have hl3 := lt_of_at hb3
  have hl4 := lt_of_at hb4
  have i2 : (1 : Int) ≤ (fs.length : Int) + 1 := by omega
  have i3 : (fs.length : Int) + 1 ≤ (cap : Int) := by omega
  have hcells : ∀ w2, (w.drew.alloc (.cells #[.iface tv xv] 60)).grownBy w2 none → w2.cell? ⟨b1, 0, none⟩ = some (.slice (some ⟨g0, o, none⟩) (fs.length + 1) cap) ∧ w2.cell? ⟨b2, 0, none⟩ = some (.pointer p) ∧ w2.cell? ⟨b3, 0, none⟩ = some (.slice xa vals.length xc) ∧ w2.cell? ⟨b4, 0, none⟩ = some (.func df #[] dc) := by
    intro w2 hgr
    have hB2 : Below w.heap.size w w2 := hB.grown hgr (by simp) (fun k e => by cases e)
    have hk := Kept.of_below hB2 (fun _ => False)
    exact ⟨hk.cell id q1, hk.cell id q2, hk.cell id q3, hk.cell id q4⟩
  have HCL := (show Hid _ from hcells)
  have hold2 : ∀ b, xa = some b → ∀ j u, olds[j]? = some u → (w.drew.alloc (.cells #[.iface tv xv] 60)).cell? (b.add j) = some u := by
    intro b e j u hj
    have h0 := holds b e j u hj
    have hlt : (b.add j).block < w.heap.size := by
      by_cases hl : (b.add j).block < w.heap.size
      · exact hl
      · simp [World.cell?, Array.getElem?_eq_none (show w.heap.size ≤ (b.add j).block by omega)] at h0
    rw [← h0]
    exact World.cell?_of_block (hB.block _ hlt)
  have ht1 : cap = 1 → ∀ o'', RepFs (g.ok N) w (.slice (some ⟨g0, o'', none⟩) 0 0) [] := fun hc o'' => by
    have h0 : fs = [] := List.length_eq_zero_iff.1 (by omega)
    subst h0
    subst hc
    exact RepFs.tail1 h1
  obtain ⟨o', hfs, ho'⟩ := ht
  clear h h1 ha hv hxs hdd hx hb1 hb2 hb3 hb4 hEach hcl hcells hols hv0 holds
  by_cases hc : cap = 1
  · subst hc
    have hf0 : fs = [] := List.length_eq_zero_iff.1 (by omega)
    subst hf0
    have hfs1 := ht1 rfl
    simp only [List.length_nil, Nat.zero_add, Nat.sub_self] at HE q1 HCL
    clear i2 i3 hfs ho'
    unfold ptrV
    go_enter Tryz.func169, Tryz.ntmps169
    go_wp2
    go_region_held3 (fun X => X.cell? ⟨b1, 0, none⟩ = some (.slice (some ⟨g0, o, none⟩) 1 1) ∧ X.cell? ⟨b2, 0, none⟩ = some (.pointer p) ∧ X.cell? ⟨b3, 0, none⟩ = some (.slice xa vals.length xc) ∧ X.cell? ⟨b4, 0, none⟩ = some (.func df #[] dc)) (go_keep) (first | (go_at_call 170; refine (HL.out _).mono ?_; rintro e1 w1 ⟨rfl, rfl⟩) | (refine step_append_grows rfl (.tmp 13) (.tmp 15) 85 rfl 60 i0 .nilIface 1 16 Tryz.underlying85 hi hz0 hz1 hz2 rfl (by decide) xa vals.length vals.length olds (by simp [Act.eval]) (fun e => ⟨(hxnone e).1, (hxnone e).1⟩) (by omega) hold2 ⟨w.heap.size, 0, none⟩ 1 1 [.iface tv xv] (by simp [Act.eval]) rfl (by first | exact cell_one_new _ _ _ | skip) (by intro u hu; simp at hu; subst hu; rfl) (by omega) (by unfold maxLen; omega) (by omega) ?_; intro v' w2 hown hgr; obtain ⟨z1, z2, z3, z4⟩ := HCL.out _ hgr) | (go_at_call 150; refine (HE.out _ _ _ (hfs1 _) hown hgr).mono ?_; rintro e3 w3 ⟨rfl, g', hn', hr3, hk3⟩; have y1 := hk3.cell hm1 q1; have y2 := hk3.cell hm2 q2; have y3 := hk3.cell hm3 q3; have y4 := hk3.cell hm4 q4))
    all_goals
      go_wp2
      go_end0
      exact ⟨rfl, g', hn', hr3, hk3⟩
  · obtain rfl := ho' hc
    unfold ptrV
    go_enter Tryz.func169, Tryz.ntmps169
    go_wp2
    go_region_held3 (fun X => X.cell? ⟨b1, 0, none⟩ = some (.slice (some ⟨g0, o, none⟩) (fs.length + 1) cap) ∧ X.cell? ⟨b2, 0, none⟩ = some (.pointer p) ∧ X.cell? ⟨b3, 0, none⟩ = some (.slice xa vals.length xc) ∧ X.cell? ⟨b4, 0, none⟩ = some (.func df #[] dc)) (go_keep) (first | (go_at_call 170; refine (HL.out _).mono ?_; rintro e1 w1 ⟨rfl, rfl⟩) | (refine step_append_grows rfl (.tmp 13) (.tmp 15) 85 rfl 60 i0 .nilIface 1 16 Tryz.underlying85 hi hz0 hz1 hz2 rfl (by decide) xa vals.length vals.length olds (by simp [Act.eval]) (fun e => ⟨(hxnone e).1, (hxnone e).1⟩) (by omega) hold2 ⟨w.heap.size, 0, none⟩ 1 1 [.iface tv xv] (by simp [Act.eval]) rfl (by first | exact cell_one_new _ _ _ | skip) (by intro u hu; simp at hu; subst hu; rfl) (by omega) (by unfold maxLen; omega) (by omega) ?_; intro v' w2 hown hgr; obtain ⟨z1, z2, z3, z4⟩ := HCL.out _ hgr) | (go_at_call 150; refine (HE.out _ _ _ hfs hown hgr).mono ?_; rintro e3 w3 ⟨rfl, g', hn', hr3, hk3⟩; have y1 := hk3.cell hm1 q1; have y2 := hk3.cell hm2 q2; have y3 := hk3.cell hm3 q3; have y4 := hk3.cell hm4 q4))
    all_goals
      go_wp2
      go_end0
      exact ⟨rfl, g', hn', hr3, hk3⟩
end Go.Proofs.YtodeeegbajgafaaGreatDoor

namespace Go.Proofs.YtodeeegbajgafaaGreatDoor
open Go.RowKit
open Mc

/-- Values in a row that has some. -/
theorem RepM.vals_at {mb : Nat} {ok : Nat → Prop} {w : World} {x : Value} {v : V} {vs : List V} (h : RepM mb ok w x (.vals (v :: vs))) :
    ∃ g o cap, x = .slice (some ⟨g, o, none⟩) (vs.length + 1) cap ∧ vs.length + 1 ≤ cap ∧ cap ≤ maxLen ∧ ok g ∧ ∀ i (hi : i < vs.length + 1), ∃ y, w.cell? ⟨g, o + i, none⟩ = some y ∧ RepM mb ok w y (.val ((v :: vs)[i]'(by simpa using hi))) := by
  cases h with
  | vals g o cap c T _ vf hg hh hn hcap hc hs =>
    refine ⟨g, o, cap, rfl, hn, hcap, hg, fun i hi => ⟨vf i, ?_, hs i (by simpa using hi)⟩⟩
    rw [cell_of_at hh]
    exact hc i (by simpa using hi)

/-- A procedure comes to a value, and makes nothing but new memory. -/
def DoR (mb : Nat) (ok : Nat → Prop) (w : World) (v : V) : Ending → World → Prop := fun e w' => ∃ y, e = .returned (.tuple #[y, .int .i64 0]) ∧ RepM mb ok w' y (.val v) ∧ Below w.heap.size w w'
theorem below_rep {ok : Nat → Prop} {w w' : World} (h : Below w.heap.size w w') : ∀ k, k < w.heap.size → ok k → ok k ∧ w'.heap[k]? = w.heap[k]? := fun k hk ho => ⟨ho, h.block k hk⟩

set_option maxHeartbeats 2000000 in
theorem doCons (mb : Nat) (ok : Nat → Prop) (w : World) (hok : ∀ k, w.heap.size ≤ k → ok k) (x : Value) (a b : V) (hx : RepM mb ok w x (.vals [a, b])) :
    Calls Tryz.prog 77 #[x] w (DoR mb ok w (.pair a b)) := by
  obtain ⟨g, o, cap, rfl, hn, hcap, hg, hat⟩ := hx.vals_at
  obtain ⟨y0, c0, h0⟩ := hat 0 (by simp)
  obtain ⟨y1, c1, h1⟩ := hat 1 (by simp)
  simp only [List.length_cons, List.length_nil, Nat.add_zero, Nat.zero_add, List.getElem_cons_zero, List.getElem_cons_succ] at *
  have hB : Below w.heap.size w (w.drew.alloc (.cells #[y0, y1] 126)) := ((Below.refl _ w).drew).alloc (Nat.le_refl _) _
  have hR : RepM mb ok (w.drew.alloc (.cells #[y0, y1] 126)) (.iface 124 (.pointer (some ⟨w.heap.size, 0, none⟩))) (.val (.pair a b)) := .pair w.heap.size y0 y1 126 a b (hok _ (Nat.le_refl _)) (at_new w.drew _) (h0.mono (below_rep hB)) (h1.mono (below_rep hB))
  obtain ⟨t0, z0, rfl⟩ := h0.iface
  obtain ⟨t1, z1, rfl⟩ := h1.iface
  clear h0 h1 hx hat
  have j1 : ¬ cap = 1 := by omega
  go_enter Tryz.func77, Tryz.ntmps77
  go_wp2
  go_region
  all_goals
    go_wp2
    go_ret2
    exact ⟨_, rfl, hR, hB⟩

set_option maxHeartbeats 1000000 in
theorem head_any (w : World) (b : Nat) (x y : Value) (T : TypeId) (hh : w.heap[b]? = some (.cells #[x, y] T (0, 0))) (hx : ∃ t z, x = .iface t z) : Calls Tryz.prog 79 #[.pointer (some ⟨b, 0, none⟩)] w fun e w' => e = .returned x ∧ w' = w := by
  obtain ⟨t, z, rfl⟩ := hx
  obtain ⟨c0, c1, _, _⟩ := cells2 hh
  clear hh
  go_enter Tryz.func79, Tryz.ntmps79
  go_wp2
  go_ret
  exact ⟨rfl, rfl⟩
set_option maxHeartbeats 1000000 in
theorem tail_any (w : World) (b : Nat) (x y : Value) (T : TypeId) (hh : w.heap[b]? = some (.cells #[x, y] T (0, 0))) (hx : ∃ t z, y = .iface t z) : Calls Tryz.prog 80 #[.pointer (some ⟨b, 0, none⟩)] w fun e w' => e = .returned y ∧ w' = w := by
  obtain ⟨t, z, rfl⟩ := hx
  obtain ⟨c0, c1, _, _⟩ := cells2 hh
  clear hh
  go_enter Tryz.func80, Tryz.ntmps80
  go_wp2
  go_ret
  exact ⟨rfl, rfl⟩

theorem RepM.pair_inv {mb : Nat} {ok : Nat → Prop} {w : World} {x : Value} {h t : V} (hr : RepM mb ok w x (.val (.pair h t))) : ∃ b y z T, x = .iface 124 (ptrV b) ∧ ok b ∧ w.heap[b]? = some (.cells #[y, z] T (0, 0)) ∧ RepM mb ok w y (.val h) ∧ RepM mb ok w z (.val t) := by
  cases hr with
  | pair b y z T _ _ hb hh h1 h2 => exact ⟨b, y, z, T, rfl, hb, hh, h1, h2⟩
theorem RepM.atom_inv {mb : Nat} {ok : Nat → Prop} {w : World} {x : Value} {a : Rd.A} (hr : RepM mb ok w x (.val (.atom a))) : x = aV a := by
  cases hr with
  | atom => rfl

set_option maxHeartbeats 2000000 in
theorem doCar (mb : Nat) (ok : Nat → Prop) (w : World) (x : Value) (a b : V) (hx : RepM mb ok w x (.vals [.pair a b])) (c : Nat) (T' : TypeId) (hc : w.heap[c]? = some (.cells #[fnV 79] T' (0, 0))) :
    Calls Tryz.prog 127 #[x, ptrV c] w (DoR mb ok w a) := by
  obtain ⟨g, o, cap, rfl, hn, hcap, hg, hat⟩ := hx.vals_at
  obtain ⟨y0, c0, h0⟩ := hat 0 (by simp)
  simp only [List.length_nil, Nat.add_zero, Nat.zero_add, List.getElem_cons_zero] at *
  obtain ⟨bb, y, z, T, rfl, hb, hh, h1, h2⟩ := h0.pair_inv
  have HH := head_any w bb y z T hh h1.iface
  obtain ⟨q0, _⟩ := cells1 hc
  have hit := fun w => ta_hit124 (.pointer (some ⟨bb, 0, none⟩)) w
  have hB : Below w.heap.size w w := Below.refl _ w
  have HR := (show Hid _ from h1)
  obtain ⟨t0, z0, rfl⟩ := h1.iface
  clear hx hat h0 h1 h2 hh hc
  unfold ptrV fnV at *
  go_enter Tryz.func127, Tryz.ntmps127
  go_wp2_with (first | (go_at_call 79; refine HH.mono ?_; rintro e2 w2 ⟨rfl, rfl⟩))
  go_ret2
  exact ⟨_, rfl, HR.out, hB⟩
set_option maxHeartbeats 2000000 in
theorem doCdr (mb : Nat) (ok : Nat → Prop) (w : World) (x : Value) (a b : V) (hx : RepM mb ok w x (.vals [.pair a b])) (c : Nat) (T' : TypeId) (hc : w.heap[c]? = some (.cells #[fnV 80] T' (0, 0))) :
    Calls Tryz.prog 127 #[x, ptrV c] w (DoR mb ok w b) := by
  obtain ⟨g, o, cap, rfl, hn, hcap, hg, hat⟩ := hx.vals_at
  obtain ⟨y0, c0, h0⟩ := hat 0 (by simp)
  simp only [List.length_nil, Nat.add_zero, Nat.zero_add, List.getElem_cons_zero] at *
  obtain ⟨bb, y, z, T, rfl, hb, hh, h1, h2⟩ := h0.pair_inv
  have HH := tail_any w bb y z T hh h2.iface
  obtain ⟨q0, _⟩ := cells1 hc
  have hit := fun w => ta_hit124 (.pointer (some ⟨bb, 0, none⟩)) w
  have hB : Below w.heap.size w w := Below.refl _ w
  have HR := (show Hid _ from h2)
  obtain ⟨t0, z0, rfl⟩ := h2.iface
  clear hx hat h0 h1 h2 hh hc
  unfold ptrV fnV at *
  go_enter Tryz.func127, Tryz.ntmps127
  go_wp2_with (first | (go_at_call 80; refine HH.mono ?_; rintro e2 w2 ⟨rfl, rfl⟩))
  go_ret2
  exact ⟨_, rfl, HR.out, hB⟩

theorem aV_no124 (a : Rd.A) : ∃ t z, aV a = .iface t z ∧ t ≠ 124 := by
  cases a <;> exact ⟨_, _, rfl, by decide⟩
set_option maxHeartbeats 2000000 in
theorem doNoPair (mb : Nat) (ok : Nat → Prop) (w : World) (x : Value) (a : Rd.A) (hx : RepM mb ok w x (.vals [.atom a])) (c : Nat) :
    Calls Tryz.prog 127 #[x, ptrV c] w fun e w' => e = .returned (.tuple #[.nilIface, .int .i64 2]) ∧ w' = w := by
  obtain ⟨g, o, cap, rfl, hn, hcap, hg, hat⟩ := hx.vals_at
  obtain ⟨y0, c0, h0⟩ := hat 0 (by simp)
  simp only [List.length_nil, Nat.add_zero, Nat.zero_add, List.getElem_cons_zero] at *
  obtain rfl := h0.atom_inv
  obtain ⟨t, z, hz, ht⟩ := aV_no124 a
  rw [hz] at c0
  have miss := fun w => ta_miss124 t z w ht
  clear hx hat h0 hz
  unfold ptrV at *
  go_enter Tryz.func127, Tryz.ntmps127
  go_wp2
  go_ret2
  exact ⟨rfl, rfl⟩
end Go.Proofs.YtodeeegbajgafaaGreatDoor

namespace Go.Proofs.YtodeeegbajgafaaGreatDoor
open Go.RowKit
open Mc

set_option maxHeartbeats 2000000 in
theorem doNull (mb : Nat) (ok : Nat → Prop) (w : World) (x : Value) (v : V) (r : Bool) (hr : basicDo 13 [v] = some (.val (.atom (.truth r)))) (hx : RepM mb ok w x (.vals [v])) :
    Calls Tryz.prog 83 #[x] w (DoR mb ok w (.atom (.truth r))) := by
  obtain ⟨g, o, cap, rfl, hn, hcap, hg, hat⟩ := hx.vals_at
  obtain ⟨y0, c0, h0⟩ := hat 0 (by simp)
  simp only [List.length_nil, Nat.add_zero, Nat.zero_add, List.getElem_cons_zero] at *
  have hB : ∀ z, Below w.heap.size w (w.alloc (.cells z 146)) := fun z => (Below.refl _ w).alloc (Nat.le_refl _) _
  by_cases he : v = .atom .empty
  · subst he
    cases hr
    obtain rfl := h0.atom_inv
    have hit := fun w => ta_hit146 (.agg #[]) w
    clear hx hat h0
    unfold aV at c0
    go_enter Tryz.func83, Tryz.ntmps83
    go_wp2
    go_ret2
    exact ⟨_, rfl, .atom (.truth true), hB _⟩
  · obtain ⟨t, z, rfl, ht, hrf⟩ : ∃ t z, y0 = .iface t z ∧ t ≠ 146 ∧ r = false := by
      cases h0 with
      | atom a =>
        cases a with
        | num => exact ⟨_, _, rfl, by decide, by cases hr; rfl⟩
        | truth => exact ⟨_, _, rfl, by decide, by cases hr; rfl⟩
        | sym => exact ⟨_, _, rfl, by decide, by cases hr; rfl⟩
        | empty => exact absurd rfl he
      | pair => exact ⟨_, _, rfl, by decide, by cases hr; rfl⟩
      | basic0 => cases hr
      | basic1 => cases hr
      | clo => cases hr
      | cont => cases hr
    subst hrf
    have miss := fun w => ta_miss146 t z w ht
    clear hx hat h0 hr he
    go_enter Tryz.func83, Tryz.ntmps83
    go_wp2
    go_ret2
    exact ⟨_, rfl, .atom (.truth false), hB _⟩

/-- Values in a row. -/
theorem RepM.vals_any {mb : Nat} {ok : Nat → Prop} {w : World} {x : Value} {vs : List V} (h : RepM mb ok w x (.vals vs)) :
    ∃ a cap, x = .slice a vs.length cap ∧ vs.length ≤ cap ∧ cap ≤ maxLen ∧ ∀ i (hi : i < vs.length), ∃ g o y, a = some ⟨g, o, none⟩ ∧ ok g ∧ w.cell? ⟨g, o + i, none⟩ = some y ∧ g < w.heap.size ∧ RepM mb ok w y (.val vs[i]) := by
  cases h with
  | vals0 => exact ⟨none, 0, rfl, Nat.le_refl _, by unfold maxLen; omega, fun i hi => absurd hi (Nat.not_lt_zero _)⟩
  | vals g o cap c T _ vf hg hh hn hcap hc hs =>
    exact ⟨_, cap, rfl, hn, hcap, fun i hi => ⟨g, o, vf i, rfl, hg, by rw [cell_of_at hh]; exact hc i hi, lt_of_at hh, hs i hi⟩⟩

/-- Where the loop of data.List stands: k values are still to be laid ahead. -/
def Listing (mb : Nat) (ok : Nat → Prop) (w : World) (vs : List V) (k : Nat) (p q : Value) (wr : World) : Prop :=
  k ≤ vs.length ∧ q = .int .i64 ((k : Int) - 1) ∧ RepM mb ok wr p (.val (listV (vs.drop k))) ∧ Below w.heap.size w wr

set_option maxHeartbeats 4000000 in
theorem list33 (mb : Nat) (ok : Nat → Prop) (w : World) (hok : ∀ k, w.heap.size ≤ k → ok k) (x : Value) (vs : List V) (hx : RepM mb ok w x (.vals vs)) :
    Calls Tryz.prog 33 #[x, .iface 146 (.agg #[])] w fun e w' => ∃ y, e = .returned y ∧ RepM mb ok w' y (.val (listV vs)) ∧ Below w.heap.size w w' := by
  obtain ⟨a, cap, rfl, hn, hcap, hat⟩ := hx.vals_any
  clear hx
  have HA := (show Hid _ from hat)
  clear hat
  have hm : cap ≤ 9223372036854775807 := by unfold maxLen at hcap; omega
  have i0 : -9223372036854775808 ≤ (vs.length : Int) - 1 := by omega
  have i0' : (vs.length : Int) - 1 ≤ 9223372036854775807 := by omega
  go_enter Tryz.func33, Tryz.ntmps33
  go_wp2
  go_loopg [5, 6] vs.length (fun k p q wr => Listing mb ok w vs k p q wr)
  case atStart => exact ⟨Nat.le_refl _, rfl, by rw [List.drop_length]; exact .atom .empty, Below.refl _ _⟩
  case round =>
    obtain ⟨hk, rfl, hp, hb⟩ := hrel
    cases gk with
    | zero =>
      have HP := (show Hid _ from hp)
      obtain ⟨tp, zp, rfl⟩ := hp.iface
      clear hp hk
      go_wp2
      go_ret
      exact ⟨_, rfl, HP.out, hb⟩
    | succ k =>
      obtain ⟨g, o, y, rfl, hg, hc, hlt, hy⟩ := HA.out k (by omega)
      have hc' := (Kept.of_below hb (fun _ => False)).cell id hc
      have i1 : ((k + 1 : Nat) : Int) - 1 = (k : Int) := by omega
      rw [i1]
      have hB : Below w.heap.size w (wr.alloc (.cells #[y, u5] 126)) := hb.alloc hb.size _
      have hst : ∀ j, j < wr.heap.size → ok j → ok j ∧ (wr.alloc (.cells #[y, u5] 126)).heap[j]? = wr.heap[j]? := fun j hj ho => ⟨ho, Below.heap_alloc _ _ _ hj⟩
      have hR : RepM mb ok (wr.alloc (.cells #[y, u5] 126)) (.iface 124 (.pointer (some ⟨wr.heap.size, 0, none⟩))) (.val (listV (vs.drop k))) := by
        rw [List.drop_eq_getElem_cons (show k < vs.length by omega)]
        exact .pair wr.heap.size y u5 126 _ _ (hok _ hb.size) (at_new wr _) ((hy.mono (below_rep hb)).mono hst) (hp.mono hst)
      have HR : Hid (Listing mb ok w vs k (.iface 124 (.pointer (some ⟨wr.heap.size, 0, none⟩))) (.int .i64 ((k : Int) - 1)) (wr.alloc (.cells #[y, u5] 126))) := ⟨by omega, rfl, hR, hB⟩
      obtain ⟨tp, zp, rfl⟩ := hp.iface
      obtain ⟨ty, zy, rfl⟩ := hy.iface
      have i2 : (0 : Int) ≤ (k : Int) := by omega
      have i3 : (k : Int) < (vs.length : Int) := by omega
      have i4 : k < vs.length := by omega
      have i5 : -9223372036854775808 ≤ (k : Int) - 1 := by omega
      have i6 : (k : Int) - 1 ≤ 9223372036854775807 := by omega
      clear hp hy hR hst hB hc HA
      go_wp2
      go_roundg k
      case measure => omega
      case rel => exact HR.out
end Go.Proofs.YtodeeegbajgafaaGreatDoor

namespace Go.Proofs.YtodeeegbajgafaaGreatDoor
open Go.RowKit
open Mc

/-- Where the loop of data.List stands: k values are still to be laid ahead. -/
def ListingE (mb : Nat) (ok : Nat → Prop) (w : World) (ev : V) (vs : List V) (k : Nat) (p q : Value) (wr : World) : Prop :=
  k ≤ vs.length ∧ q = .int .i64 ((k : Int) - 1) ∧ RepM mb ok wr p (.val (listE ev (vs.drop k))) ∧ Below w.heap.size w wr

set_option maxHeartbeats 4000000 in
theorem list33e (mb : Nat) (ok : Nat → Prop) (w : World) (hok : ∀ k, w.heap.size ≤ k → ok k) (x : Value) (vs : List V) (hx : RepM mb ok w x (.vals vs)) (te : TypeId) (ze : Value) (ev : V) (he : RepM mb ok w (.iface te ze) (.val ev)) :
    Calls Tryz.prog 33 #[x, .iface te ze] w fun e w' => ∃ y, e = .returned y ∧ RepM mb ok w' y (.val (listE ev vs)) ∧ Below w.heap.size w w' := by
  obtain ⟨a, cap, rfl, hn, hcap, hat⟩ := hx.vals_any
  clear hx
  have HA := (show Hid _ from hat)
  clear hat
  have hm : cap ≤ 9223372036854775807 := by unfold maxLen at hcap; omega
  have i0 : -9223372036854775808 ≤ (vs.length : Int) - 1 := by omega
  have i0' : (vs.length : Int) - 1 ≤ 9223372036854775807 := by omega
  have HE : Hid (RepM mb ok w (.iface te ze) (.val ev)) := he
  clear he
  go_enter Tryz.func33, Tryz.ntmps33
  go_wp2
  go_loopg [5, 6] vs.length (fun k p q wr => ListingE mb ok w ev vs k p q wr)
  case atStart => exact ⟨Nat.le_refl _, rfl, by rw [List.drop_length]; exact HE.out, Below.refl _ _⟩
  case round =>
    obtain ⟨hk, rfl, hp, hb⟩ := hrel
    cases gk with
    | zero =>
      have HP := (show Hid _ from hp)
      obtain ⟨tp, zp, rfl⟩ := hp.iface
      clear hp hk
      go_wp2
      go_ret
      exact ⟨_, rfl, HP.out, hb⟩
    | succ k =>
      obtain ⟨g, o, y, rfl, hg, hc, hlt, hy⟩ := HA.out k (by omega)
      have hc' := (Kept.of_below hb (fun _ => False)).cell id hc
      have i1 : ((k + 1 : Nat) : Int) - 1 = (k : Int) := by omega
      rw [i1]
      have hB : Below w.heap.size w (wr.alloc (.cells #[y, u5] 126)) := hb.alloc hb.size _
      have hst : ∀ j, j < wr.heap.size → ok j → ok j ∧ (wr.alloc (.cells #[y, u5] 126)).heap[j]? = wr.heap[j]? := fun j hj ho => ⟨ho, Below.heap_alloc _ _ _ hj⟩
      have hR : RepM mb ok (wr.alloc (.cells #[y, u5] 126)) (.iface 124 (.pointer (some ⟨wr.heap.size, 0, none⟩))) (.val (listE ev (vs.drop k))) := by
        rw [List.drop_eq_getElem_cons (show k < vs.length by omega)]
        exact .pair wr.heap.size y u5 126 _ _ (hok _ hb.size) (at_new wr _) ((hy.mono (below_rep hb)).mono hst) (hp.mono hst)
      have HR : Hid (ListingE mb ok w ev vs k (.iface 124 (.pointer (some ⟨wr.heap.size, 0, none⟩))) (.int .i64 ((k : Int) - 1)) (wr.alloc (.cells #[y, u5] 126))) := ⟨by omega, rfl, hR, hB⟩
      obtain ⟨tp, zp, rfl⟩ := hp.iface
      obtain ⟨ty, zy, rfl⟩ := hy.iface
      have i2 : (0 : Int) ≤ (k : Int) := by omega
      have i3 : (k : Int) < (vs.length : Int) := by omega
      have i4 : k < vs.length := by omega
      have i5 : -9223372036854775808 ≤ (k : Int) - 1 := by omega
      have i6 : (k : Int) - 1 ≤ 9223372036854775807 := by omega
      clear hp hy hR hst hB hc HA
      go_wp2
      go_roundg k
      case measure => omega
      case rel => exact HR.out
end Go.Proofs.YtodeeegbajgafaaGreatDoor

namespace Go.Proofs.YtodeeegbajgafaaGreatDoor
open Go.RowKit
open Mc

mutual
def szD : Rd.D → Nat
  | .mk _ ds _ => 1 + szL ds
def szL : List Rd.D → Nat
  | [] => 0
  | d :: ds => szD d + szL ds
end
theorem valL_map : ∀ ds, valL ds = ds.map valD
  | [] => by rw [valL]; rfl
  | d :: ds => by rw [valL, valL_map ds]; rfl
theorem szD_pos (d : Rd.D) : 0 < szD d := by cases d; rw [szD]; omega
theorem szL_get : ∀ (ds : List Rd.D) (i : Nat) (hi : i < ds.length), szD ds[i] ≤ szL ds
  | [], i, hi => absurd hi (Nat.not_lt_zero _)
  | d :: ds, 0, _ => by rw [szL]; simp
  | d :: ds, i + 1, hi => by
    rw [szL]
    have := szL_get ds i (by simpa using hi)
    simp
    omega
theorem szL_len : ∀ (ds : List Rd.D), ds.length ≤ szL ds
  | [] => Nat.zero_le _
  | d :: ds => by
    have := szL_len ds
    have := szD_pos d
    rw [szL, List.length_cons]
    omega

structure Valuing (mb : Nat) (w : World) (g n : Nat) (ds : List Rd.D) (bx : Obj) (j : Nat) (wr : World) : Prop where
  kept : Below w.heap.size w wr
  row : ∃ (c : Array Value) (vf : Nat → Value), wr.heap[g]? = some (.cells c 60 (0, 0)) ∧ c.size = n ∧ (∀ i, i < j → c[i]? = some (vf i)) ∧ ∀ i (hi : i < ds.length), i < j → RepM mb (fun k => w.heap.size ≤ k ∧ k ≠ g) wr (vf i) (.val (valD ds[i]))
  box : wr.heap[w.heap.size]? = some bx

/-- One value more. -/
theorem Valuing.push {mb : Nat} {w : World} {g n : Nat} {ds : List Rd.D} {bx : Obj} {j : Nat} {wr w1 : World} (hF : Valuing mb w g n ds bx j wr) (hg : w.heap.size < g) (hj : j < n) (hx : ds.length = n)
    {o : Obj} {v : Value} (hrep : RepM mb (fun k => (wr.alloc o).heap.size ≤ k) w1 v (.val (valD ds[j]))) (hk1 : Below (wr.alloc o).heap.size (wr.alloc o) w1) :
    Valuing mb w g n ds bx (j + 1) (w1.setCell ⟨g, j, none⟩ v) := by
  obtain ⟨hkept, ⟨c, vf, hrow, hcs, hci, hels⟩, hbox⟩ := hF
  have hgl := lt_of_at hrow
  have hsz : (wr.alloc o).heap.size = wr.heap.size + 1 := by simp
  have hkb : ∀ k, k < wr.heap.size → w1.heap[k]? = wr.heap[k]? := fun k hk => (hk1.block k (by omega)).trans (Below.heap_alloc _ _ _ hk)
  have hrow1 : w1.heap[g]? = some (.cells c 60 (0, 0)) := (hkb g hgl).trans hrow
  have hne : ∀ k, k ≠ g → (w1.setCell ⟨g, j, none⟩ v).heap[k]? = w1.heap[k]? := fun k hk => Below.heap_setCell _ _ _ _ hk
  have hs1 := hk1.size
  have hsk := hkept.size
  refine ⟨?_, ⟨c.setIfInBounds j v, fun i => if i = j then v else vf i, ?_, by simpa using hcs, ?_, ?_⟩, ?_⟩
  · have h1 : Below w.heap.size w w1 := (hkept.alloc hsk o).trans (hk1.mono (by omega))
    exact h1.setCell (by show w.heap.size ≤ g; omega) v
  · rw [at_setCell hrow1 j v]
  · intro i hi
    by_cases e : i = j
    · subst e
      simp [hcs, hj]
    · rw [Array.getElem?_setIfInBounds_ne (by omega)]
      simp only [e, if_false]
      exact hci i (by omega)
  · intro i hi hij
    by_cases e : i = j
    · subst e
      simp only [if_true]
      refine hrep.mono ?_
      intro k hk hge
      rw [hsz] at hge
      exact ⟨⟨by omega, by omega⟩, hne k (by omega)⟩
    · simp only [e, if_false]
      refine (hels i hi (by omega)).mono ?_
      intro k hk ⟨h1, h2⟩
      exact ⟨⟨h1, h2⟩, (hne k h2).trans (hkb k hk)⟩
  · exact (hne _ (by omega)).trans ((hkb _ (by omega)).trans hbox)

def ValT (mb k : Nat) : Prop := ∀ (d : Rd.D) (ok : Nat → Prop) (v : Value) (w : World), szD d ≤ k → k ≤ 4000 → RepD ok w v d →
  Calls Tryz.prog 25 #[v] w fun e w' => ∃ y, e = .returned y ∧ RepM mb (fun k => w.heap.size ≤ k) w' y (.val (valD d)) ∧ Below w.heap.size w w'

set_option maxHeartbeats 2000000 in
set_option maxRecDepth 10000 in
theorem value_step (mb k : Nat) (H : ∀ j, j < k → ValT mb j) : ValT mb k := by
  intro d ok v w hk hk4 hd
  obtain ⟨p, ds, en⟩ := d
  rw [szD] at hk
  rw [valD, valL_map]
  obtain ⟨sl, rfl, hsl⟩ := hd.inv
  clear hd
  have hlen := szL_len ds
  have HSZ : Hid (∀ i (hi : i < ds.length), szD ds[i] < k) := fun i hi => by have := szL_get ds i hi; omega
  obtain ⟨bb, cap, rfl, hcap⟩ : ∃ b cap, sl = .slice b ds.length cap ∧ ds.length ≤ cap := by
    rcases hsl with ⟨rfl, rfl⟩ | ⟨g, o, cap, c, T, va, vb, vc, rfl, _, _, hn, _⟩
    · exact ⟨none, 0, rfl, Nat.le_refl _⟩
    · exact ⟨_, cap, rfl, hn⟩
  obtain ⟨ti0, xv0, hav⟩ := aV_iface en
  have HEN : Hid (∀ W, RepM mb (fun k => w.heap.size ≤ k) W (.iface ti0 xv0) (.val (.atom en))) := fun W => by rw [← hav]; exact .atom en
  rw [hav]
  clear hav
  have hmk := fun w => run_make_row' (P := Tryz.prog) 85 60 .nilIface 16 Tryz.underlying85 Tryz.info60 rfl .i64 .i64 ds.length (by omega) (by omega) w
  have hF0 : Valuing mb w (w.heap.size + 1) ds.length ds (.cells #[.int .i64 p, .slice bb ds.length cap, .iface ti0 xv0] 62 (0, 0)) 0 ((w.alloc (.cells #[.int .i64 p, .slice bb ds.length cap, .iface ti0 xv0] 62)).alloc (.cells (madeCells #[.nilIface] ds.length) 60)) :=
    ⟨((Below.refl _ w).alloc (Nat.le_refl _) _).alloc (by simp) _, ⟨madeCells #[.nilIface] ds.length, fun _ => undef, by have := at_new (w.alloc (.cells #[.int .i64 p, .slice bb ds.length cap, .iface ti0 xv0] 62)) (.cells (madeCells #[.nilIface] ds.length) 60); simpa using this, by simp [madeCells], fun i hi => absurd hi (Nat.not_lt_zero _), fun i _ hi => absurd hi (Nat.not_lt_zero _)⟩, at_alloc (at_new w _) _⟩
  have HF0 : Hid (Valuing mb w (w.heap.size + 1) ds.length ds (.cells #[.int .i64 p, .slice bb ds.length cap, .iface ti0 xv0] 62 (0, 0)) 0 _) := hF0
  have HSL : Hid (RepS ok w (.slice bb ds.length cap) ds) := hsl
  have HH : Hid (∀ j, j < k → ValT mb j) := H
  clear hF0 hsl H
  go_enter Tryz.func25, Tryz.ntmps25
  go_wp2
  have HW : Hid (w.heap.size + 1 = w.heap.size + 1) := rfl
  generalize hG : w.heap.size + 1 = g at *
  have HG : Hid (w.heap.size + 1 = g) := hG
  clear hG HW
  go_loopg [13] ds.length (fun q i wr => ∃ j : Nat, i = .int .i64 j ∧ j ≤ ds.length ∧ q = ds.length - j ∧ Valuing mb w g ds.length ds (.cells #[.int .i64 p, .slice bb ds.length cap, .iface ti0 xv0] 62 (0, 0)) j wr)
  case atStart => exact ⟨0, rfl, Nat.zero_le _, by omega, HF0.out⟩
  case round =>
    obtain ⟨j, rfl, hj, rfl, hF⟩ := hrel
    have HF : Hid (Valuing mb w g ds.length ds (.cells #[.int .i64 p, .slice bb ds.length cap, .iface ti0 xv0] 62 (0, 0)) j wr) := hF
    obtain ⟨hkept, ⟨c, vf, hrow, hcs, hci, hels⟩, hbox⟩ := hF
    by_cases hlt : j < ds.length
    · obtain ⟨gd, od, cap', pp, po, pn, pc, ti, xv, heq, hgd, _, d0, d1, d2, hrepd⟩ := (HSL.out.mono (below_rep hkept)).cells j hlt
      cases heq
      have HRD : Hid (RepD ok (wr.alloc (.cells #[.int .i64 pp, .slice po pn pc, .iface ti xv] 62)) (.agg #[.int .i64 pp, .slice po pn pc, .iface ti xv]) ds[j]) := hrepd.mono (fun k hk h => ⟨h, Below.heap_alloc _ _ _ hk⟩)
      have HROW : Hid ((wr.alloc (.cells #[.int .i64 pp, .slice po pn pc, .iface ti xv] 62)).heap[g]? = some (.cells c 60 (0, 0))) := at_alloc hrow _
      have HGL : Hid (g < wr.heap.size) := lt_of_at hrow
      clear hkept hrow hci hels hbox hrepd
      rw [Nat.mul_comm 3 j] at d0 d1 d2
      go_wp2_with (go_at_call 25; refine (HH.out (szD ds[j]) (HSZ.out j hlt) ds[j] ok _ _ (Nat.le_refl _) (by have := HSZ.out j hlt; omega) HRD.out).mono ?_; rintro e w1 ⟨fv, rfl, hrepf, hk1⟩; obtain ⟨tf, xf, rfl⟩ := hrepf.iface; have hrow3 : w1.heap[g]? = some (.cells c 60 (0, 0)) := (hk1.block g (by have := HGL.out; simp; omega)).trans HROW.out; have c3 : w1.cell? ⟨g, j, none⟩ = some (c[j]'(by omega)) := (by rw [cell_of_at hrow3 j, Array.getElem?_eq_getElem]); have f3 := free_of_at hrow3 j)
      go_roundg (ds.length - (j + 1))
      case measure => omega
      case rel => exact ⟨j + 1, by go_num, by omega, rfl, HF.out.push (by have := HG.out; omega) hlt rfl hrepf hk1⟩
    · have : j = ds.length := by omega
      subst this
      obtain ⟨c20, c21, c22, _, _, _⟩ := cells3 hbox
      have HV : Hid (RepM mb (fun k => w.heap.size ≤ k) wr (.slice (some ⟨g, 0, none⟩) ds.length ds.length) (.vals (ds.map valD))) := by
        have hl : (ds.map valD).length = ds.length := by simp
        have h := RepM.vals (mb := mb) (ok := fun k => w.heap.size ≤ k) (w := wr) g 0 ds.length c 60 (ds.map valD) vf (by show w.heap.size ≤ g; have := HG.out; omega) hrow (by omega) (by unfold maxLen; omega) (fun i hi => by rw [Nat.zero_add]; exact hci i (by omega)) (fun i hi => by
          have hi' : i < ds.length := by omega
          rw [List.getElem_map]
          exact (hels i hi' hi').mono fun k _ h => ⟨h.1, rfl⟩)
        rw [hl] at h
        exact h
      have HB : Hid (Below w.heap.size w wr) := hkept
      have hsk := hkept.size
      clear hrow hci hels hbox hkept HSL HF0
      go_wp2_with (go_at_call 33; refine (list33e mb (fun k => w.heap.size ≤ k) wr (fun k h => Nat.le_trans HB.out.size h) _ _ HV.out ti0 xv0 (.atom en) (HEN.out _)).mono ?_; rintro e w1 ⟨y, rfl, hrepf, hk1⟩; obtain ⟨tf, xf, rfl⟩ := hrepf.iface)
      go_ret
      exact ⟨_, rfl, hrepf, HB.out.trans (hk1.mono hsk)⟩
theorem value_t (mb : Nat) : ∀ k, ValT mb k := by
  intro k
  induction k using Nat.strongRecOn with
  | _ k ih => exact value_step mb k ih
end Go.Proofs.YtodeeegbajgafaaGreatDoor

namespace Go.Proofs.YtodeeegbajgafaaGreatDoor
open Go.RowKit
open Mc

set_option maxHeartbeats 4000000 in
set_option maxRecDepth 10000 in
theorem start_global (n : Rd.Sym) (v : V) (N : Nat → Prop) (g : Gh) (rb fuel : Nat) (s s' : St) (w : World) (h : RunAt N g rb fuel s w) (a : Value) (e : Env) (ha : RepM g.mb (g.ok N) w a (.env e)) (hf : find? n s.G = some v) (hx : some (s.give v) = some s') :
    Calls Tryz.prog 112 #[ptrV rb, .iface 178 (.agg #[symV n, .bool false, .int .i64 0, .int .i64 0]), a] w (RunC N g rb fuel s' w) := by
  obtain ⟨p, rfl⟩ := RepM.ptr ha
  cases hx
  have hB : Below w.heap.size w (w.alloc (.cells #[symV n, .bool false, .int .i64 0, .int .i64 0] 178)) := (Below.refl _ w).alloc (Nat.le_refl _) _
  have hKW := Kept.of_below hB (RM g rb)
  have h1 := h.below hB
  have hst : ∀ k, k < w.heap.size → g.ok N k → g.ok N k ∧ (w.alloc (.cells #[symV n, .bool false, .int .i64 0, .int .i64 0] 178)).heap[k]? = w.heap[k]? := fun k hk ho => ⟨ho, hB.block k hk⟩
  have ha1 := ha.mono hst
  have HX := look_global N g rb fuel s _ h1 n _ e v ha1 hf
  have m163 := fun w => tf_miss163 178 (.agg #[symV n, .bool false, .int .i64 0, .int .i64 0]) w (by decide)
  have m178 := fun w => tf_hit178 (.agg #[symV n, .bool false, .int .i64 0, .int .i64 0]) w
  clear h h1 ha ha1 hst hB hf
  unfold nmV symV ptrV at *
  go_enter Tryz.func112, Tryz.ntmps112
  go_wp2_with (first | (go_at_call 140; refine HX.mono ?_; rintro e6 w3 ⟨rfl, hr3⟩))
  go_end0
  exact RunC.after hKW (RunK.c ⟨rfl, hr3⟩)

set_option maxHeartbeats 4000000 in
set_option maxRecDepth 10000 in
theorem start_local (n : Rd.Sym) (v : V) (up slot : Nat) (N : Nat → Prop) (g : Gh) (rb fuel : Nat) (s s' : St) (w : World) (h : RunAt N g rb fuel s w) (a : Value) (e : Env) (ha : RepM g.mb (g.ok N) w a (.env e)) (hup : up ≤ 100000) (hl : Mc.look e up slot = some v) (hx : some (s.give v) = some s') :
    Calls Tryz.prog 112 #[ptrV rb, .iface 178 (.agg #[symV n, .bool true, .int .i64 up, .int .i64 slot]), a] w (RunC N g rb fuel s' w) := by
  obtain ⟨p, rfl⟩ := RepM.ptr ha
  cases hx
  have hB : Below w.heap.size w (w.alloc (.cells #[symV n, .bool true, .int .i64 up, .int .i64 slot] 178)) := (Below.refl _ w).alloc (Nat.le_refl _) _
  have hKW := Kept.of_below hB (RM g rb)
  have h1 := h.below hB
  have hst : ∀ k, k < w.heap.size → g.ok N k → g.ok N k ∧ (w.alloc (.cells #[symV n, .bool true, .int .i64 up, .int .i64 slot] 178)).heap[k]? = w.heap[k]? := fun k hk ho => ⟨ho, hB.block k hk⟩
  have ha1 := ha.mono hst
  have HX := look_local N g rb fuel s _ h1 n up slot hup _ e v ha1 hl
  have m163 := fun w => tf_miss163 178 (.agg #[symV n, .bool true, .int .i64 up, .int .i64 slot]) w (by decide)
  have m178 := fun w => tf_hit178 (.agg #[symV n, .bool true, .int .i64 up, .int .i64 slot]) w
  clear h h1 ha ha1 hst hB hl
  unfold lcV symV ptrV at *
  go_enter Tryz.func112, Tryz.ntmps112
  go_wp2_with (first | (go_at_call 140; refine HX.mono ?_; rintro e6 w3 ⟨rfl, hr3⟩))
  go_end0
  exact RunC.after hKW (RunK.c ⟨rfl, hr3⟩)

set_option maxHeartbeats 4000000 in
set_option maxRecDepth 10000 in
theorem start_ite (vt va ve : Value) (t x y : Rd.F) (N : Nat → Prop) (g : Gh) (rb fuel : Nat) (s s' : St) (w : World) (h : RunAt N g rb fuel s w) (a : Value) (e : Env) (ha : RepM g.mb (g.ok N) w a (.env e)) (h2 : RepF (g.ok N) w vt t) (h3 : RepF (g.ok N) w va x) (h4 : RepF (g.ok N) w ve y) (hx : some ((s.push (.choose t x y e)).eval t e) = some s') :
    Calls Tryz.prog 112 #[ptrV rb, .iface 166 (.agg #[vt, va, ve]), a] w (RunC N g rb fuel s' w) := by
  obtain ⟨p, rfl⟩ := RepM.ptr ha
  cases hx
  obtain ⟨t1, x1, rfl⟩ := RepF.iface h2
  obtain ⟨t2, x2, rfl⟩ := RepF.iface h3
  obtain ⟨t3, x3, rfl⟩ := RepF.iface h4
  have hB : Below w.heap.size w (w.alloc (.cells #[.iface t1 x1, .iface t2 x2, .iface t3 x3] 166)) := (Below.refl _ w).alloc (Nat.le_refl _) _
  have hKW := Kept.of_below hB (RM g rb)
  have h1 := h.below hB
  have hst : ∀ k, k < w.heap.size → g.ok N k → g.ok N k ∧ (w.alloc (.cells #[.iface t1 x1, .iface t2 x2, .iface t3 x3] 166)).heap[k]? = w.heap[k]? := fun k hk ho => ⟨ho, hB.block k hk⟩
  have ha1 := ha.mono hst
  have HX := choose_any N g rb fuel s _ h1 _ _ _ _ t x y e (h2.mono hst) (h3.mono hst) (h4.mono hst) ha1
  have m163 := fun w => tf_miss163 166 (.agg #[.iface t1 x1, .iface t2 x2, .iface t3 x3]) w (by decide)
  have m178 := fun w => tf_miss178 166 (.agg #[.iface t1 x1, .iface t2 x2, .iface t3 x3]) w (by decide)
  have m166 := fun w => tf_hit166 (.agg #[.iface t1 x1, .iface t2 x2, .iface t3 x3]) w
  clear h h1 ha ha1 hst hB h2 h3 h4
  unfold ptrV at *
  go_enter Tryz.func112, Tryz.ntmps112
  go_wp2_with (first | (go_at_call 141; refine HX.mono ?_; rintro e6 w3 ⟨rfl, hr3⟩))
  go_end0
  exact RunC.after hKW (RunK.c ⟨rfl, hr3⟩)

set_option maxHeartbeats 4000000 in
set_option maxRecDepth 10000 in
theorem start_begin (sl : Value) (fs : List Rd.F) (N : Nat → Prop) (g : Gh) (rb fuel : Nat) (s s' : St) (w : World) (h : RunAt N g rb fuel s w) (a : Value) (e : Env) (ha : RepM g.mb (g.ok N) w a (.env e)) (hs : RepFs (g.ok N) w sl fs) (hx : s.body fs e = some s') :
    Calls Tryz.prog 112 #[ptrV rb, .iface 169 (.agg #[sl]), a] w (RunC N g rb fuel s' w) := by
  obtain ⟨p, rfl⟩ := RepM.ptr ha
  obtain ⟨fa, fc, rfl, _, _⟩ := RepFs.shape hs
  have hB : Below w.heap.size w (w.alloc (.cells #[.slice (some fa) fs.length fc] 169)) := (Below.refl _ w).alloc (Nat.le_refl _) _
  have hKW := Kept.of_below hB (RM g rb)
  have h1 := h.below hB
  have hst : ∀ k, k < w.heap.size → g.ok N k → g.ok N k ∧ (w.alloc (.cells #[.slice (some fa) fs.length fc] 169)).heap[k]? = w.heap[k]? := fun k hk ho => ⟨ho, hB.block k hk⟩
  have ha1 := ha.mono hst
  have HX := body_any N g rb fuel s s' _ h1 _ _ fs e (hs.mono hst) ha1 hx
  have m163 := fun w => tf_miss163 169 (.agg #[.slice (some fa) fs.length fc]) w (by decide)
  have m178 := fun w => tf_miss178 169 (.agg #[.slice (some fa) fs.length fc]) w (by decide)
  have m166 := fun w => tf_miss166 169 (.agg #[.slice (some fa) fs.length fc]) w (by decide)
  have m214 := fun w => tf_miss214 169 (.agg #[.slice (some fa) fs.length fc]) w (by decide)
  have m169 := fun w => tf_hit169 (.agg #[.slice (some fa) fs.length fc]) w
  clear h h1 ha ha1 hst hB hs hx
  unfold ptrV at *
  go_enter Tryz.func112, Tryz.ntmps112
  go_wp2_with (first | (go_at_call 143; refine HX.mono ?_; rintro e6 w3 ⟨rfl, hr3⟩))
  go_end0
  exact RunC.after hKW (RunK.c ⟨rfl, hr3⟩)

set_option maxHeartbeats 4000000 in
set_option maxRecDepth 10000 in
theorem start_reset (sl : Value) (fs : List Rd.F) (N : Nat → Prop) (g : Gh) (rb fuel : Nat) (s s' : St) (w : World) (h : RunAt N g rb fuel s w) (a : Value) (e : Env) (ha : RepM g.mb (g.ok N) w a (.env e)) (hs : RepFs (g.ok N) w sl fs) (hx : ({ s with beyond := s.todo :: s.beyond, todo := [] } : St).body fs e = some s') :
    Calls Tryz.prog 112 #[ptrV rb, .iface 183 (.agg #[sl]), a] w (RunC N g rb fuel s' w) := by
  obtain ⟨p, rfl⟩ := RepM.ptr ha
  obtain ⟨fa, fc, rfl, _, _⟩ := RepFs.shape hs
  have hB : Below w.heap.size w (w.alloc (.cells #[.slice (some fa) fs.length fc] 183)) := (Below.refl _ w).alloc (Nat.le_refl _) _
  have hKW := Kept.of_below hB (RM g rb)
  have h1 := h.below hB
  have hst : ∀ k, k < w.heap.size → g.ok N k → g.ok N k ∧ (w.alloc (.cells #[.slice (some fa) fs.length fc] 183)).heap[k]? = w.heap[k]? := fun k hk ho => ⟨ho, hB.block k hk⟩
  have ha1 := ha.mono hst
  have HX := reset_any' N g rb fuel s s' _ h1 _ _ fs e (hs.mono hst) ha1 hx
  have m163 := fun w => tf_miss163 183 (.agg #[.slice (some fa) fs.length fc]) w (by decide)
  have m178 := fun w => tf_miss178 183 (.agg #[.slice (some fa) fs.length fc]) w (by decide)
  have m166 := fun w => tf_miss166 183 (.agg #[.slice (some fa) fs.length fc]) w (by decide)
  have m214 := fun w => tf_miss214 183 (.agg #[.slice (some fa) fs.length fc]) w (by decide)
  have m169 := fun w => tf_miss169 183 (.agg #[.slice (some fa) fs.length fc]) w (by decide)
  have m175 := fun w => tf_miss175 183 (.agg #[.slice (some fa) fs.length fc]) w (by decide)
  have m181 := fun w => tf_miss181 183 (.agg #[.slice (some fa) fs.length fc]) w (by decide)
  have m222 := fun w => tf_miss222 183 (.agg #[.slice (some fa) fs.length fc]) w (by decide)
  have m183 := fun w => tf_hit183 (.agg #[.slice (some fa) fs.length fc]) w
  clear h h1 ha ha1 hst hB hs hx
  unfold ptrV at *
  go_enter Tryz.func112, Tryz.ntmps112
  go_wp2_with (first | (go_at_call 147; refine HX.mono ?_; rintro e6 w3 ⟨rfl, hr3⟩))
  go_end0
  exact RunC.after hKW (RunK.c ⟨rfl, hr3⟩)

set_option maxHeartbeats 4000000 in
set_option maxRecDepth 10000 in
theorem start_shift (sl : Value) (fs : List Rd.F) (N : Nat → Prop) (g : Gh) (rb fuel : Nat) (s s' : St) (w : World) (h : RunAt N g rb fuel s w) (a : Value) (e : Env) (ha : RepM g.mb (g.ok N) w a (.env e)) (hs : RepFs (g.ok N) w sl fs) (hbe : s.beyond ≠ []) (hx : ({ s with todo := [] } : St).body fs ([.cont s.todo] :: e) = some s') :
    Calls Tryz.prog 112 #[ptrV rb, .iface 184 (.agg #[sl]), a] w (RunC N g rb fuel s' w) := by
  obtain ⟨p, rfl⟩ := RepM.ptr ha
  obtain ⟨fa, fc, rfl, _, _⟩ := RepFs.shape hs
  have hB : Below w.heap.size w (w.alloc (.cells #[.slice (some fa) fs.length fc] 184)) := (Below.refl _ w).alloc (Nat.le_refl _) _
  have hKW := Kept.of_below hB (RM g rb)
  have h1 := h.below hB
  have hst : ∀ k, k < w.heap.size → g.ok N k → g.ok N k ∧ (w.alloc (.cells #[.slice (some fa) fs.length fc] 184)).heap[k]? = w.heap[k]? := fun k hk ho => ⟨ho, hB.block k hk⟩
  have ha1 := ha.mono hst
  have HX := shift_any' N g rb fuel s s' _ h1 _ _ fs e (hs.mono hst) ha1 hbe hx
  have m163 := fun w => tf_miss163 184 (.agg #[.slice (some fa) fs.length fc]) w (by decide)
  have m178 := fun w => tf_miss178 184 (.agg #[.slice (some fa) fs.length fc]) w (by decide)
  have m166 := fun w => tf_miss166 184 (.agg #[.slice (some fa) fs.length fc]) w (by decide)
  have m214 := fun w => tf_miss214 184 (.agg #[.slice (some fa) fs.length fc]) w (by decide)
  have m169 := fun w => tf_miss169 184 (.agg #[.slice (some fa) fs.length fc]) w (by decide)
  have m175 := fun w => tf_miss175 184 (.agg #[.slice (some fa) fs.length fc]) w (by decide)
  have m181 := fun w => tf_miss181 184 (.agg #[.slice (some fa) fs.length fc]) w (by decide)
  have m222 := fun w => tf_miss222 184 (.agg #[.slice (some fa) fs.length fc]) w (by decide)
  have m183 := fun w => tf_miss183 184 (.agg #[.slice (some fa) fs.length fc]) w (by decide)
  have m184 := fun w => tf_hit184 (.agg #[.slice (some fa) fs.length fc]) w
  clear h h1 ha ha1 hst hB hs hx
  unfold ptrV at *
  go_enter Tryz.func112, Tryz.ntmps112
  go_wp2_with (first | (go_at_call 148; refine HX.mono ?_; rintro e6 w3 ⟨rfl, hr3⟩))
  go_end0
  exact RunC.after hKW (RunK.c ⟨rfl, hr3⟩)

set_option maxHeartbeats 4000000 in
set_option maxRecDepth 10000 in
theorem start_let (show_ : V → Option (List UInt8)) (HC : CallC show_) (y sl : Value) (vs fs : List Rd.F) (N : Nat → Prop) (g : Gh) (rb fuel : Nat) (s s' : St) (w : World) (h : RunAt N g rb fuel s w) (a : Value) (e : Env) (ha : RepM g.mb (g.ok N) w a (.env e)) (hy : RepFs (g.ok N) w y vs) (hs : RepFs (g.ok N) w sl fs) (hx : s.each fuel show_ vs e [] (.lett vs fs e) = some s') :
    Calls Tryz.prog 112 #[ptrV rb, .iface 175 (.agg #[y, sl]), a] w (RunC N g rb fuel s' w) := by
  obtain ⟨p, rfl⟩ := RepM.ptr ha
  obtain ⟨ya, yc, rfl, _, _⟩ := RepFs.shape hy
  obtain ⟨fa, fc, rfl, _, _⟩ := RepFs.shape hs
  have hB : Below w.heap.size w (w.alloc (.cells #[.slice (some ya) vs.length yc, .slice (some fa) fs.length fc] 175)) := (Below.refl _ w).alloc (Nat.le_refl _) _
  have hKW := Kept.of_below hB (RM g rb)
  have h1 := h.below hB
  have hst : ∀ k, k < w.heap.size → g.ok N k → g.ok N k ∧ (w.alloc (.cells #[.slice (some ya) vs.length yc, .slice (some fa) fs.length fc] 175)).heap[k]? = w.heap[k]? := fun k hk ho => ⟨ho, hB.block k hk⟩
  have ha1 := ha.mono hst
  have HX := runLet_any show_ HC N g rb fuel s s' _ h1 _ _ _ vs fs e (hy.mono hst) (hs.mono hst) ha1 hx
  have m163 := fun w => tf_miss163 175 (.agg #[.slice (some ya) vs.length yc, .slice (some fa) fs.length fc]) w (by decide)
  have m178 := fun w => tf_miss178 175 (.agg #[.slice (some ya) vs.length yc, .slice (some fa) fs.length fc]) w (by decide)
  have m166 := fun w => tf_miss166 175 (.agg #[.slice (some ya) vs.length yc, .slice (some fa) fs.length fc]) w (by decide)
  have m214 := fun w => tf_miss214 175 (.agg #[.slice (some ya) vs.length yc, .slice (some fa) fs.length fc]) w (by decide)
  have m169 := fun w => tf_miss169 175 (.agg #[.slice (some ya) vs.length yc, .slice (some fa) fs.length fc]) w (by decide)
  have m175 := fun w => tf_hit175 (.agg #[.slice (some ya) vs.length yc, .slice (some fa) fs.length fc]) w
  clear h h1 ha ha1 hst hB hs hx hy
  unfold ptrV at *
  go_enter Tryz.func112, Tryz.ntmps112
  go_wp2_with (first | (go_at_call 144; refine HX.mono ?_; rintro e6 w3 ⟨rfl, hr3⟩))
  go_end0
  exact RunC.after hKW ⟨rfl, hr3⟩

set_option maxHeartbeats 4000000 in
set_option maxRecDepth 10000 in
theorem start_set (n : Rd.Sym) (v : Value) (x : Rd.F) (N : Nat → Prop) (g : Gh) (rb fuel : Nat) (s s' : St) (w : World) (h : RunAt N g rb fuel s w) (a : Value) (e : Env) (ha : RepM g.mb (g.ok N) w a (.env e)) (h2 : RepF (g.ok N) w v x) (hx : some ((s.push (.set_ n x e)).eval x e) = some s') :
    Calls Tryz.prog 112 #[ptrV rb, .iface 181 (.agg #[symV n, .bool false, .int .i64 0, .int .i64 0, v]), a] w (RunC N g rb fuel s' w) := by
  obtain ⟨p, rfl⟩ := RepM.ptr ha
  cases hx
  obtain ⟨t1, x1, rfl⟩ := RepF.iface h2
  have hB : Below w.heap.size w (w.alloc (.cells #[symV n, .bool false, .int .i64 0, .int .i64 0, .iface t1 x1] 181)) := (Below.refl _ w).alloc (Nat.le_refl _) _
  have hKW := Kept.of_below hB (RM g rb)
  have h1 := h.below hB
  have hst : ∀ k, k < w.heap.size → g.ok N k → g.ok N k ∧ (w.alloc (.cells #[symV n, .bool false, .int .i64 0, .int .i64 0, .iface t1 x1] 181)).heap[k]? = w.heap[k]? := fun k hk ho => ⟨ho, hB.block k hk⟩
  have ha1 := ha.mono hst
  have HX := runSet_any N g rb fuel s _ h1 n _ _ x e (h2.mono hst) ha1
  have m163 := fun w => tf_miss163 181 (.agg #[symV n, .bool false, .int .i64 0, .int .i64 0, .iface t1 x1]) w (by decide)
  have m178 := fun w => tf_miss178 181 (.agg #[symV n, .bool false, .int .i64 0, .int .i64 0, .iface t1 x1]) w (by decide)
  have m166 := fun w => tf_miss166 181 (.agg #[symV n, .bool false, .int .i64 0, .int .i64 0, .iface t1 x1]) w (by decide)
  have m214 := fun w => tf_miss214 181 (.agg #[symV n, .bool false, .int .i64 0, .int .i64 0, .iface t1 x1]) w (by decide)
  have m169 := fun w => tf_miss169 181 (.agg #[symV n, .bool false, .int .i64 0, .int .i64 0, .iface t1 x1]) w (by decide)
  have m175 := fun w => tf_miss175 181 (.agg #[symV n, .bool false, .int .i64 0, .int .i64 0, .iface t1 x1]) w (by decide)
  have m181 := fun w => tf_hit181 (.agg #[symV n, .bool false, .int .i64 0, .int .i64 0, .iface t1 x1]) w
  clear h h1 ha ha1 hst hB h2
  unfold symV ptrV at *
  go_enter Tryz.func112, Tryz.ntmps112
  go_wp2_with (first | (go_at_call 145; refine HX.mono ?_; rintro e6 w3 ⟨rfl, hr3⟩))
  go_end0
  exact RunC.after hKW (RunK.c ⟨rfl, hr3⟩)

set_option maxHeartbeats 4000000 in
set_option maxRecDepth 10000 in
theorem start_until (st : Bool) (sl : Value) (fs : List Rd.F) (N : Nat → Prop) (g : Gh) (rb fuel : Nat) (s s' : St) (w : World) (h : RunAt N g rb fuel s w) (a : Value) (e : Env) (ha : RepM g.mb (g.ok N) w a (.env e)) (hs : RepFs (g.ok N) w sl fs) (hx : s.until_ st fs e = some s') :
    Calls Tryz.prog 112 #[ptrV rb, .iface 222 (.agg #[.bool st, sl]), a] w (RunC N g rb fuel s' w) := by
  obtain ⟨p, rfl⟩ := RepM.ptr ha
  obtain ⟨fa, fc, rfl, _, _⟩ := RepFs.shape hs
  have hB : Below w.heap.size w (w.alloc (.cells #[.bool st, .slice (some fa) fs.length fc] 222)) := (Below.refl _ w).alloc (Nat.le_refl _) _
  have hKW := Kept.of_below hB (RM g rb)
  have h1 := h.below hB
  have hst : ∀ k, k < w.heap.size → g.ok N k → g.ok N k ∧ (w.alloc (.cells #[.bool st, .slice (some fa) fs.length fc] 222)).heap[k]? = w.heap[k]? := fun k hk ho => ⟨ho, hB.block k hk⟩
  have ha1 := ha.mono hst
  have HX := runUntil_any N g rb fuel s s' _ h1 st _ _ fs e (hs.mono hst) ha1 hx
  have m163 := fun w => tf_miss163 222 (.agg #[.bool st, .slice (some fa) fs.length fc]) w (by decide)
  have m178 := fun w => tf_miss178 222 (.agg #[.bool st, .slice (some fa) fs.length fc]) w (by decide)
  have m166 := fun w => tf_miss166 222 (.agg #[.bool st, .slice (some fa) fs.length fc]) w (by decide)
  have m214 := fun w => tf_miss214 222 (.agg #[.bool st, .slice (some fa) fs.length fc]) w (by decide)
  have m169 := fun w => tf_miss169 222 (.agg #[.bool st, .slice (some fa) fs.length fc]) w (by decide)
  have m175 := fun w => tf_miss175 222 (.agg #[.bool st, .slice (some fa) fs.length fc]) w (by decide)
  have m181 := fun w => tf_miss181 222 (.agg #[.bool st, .slice (some fa) fs.length fc]) w (by decide)
  have m222 := fun w => tf_hit222 (.agg #[.bool st, .slice (some fa) fs.length fc]) w
  clear h h1 ha ha1 hst hB hs hx
  unfold ptrV at *
  go_enter Tryz.func112, Tryz.ntmps112
  go_wp2_with (first | (go_at_call 146; refine HX.mono ?_; rintro e6 w3 ⟨rfl, hr3⟩))
  go_end0
  exact RunC.after hKW (RunK.c ⟨rfl, hr3⟩)

set_option maxHeartbeats 4000000 in
set_option maxRecDepth 10000 in
theorem start_define (n : Rd.Sym) (v : Value) (x : Rd.F) (N : Nat → Prop) (g : Gh) (rb fuel : Nat) (s s' : St) (w : World) (h : RunAt N g rb fuel s w) (a : Value) (e : Env) (ha : RepM g.mb (g.ok N) w a (.env e)) (h2 : RepF (g.ok N) w v x) (hx : some ((s.push (.define n x)).eval x e) = some s') :
    Calls Tryz.prog 112 #[ptrV rb, .iface 187 (.agg #[symV n, v]), a] w (RunC N g rb fuel s' w) := by
  obtain ⟨p, rfl⟩ := RepM.ptr ha
  cases hx
  obtain ⟨t1, x1, rfl⟩ := RepF.iface h2
  have hB : Below w.heap.size w (w.alloc (.cells #[symV n, .iface t1 x1] 187)) := (Below.refl _ w).alloc (Nat.le_refl _) _
  have hKW := Kept.of_below hB (RM g rb)
  have h1 := h.below hB
  have hst : ∀ k, k < w.heap.size → g.ok N k → g.ok N k ∧ (w.alloc (.cells #[symV n, .iface t1 x1] 187)).heap[k]? = w.heap[k]? := fun k hk ho => ⟨ho, hB.block k hk⟩
  have ha1 := ha.mono hst
  have HX := runDefine_any N g rb fuel s _ h1 n _ _ x e (h2.mono hst) ha1
  have m163 := fun w => tf_miss163 187 (.agg #[symV n, .iface t1 x1]) w (by decide)
  have m178 := fun w => tf_miss178 187 (.agg #[symV n, .iface t1 x1]) w (by decide)
  have m166 := fun w => tf_miss166 187 (.agg #[symV n, .iface t1 x1]) w (by decide)
  have m214 := fun w => tf_miss214 187 (.agg #[symV n, .iface t1 x1]) w (by decide)
  have m169 := fun w => tf_miss169 187 (.agg #[symV n, .iface t1 x1]) w (by decide)
  have m175 := fun w => tf_miss175 187 (.agg #[symV n, .iface t1 x1]) w (by decide)
  have m181 := fun w => tf_miss181 187 (.agg #[symV n, .iface t1 x1]) w (by decide)
  have m222 := fun w => tf_miss222 187 (.agg #[symV n, .iface t1 x1]) w (by decide)
  have m183 := fun w => tf_miss183 187 (.agg #[symV n, .iface t1 x1]) w (by decide)
  have m184 := fun w => tf_miss184 187 (.agg #[symV n, .iface t1 x1]) w (by decide)
  have m187 := fun w => tf_hit187 (.agg #[symV n, .iface t1 x1]) w
  clear h h1 ha ha1 hst hB h2
  unfold symV ptrV at *
  go_enter Tryz.func112, Tryz.ntmps112
  go_wp2_with (first | (go_at_call 149; refine HX.mono ?_; rintro e6 w3 ⟨rfl, hr3⟩))
  go_end0
  exact RunC.after hKW (RunK.c ⟨rfl, hr3⟩)

set_option maxHeartbeats 4000000 in
set_option maxRecDepth 10000 in
theorem start_call (show_ : V → Option (List UInt8)) (HC : CallC show_) (sl : Value) (fs : List Rd.F) (N : Nat → Prop) (g : Gh) (rb fuel : Nat) (s s' : St) (w : World) (h : RunAt N g rb fuel s w) (a : Value) (e : Env) (ha : RepM g.mb (g.ok N) w a (.env e)) (hs : RepFs (g.ok N) w sl fs) (hx : s.each fuel show_ fs e [] .call = some s') :
    Calls Tryz.prog 112 #[ptrV rb, .iface 190 (.agg #[sl]), a] w (RunC N g rb fuel s' w) := by
  obtain ⟨p, rfl⟩ := RepM.ptr ha
  obtain ⟨fa, fc, rfl, hfn, hfc⟩ := RepFs.shape hs
  have hB : Below w.heap.size w (w.alloc (.cells #[.slice (some fa) fs.length fc] 190)) := (Below.refl _ w).alloc (Nat.le_refl _) _
  have hKW := Kept.of_below hB (RM g rb)
  have h1 := h.below hB
  have hst : ∀ k, k < w.heap.size → g.ok N k → g.ok N k ∧ (w.alloc (.cells #[.slice (some fa) fs.length fc] 190)).heap[k]? = w.heap[k]? := fun k hk ho => ⟨ho, hB.block k hk⟩
  have ha1 := ha.mono hst
  have HX := each_any show_ HC N g rb fuel s s' _ h1 _ (.pointer p) (.slice none 0 0) (fnV 151) fs e [] .call (hs.mono hst) ha1 .vals0 .call (by simp; omega) hx
  have m163 := fun w => tf_miss163 190 (.agg #[.slice (some fa) fs.length fc]) w (by decide)
  have m178 := fun w => tf_miss178 190 (.agg #[.slice (some fa) fs.length fc]) w (by decide)
  have m166 := fun w => tf_miss166 190 (.agg #[.slice (some fa) fs.length fc]) w (by decide)
  have m214 := fun w => tf_miss214 190 (.agg #[.slice (some fa) fs.length fc]) w (by decide)
  have m169 := fun w => tf_miss169 190 (.agg #[.slice (some fa) fs.length fc]) w (by decide)
  have m175 := fun w => tf_miss175 190 (.agg #[.slice (some fa) fs.length fc]) w (by decide)
  have m181 := fun w => tf_miss181 190 (.agg #[.slice (some fa) fs.length fc]) w (by decide)
  have m222 := fun w => tf_miss222 190 (.agg #[.slice (some fa) fs.length fc]) w (by decide)
  have m183 := fun w => tf_miss183 190 (.agg #[.slice (some fa) fs.length fc]) w (by decide)
  have m184 := fun w => tf_miss184 190 (.agg #[.slice (some fa) fs.length fc]) w (by decide)
  have m187 := fun w => tf_miss187 190 (.agg #[.slice (some fa) fs.length fc]) w (by decide)
  have m190 := fun w => tf_hit190 (.agg #[.slice (some fa) fs.length fc]) w
  clear h h1 ha ha1 hst hB hs hx
  unfold fnV ptrV at *
  go_enter Tryz.func112, Tryz.ntmps112
  go_wp2_with (first | (go_at_call 150; refine HX.mono ?_; rintro e6 w3 ⟨rfl, hr3⟩))
  go_end0
  exact RunC.after hKW ⟨rfl, hr3⟩

end Go.Proofs.YtodeeegbajgafaaGreatDoor

namespace Go.Proofs.YtodeeegbajgafaaGreatDoor
open Go.RowKit
open Mc

set_option maxHeartbeats 4000000 in
set_option maxRecDepth 10000 in
theorem start_const' (c : Rd.A) (t0 : TypeId) (x0 : Value) (hc : aV c = .iface t0 x0) (N : Nat → Prop) (g : Gh) (rb fuel : Nat) (s : St) (w : World) (h : RunAt N g rb fuel s w) (p : Option Addr) :
    Calls Tryz.prog 112 #[ptrV rb, .iface 163 (.agg #[.iface t0 x0]), .pointer p] w (RunC N g rb fuel (s.give (.atom c)) w) := by
  have hB : Below w.heap.size w (w.alloc (.cells #[.iface t0 x0] 163)) := (Below.refl _ w).alloc (Nat.le_refl _) _
  have hKW := Kept.of_below hB (RM g rb)
  have h1 := h.below hB
  have HX := give_any N g rb fuel s _ h1 (.iface t0 x0) (.atom c) (by rw [← hc]; exact .atom c)
  have m163 := fun w => tf_hit163 (.agg #[.iface t0 x0]) w
  clear h h1 hB hc
  unfold ptrV at *
  go_enter Tryz.func112, Tryz.ntmps112
  go_wp2_with (first | (go_at_call 139; refine HX.mono ?_; rintro e6 w3 ⟨rfl, hr3⟩))
  go_end0
  exact RunC.after hKW (RunK.c ⟨rfl, hr3⟩)
theorem start_const (c : Rd.A) (N : Nat → Prop) (g : Gh) (rb fuel : Nat) (s : St) (w : World) (h : RunAt N g rb fuel s w) (a : Value) (e : Env) (ha : RepM g.mb (g.ok N) w a (.env e)) :
    Calls Tryz.prog 112 #[ptrV rb, .iface 163 (.agg #[aV c]), a] w (RunC N g rb fuel (s.give (.atom c)) w) := by
  obtain ⟨p, rfl⟩ := RepM.ptr ha
  obtain ⟨t0, x0, hc⟩ : ∃ t x, aV c = .iface t x := by cases c <;> exact ⟨_, _, rfl⟩
  rw [hc]
  exact start_const' c t0 x0 hc N g rb fuel s w h p
set_option maxHeartbeats 4000000 in
set_option maxRecDepth 10000 in
theorem start_quoted (d : Rd.D) (x : Value) (N : Nat → Prop) (g : Gh) (rb fuel : Nat) (s : St) (w : World) (h : RunAt N g rb fuel s w) (a : Value) (e : Env) (ha : RepM g.mb (g.ok N) w a (.env e)) (hx : RepQ (g.ok N) w x (valD d)) :
    Calls Tryz.prog 112 #[ptrV rb, .iface 163 (.agg #[x]), a] w (RunC N g rb fuel (s.give (valD d)) w) := by
  obtain ⟨p, rfl⟩ := RepM.ptr ha
  obtain ⟨t0, x0, rfl⟩ := (hx.toM g.mb).iface
  have hB : Below w.heap.size w (w.alloc (.cells #[.iface t0 x0] 163)) := (Below.refl _ w).alloc (Nat.le_refl _) _
  have hKW := Kept.of_below hB (RM g rb)
  have h1 := h.below hB
  have HX := give_any N g rb fuel s _ h1 (.iface t0 x0) (valD d) ((hx.mono fun k hk ho => ⟨ho, hB.block k hk⟩).toM g.mb)
  have m163 := fun w => tf_hit163 (.agg #[.iface t0 x0]) w
  clear h h1 hB hx ha
  unfold ptrV at *
  go_enter Tryz.func112, Tryz.ntmps112
  go_wp2_with (first | (go_at_call 139; refine HX.mono ?_; rintro e6 w3 ⟨rfl, hr3⟩))
  go_end0
  exact RunC.after hKW (RunK.c ⟨rfl, hr3⟩)
end Go.Proofs.YtodeeegbajgafaaGreatDoor

namespace Go.Proofs.YtodeeegbajgafaaGreatDoor
open Go.RowKit
open Mc

set_option maxHeartbeats 4000000 in
set_option maxRecDepth 10000 in
theorem start_lam (N : Nat → Prop) (g : Gh) (rb fuel : Nat) (s : St) (w : World) (h : RunAt N g rb fuel s w) (a : Value) (e : Env) (ha : RepM g.mb (g.ok N) w a (.env e)) (k : Nat) (sl : Value) (fs : List Rd.F) (hs : RepFs (g.ok N) w sl fs) :
    Calls Tryz.prog 112 #[ptrV rb, .iface 214 (.agg #[.int .i64 k, sl]), a] w (RunC N g rb fuel (s.give (.clo k fs e)) w) := by
  obtain ⟨p, rfl⟩ := RepM.ptr ha
  obtain ⟨fa, fc, rfl, _, _⟩ := RepFs.shape hs
  have hB : Below w.heap.size w (w.alloc (.cells #[.int .i64 k, .slice (some fa) fs.length fc] 214)) := (Below.refl _ w).alloc (Nat.le_refl _) _
  have hKW := Kept.of_below hB (RM g rb)
  have h1 := h.below hB
  have hst : ∀ k', k' < w.heap.size → g.ok N k' → g.ok N k' ∧ (w.alloc (.cells #[.int .i64 k, .slice (some fa) fs.length fc] 214)).heap[k']? = w.heap[k']? := fun k hk ho => ⟨ho, hB.block k hk⟩
  have HN := newClosure_any N g (w.alloc (.cells #[.int .i64 k, .slice (some fa) fs.length fc] 214)) (Gh.ok_new h1.m) k _ _ fs e (hs.mono hst) (ha.mono hst)
  have HG : Hid (∀ w2 b, RepM g.mb (g.ok N) w2 (.iface 226 (ptrV b)) (.val (.clo k fs e)) → Below (w.alloc (.cells #[.int .i64 k, .slice (some fa) fs.length fc] 214)).heap.size (w.alloc (.cells #[.int .i64 k, .slice (some fa) fs.length fc] 214)) w2 → Calls Tryz.prog 139 #[.pointer (some ⟨rb, 0, none⟩), .iface 226 (.pointer (some ⟨b, 0, none⟩))] w2 (RunK N g rb fuel (s.give (.clo k fs e)) w2)) := fun w2 b hr hb => give_any N g rb fuel s w2 (h1.below hb) _ _ hr
  have m163 := fun w => tf_miss163 214 (.agg #[.int .i64 k, .slice (some fa) fs.length fc]) w (by decide)
  have m178 := fun w => tf_miss178 214 (.agg #[.int .i64 k, .slice (some fa) fs.length fc]) w (by decide)
  have m166 := fun w => tf_miss166 214 (.agg #[.int .i64 k, .slice (some fa) fs.length fc]) w (by decide)
  have m214 := fun w => tf_hit214 (.agg #[.int .i64 k, .slice (some fa) fs.length fc]) w
  clear h h1 ha hs hst
  unfold ptrV at *
  go_enter Tryz.func112, Tryz.ntmps112
  go_wp2_with (first | (go_at_call 142; refine HN.mono ?_; rintro e5 w2 ⟨b, rfl, hr2, hb2⟩) | (go_at_call 139; refine (HG.out _ _ hr2 hb2).mono ?_; rintro e6 w3 ⟨rfl, hr3, hk3⟩))
  go_end0
  exact RunC.after (hKW.trans (Kept.of_below hb2 _)) (RunK.c ⟨rfl, hr3, hk3⟩)

theorem start_any (show_ : V → Option (List UInt8)) (HC : CallC show_) (N : Nat → Prop) (g : Gh) (rb fuel : Nat) (s s' : St) (w : World) (h : RunAt N g rb fuel s w) (v a : Value) (f : Rd.F) (e : Env) (hf : RepF (g.ok N) w v f) (ha : RepM g.mb (g.ok N) w a (.env e)) (hx : s.start fuel show_ f e = some s') :
    Calls Tryz.prog 112 #[ptrV rb, v, a] w (RunC N g rb fuel s' w) := by
  cases hf with
  | const c => cases hx; exact start_const c N g rb fuel s w h a e ha
  | quoted x d h1 => cases hx; exact start_quoted d x N g rb fuel s w h a e ha h1
  | name n l =>
    cases l with
    | none =>
      simp only [St.start] at hx
      split at hx
      · rename_i x hfx
        exact start_global n x N g rb fuel s s' w h a e ha hfx hx
      · cases hx
    | some l =>
      obtain ⟨up, slot⟩ := l
      simp only [St.start] at hx
      split at hx
      · rename_i hup
        split at hx
        · rename_i x hfx
          exact start_local n x up slot N g rb fuel s s' w h a e ha hup hfx hx
        · cases hx
      · cases hx
  | ite vt va ve t x y h1 h2 h3 => exact start_ite vt va ve t x y N g rb fuel s s' w h a e ha h1 h2 h3 hx
  | lam k sl b h1 => cases hx; exact start_lam N g rb fuel s w h a e ha k sl b h1
  | begin_ sl b h1 => exact start_begin sl b N g rb fuel s s' w h a e ha h1 hx
  | let_ y sl vs b h1 h2 => exact start_let show_ HC y sl vs b N g rb fuel s s' w h a e ha h1 h2 hx
  | set_ n l x f h1 =>
    cases l with
    | none => exact start_set n x f N g rb fuel s s' w h a e ha h1 hx
    | some l => cases hx
  | until_ st sl b h1 => exact start_until st sl b N g rb fuel s s' w h a e ha h1 hx
  | reset sl b h1 => exact start_reset sl b N g rb fuel s s' w h a e ha h1 hx
  | shift sl b h1 =>
    simp only [St.start] at hx
    split at hx
    · cases hx
    · rename_i hbe
      exact start_shift sl b N g rb fuel s s' w h a e ha h1 (fun e => hbe e) hx
  | define n x f h1 => exact start_define n x f N g rb fuel s s' w h a e ha h1 hx
  | call sl b h1 => exact start_call show_ HC sl b N g rb fuel s s' w h a e ha h1 hx
end Go.Proofs.YtodeeegbajgafaaGreatDoor

namespace Go.Proofs.YtodeeegbajgafaaGreatDoor
open Go.RowKit
open Mc

theorem Calls.c {N : Nat → Prop} {g : Gh} {rb fuel : Nat} {s' : St} {w : World} {k : Nat} {args : Array Value} (h : Calls Tryz.prog k args w (RunK N g rb fuel s' w)) : Calls Tryz.prog k args w (RunC N g rb fuel s' w) := h.mono fun _ _ h => h.c

/-- A task is a function that does what the machine does with it. -/
theorem go_any (show_ : V → Option (List UInt8)) (HC : CallC show_) (N : Nat → Prop) (g : Gh) (rb fuel : Nat) (s s' : St) (w : World) (h : RunAt N g rb fuel s w) (d x : Value) (f : Fr) (v : V) (hd : RepM g.mb (g.ok N) w d (.fr f)) (hv : RepM g.mb (g.ok N) w x (.val v)) (hx : s.go fuel show_ f v = some s') :
    ∃ (k : Nat) (bs : List Nat), ((∃ b1 b2, (k = 161 ∨ k = 162 ∨ k = 164) ∧ bs = [b1, b2]) ∨ (∃ b1, k = 168 ∧ bs = [b1]) ∨ (∃ b0 b1 b2, k = 165 ∧ bs = [b0, b1, b2]) ∨ (∃ b1 b2 b3 b4, k = 169 ∧ bs = [b1, b2, b3, b4])) ∧ d = capFn k bs ∧ Calls Tryz.prog k (#[ptrV rb, x] ++ (bs.map ptrV).toArray) w (RunC N g rb fuel s' w) := by
  cases f with
  | choose t y z e =>
    obtain ⟨b1, b2, vt, va, ve, at', T1, T2, rfl, k1, k2, hh1, hh2, h1, h2, h3⟩ := hd.choose_inv
    cases hx
    exact ⟨161, [b1, b2], Or.inl ⟨b1, b2, by decide, rfl⟩, rfl, Calls.c (goChoose N g rb fuel s w h x v hv b1 b2 vt va ve at' T1 T2 y z e hh1 hh2 h1 h2 h3)⟩
  | body fs e =>
    obtain ⟨b1, b2, sl, at', T1, T2, rfl, k1, k2, hh1, hh2, h1, h2⟩ := hd.body_inv
    cases fs with
    | nil => cases hx
    | cons f fs => exact ⟨162, [b1, b2], Or.inl ⟨b1, b2, by decide, rfl⟩, rfl, Calls.c (goBody N g rb fuel s s' w h x v hv b1 b2 sl at' T1 T2 f fs e k1 k2 hh1 hh2 h1 h2 hx)⟩
  | until_ st fs e =>
    obtain ⟨b0, b1, b2, sl, at', T0, T1, T2, rfl, k0, k1, k2, hh0, hh1, hh2, h1, h2⟩ := hd.until_inv
    cases fs with
    | nil => cases hx
    | cons f fs => exact ⟨165, [b0, b1, b2], Or.inr (Or.inr (Or.inl ⟨b0, b1, b2, rfl, rfl⟩)), rfl, Calls.c (goUntil N g rb fuel s s' w h x v hv b0 b1 b2 st sl at' T0 T1 T2 f fs e k0 k1 k2 hh0 hh1 hh2 h1 h2 hx)⟩
  | each fs e vals hdd =>
    obtain ⟨b1, b2, b3, b4, sl, at', vs, dd, T1, T2, T3, T4, rfl, hb, k1, k2, k3, k4, hh1, hh2, hh3, hh4, h1, h2, h3, h4⟩ := hd.each_inv
    cases fs with
    | nil => cases hx
    | cons f fs => exact ⟨169, [b1, b2, b3, b4], Or.inr (Or.inr (Or.inr ⟨b1, b2, b3, b4, rfl, rfl⟩)), rfl, goEach show_ HC N g rb fuel s s' w h x v hv b1 b2 b3 b4 sl at' vs dd T1 T2 T3 T4 f fs e vals hdd hb k1 k2 k3 k4 hh1 hh2 hh3 hh4 h1 h2 h3 h4 hx⟩
  | set_ n y e =>
    obtain ⟨b1, b2, z, at', T1, T2, rfl, k1, k2, hh1, hh2⟩ := hd.set_inv
    simp only [St.go] at hx
    split at hx
    · rename_i hs
      cases hx
      exact ⟨164, [b1, b2], Or.inl ⟨b1, b2, by decide, rfl⟩, rfl, Calls.c (goSet N g rb fuel s w h x v hv b1 b2 z at' T1 T2 n hh1 hh2 hs)⟩
    · cases hx
  | define n y =>
    obtain ⟨b1, z, T1, rfl, k1, hh1⟩ := hd.define_inv
    simp only [St.go] at hx
    split at hx
    · cases hx
    · rename_i hs
      cases hx
      exact ⟨168, [b1], Or.inr (Or.inl ⟨b1, rfl, rfl⟩), rfl, goDefine N g rb fuel s w h x v hv b1 z T1 n k1 hh1 (by simpa using hs)⟩
end Go.Proofs.YtodeeegbajgafaaGreatDoor

namespace Go.Proofs.YtodeeegbajgafaaGreatDoor
open Go.RowKit
open Mc

theorem Gh.Next.trans {w w' : World} {g g' g'' : Gh} (h : Gh.Next w g g') (h' : Gh.Next w' g' g'') (hs : w.heap.size ≤ w'.heap.size) : Gh.Next w g g'' :=
  ⟨h'.mb.trans h.mb, h'.db.trans h.db, fun k e hk => h.mt k (h'.mt k e (Nat.lt_of_lt_of_le hk hs)) hk⟩

/-- A run that may have nothing to go on with yet. -/
structure RunAt0 (N : Nat → Prop) (g : Gh) (rb fuel : Nat) (s : St) (w : World) : Prop where
  inN : N rb
  m : MachAt N g s.G s.shown w
  blk : ∃ T vf va vv vt vb, w.heap[rb]? = some (.cells (runCells g.mb fuel s vf va vv vt vb) T (0, 0)) ∧ RepM g.mb (g.ok N) w vt (.todo s.todo) ∧ BeyAt g.mb (g.ok N) w vb s.beyond
  bound : s.steps ≤ fuel ∧ fuel ≤ 1000000000
theorem RunAt.r0 {N : Nat → Prop} {g : Gh} {rb fuel : Nat} {s : St} {w : World} (h : RunAt N g rb fuel s w) : RunAt0 N g rb fuel s w := by
  obtain ⟨T, vf, va, vv, vt, vb, hb, hc, ht, hy⟩ := h.blk
  exact ⟨h.inN, h.m, ⟨T, vf, va, vv, vt, vb, hb, ht, hy⟩, h.bound⟩
theorem RunAt0.upd {N : Nat → Prop} {g : Gh} {rb fuel : Nat} {s s' : St} {w w' : World} (h : RunAt0 N g rb fuel s w) (hs : w.heap.size ≤ w'.heap.size) (hw : ∀ k, k < w.heap.size → k ≠ rb → w'.heap[k]? = w.heap[k]?)
    (hG : s'.G = s.G ∧ s'.shown = s.shown) (hb : ∃ T vf va vv vt vb, w'.heap[rb]? = some (.cells (runCells g.mb fuel s' vf va vv vt vb) T (0, 0)) ∧ CtlAt g.mb (g.ok N) w' vf va vv s'.ctl ∧ RepM g.mb (g.ok N) w' vt (.todo s'.todo) ∧ BeyAt g.mb (g.ok N) w' vb s'.beyond) (hst : s'.steps ≤ fuel) :
    RunAt N g rb fuel s' w' := by
  refine ⟨h.inN, ?_, hb, hst, h.bound.2⟩
  rw [hG.1, hG.2]
  have hne : ∀ k, ¬ N k → k ≠ rb := fun k hk e => hk (e ▸ h.inN)
  exact h.m.kept (fun k hk => hw k (Gh.low h.m k hk) (hne k (h.m.disj k hk))) (fun k hk ho => ⟨ho, hw k hk (hne k ho.1)⟩) (fun k hk => Nat.lt_of_lt_of_le (h.m.low k hk) hs) h.m.disj
set_option maxHeartbeats 1000000 in
theorem evaluate0 (N : Nat → Prop) (g : Gh) (rb fuel : Nat) (s : St) (w : World) (h : RunAt0 N g rb fuel s w) (v a : Value) (f : Rd.F) (e : Env) (hv : RepF (g.ok N) w v f) (ha : RepM g.mb (g.ok N) w a (.env e)) :
    Calls Tryz.prog 110 #[ptrV rb, v, a] w (RunK N g rb fuel (s.eval f e) w) := by
  obtain ⟨T, vf, va, vv, vt, vb, hb, ht, hy⟩ := h.blk
  obtain ⟨tv, xv, rfl⟩ := RepF.iface hv
  obtain ⟨p, rfl⟩ := RepM.ptr ha
  have c3 := cell_of_at hb 3
  have c4 := cell_of_at hb 4
  have f3 := free_of_at hb 3
  have f4 := free_of_at hb 4
  simp only [runCells, List.getElem?_toArray, List.getElem?_cons_zero, List.getElem?_cons_succ] at c3 c4
  have hne : ∀ k, g.ok N k → k ≠ rb := fun k hk e => hk.1 (e ▸ h.inN)
  have hw : ∀ k, k ≠ rb → ((w.setCell ⟨rb, 3, none⟩ (.iface tv xv)).setCell ⟨rb, 4, none⟩ (.pointer p)).heap[k]? = w.heap[k]? := fun k hk => by rw [Below.heap_setCell _ _ _ _ hk, Below.heap_setCell _ _ _ _ hk]
  have hst : ∀ k, k < w.heap.size → g.ok N k → g.ok N k ∧ ((w.setCell ⟨rb, 3, none⟩ (.iface tv xv)).setCell ⟨rb, 4, none⟩ (.pointer p)).heap[k]? = w.heap[k]? := fun k _ ho => ⟨ho, hw k (hne k ho)⟩
  have hR : RunAt N g rb fuel (s.eval f e) ((w.setCell ⟨rb, 3, none⟩ (.iface tv xv)).setCell ⟨rb, 4, none⟩ (.pointer p)) := by
    refine h.upd (by simp) (fun k _ hk => hw k hk) ⟨rfl, rfl⟩ ⟨T, .iface tv xv, .pointer p, vv, vt, vb, ?_, ⟨hv.mono hst, ha.mono hst⟩, ht.mono hst, hy.mono hst⟩ h.bound.1
    rw [at_setCell (at_setCell hb 3 _) 4 _]
    simp [runCells, St.eval]
  have hK : Kept (RM g rb) w ((w.setCell ⟨rb, 3, none⟩ (.iface tv xv)).setCell ⟨rb, 4, none⟩ (.pointer p)) := ((Kept.refl _ w).setCell (p := ⟨rb, 3, none⟩) (fun _ => Or.inl rfl) _).setCell (p := ⟨rb, 4, none⟩) (fun _ => Or.inl rfl) _
  clear h hb ht hy hv ha hne hw hst
  unfold ptrV
  go_enter Tryz.func110, Tryz.ntmps110
  go_wp2
  go_end0
  exact ⟨rfl, hR, hK⟩

/-- A form came to its end. -/
def WholeR (N : Nat → Prop) (g : Gh) (rb fuel : Nat) (t : St) (w : World) : Ending → World → Prop := fun e w' => e = .returned (.bool (t.kind == 0)) ∧ ∃ g', Gh.Next w g g' ∧ RunAt N g' rb fuel t w' ∧ Kept (RM g rb) w w'

/-- Where the loop stands. -/
structure Going (show_ : V → Option (List UInt8)) (N : Nat → Prop) (g : Gh) (rb fuel : Nat) (t : St) (w : World) (k : Nat) (wr : World) (g1 : Gh) (s1 : St) : Prop where
  runs : Hid (Runs fuel show_ k s1 t)
  next : Gh.Next w g g1
  run : RunAt N g1 rb fuel s1 wr
  kept : Kept (RM g rb) w wr

theorem Going.on {show_ : V → Option (List UInt8)} {N : Nat → Prop} {g : Gh} {rb fuel : Nat} {t : St} {w : World} {k k' : Nat} {wr : World} {g1 : Gh} {s1 s2 : St} (h : Going show_ N g rb fuel t w k wr g1 s1) (hr : Runs fuel show_ k' s2 t) {w2 : World} {e : Ending} (h' : RunC N g1 rb fuel s2 wr e w2) : ∃ g2, Going show_ N g rb fuel t w k' w2 g2 s2 := by
  obtain ⟨_, g2, hn, hr2, hk⟩ := h'
  exact ⟨g2, hr, h.next.trans hn h.kept.size, hr2, h.kept.chain hk h.next.rm⟩

theorem round_of_ev {s : St} {fuel : Nat} {show_ : V → Option (List UInt8)} {f : Rd.F} {e : Env} (hk : s.kind = 0) (hc : s.ctl = .ev f e) : s.round fuel show_ = (match s.step? fuel with | (s, true) => s.start fuel show_ f e | (s, false) => some s) := by
  cases s
  simp only at hk hc
  subst hk hc
  rfl
theorem round_of_val {s : St} {fuel : Nat} {show_ : V → Option (List UInt8)} {v : V} {f : Fr} {fs : List Fr} (hk : s.kind = 0) (hc : s.ctl = .val v) (ht : s.todo = f :: fs) : s.round fuel show_ = { s with todo := fs }.go fuel show_ f v := by
  cases s
  simp only at hk hc ht
  subst hk hc ht
  rfl
theorem round_of_pop {s : St} {fuel : Nat} {show_ : V → Option (List UInt8)} {v : V} {t : List Fr} {b : List (List Fr)} (hk : s.kind = 0) (hc : s.ctl = .val v) (ht : s.todo = []) (hb : s.beyond = t :: b) : s.round fuel show_ = some { s with todo := t, beyond := b } := by
  cases s
  simp only at hk hc ht hb
  subst hk hc ht hb
  rfl
theorem round_of_end {s : St} {fuel : Nat} {show_ : V → Option (List UInt8)} {v : V} (hk : s.kind = 0) (hc : s.ctl = .val v) (ht : s.todo = []) (hb : s.beyond = []) : s.round fuel show_ = none := by
  cases s
  simp only at hk hc ht hb
  subst hk hc ht hb
  rfl

theorem RepM.todo_inv {mb : Nat} {ok : Nat → Prop} {w : World} {x : Value} {f : Fr} {fs : List Fr} (h : RepM mb ok w x (.todo (f :: fs))) :
    ∃ b d n T, x = ptrV b ∧ ok b ∧ w.heap[b]? = some (.cells #[d, n] T (0, 0)) ∧ RepM mb ok w d (.fr f) ∧ RepM mb ok w n (.todo fs) := by
  cases h with
  | todo1 b d n T _ _ hb hh h1 h2 => exact ⟨b, d, n, T, rfl, hb, hh, h1, h2⟩

theorem RunAt.ev {N : Nat → Prop} {g : Gh} {rb fuel : Nat} {s : St} {w : World} (h : RunAt N g rb fuel s w) {f : Rd.F} {e : Env} (hc : s.ctl = .ev f e) :
    ∃ tv xv p, w.cell? ⟨rb, 3, none⟩ = some (.iface tv xv) ∧ w.cell? ⟨rb, 4, none⟩ = some (.pointer p) ∧ RepF (g.ok N) w (.iface tv xv) f ∧ RepM g.mb (g.ok N) w (.pointer p) (.env e) := by
  obtain ⟨T, vf, va, vv, vt, vb, hb, hcc, ht, hy⟩ := h.blk
  rw [hc] at hcc
  obtain ⟨h1, h2⟩ := hcc
  obtain ⟨tv, xv, rfl⟩ := RepF.iface h1
  obtain ⟨p, rfl⟩ := RepM.ptr h2
  have c3 := cell_of_at hb 3
  have c4 := cell_of_at hb 4
  simp only [runCells, List.getElem?_toArray, List.getElem?_cons_zero, List.getElem?_cons_succ] at c3 c4
  exact ⟨tv, xv, p, c3, c4, h1, h2⟩

set_option maxHeartbeats 4000000 in
set_option maxRecDepth 10000 in
theorem whole_any (show_ : V → Option (List UInt8)) (HC : CallC show_) (N : Nat → Prop) (g : Gh) (rb fuel n : Nat) (s t : St) (w : World) (h : RunAt0 N g rb fuel s w) (v : Value) (f : Rd.F) (hv : RepF (g.ok N) w v f) (hx : Runs fuel show_ n (s.eval f []) t) (he : t.ended) :
    Calls Tryz.prog 64 #[ptrV rb, v] w (WholeR N g rb fuel t w) := by
  have HE : Hid (Calls Tryz.prog 110 #[.pointer (some ⟨rb, 0, none⟩), v, .pointer none] w (RunK N g rb fuel (s.eval f []) w)) := evaluate0 N g rb fuel s w h v (.pointer none) f [] hv .env0
  obtain ⟨tv, xv, rfl⟩ := RepF.iface hv
  have HX : Hid (Runs fuel show_ n (s.eval f []) t) := hx
  have HT : Hid t.ended := he
  clear h hv hx he
  unfold ptrV
  go_enter Tryz.func64, Tryz.ntmps64
  go_wp2_with (first | (go_at_call 110; refine HE.out.mono ?_; rintro e2 w2 ⟨rfl, hr2, hk2⟩))
  go_loopg [5] n (fun k _ wr => ∃ g1 s1, Going show_ N g rb fuel t w k wr g1 s1)
  case atStart => exact ⟨g, _, HX, Gh.Next.refl _ _, hr2, hk2⟩
  case round =>
    obtain ⟨g1, s1, hG⟩ := hrel
    have HG := (show Hid _ from hG)
    have hrun := hG.run
    have hR := hG.runs.out
    obtain ⟨T, vf, va, vv, vt, vb, hb, hc, ht, hy⟩ := hrun.blk
    have c3 := cell_of_at hb 3
    have c4 := cell_of_at hb 4
    have c5 := cell_of_at hb 5
    have c6 := cell_of_at hb 6
    have c7 := cell_of_at hb 7
    have c8 := cell_of_at hb 8
    have f6 := free_of_at hb 6
    simp only [runCells, List.getElem?_toArray, List.getElem?_cons_zero, List.getElem?_cons_succ] at c3 c4 c5 c6 c7 c8
    clear hG HX hr2 hk2
    cases hR with
    | nil =>
      by_cases hk : t.kind = 0
      · have hvv : (∃ v, t.ctl = .val v) ∧ t.todo = [] ∧ t.beyond = [] := by
          rcases HT.out with h | h
          · exact absurd hk h
          · exact h
        obtain ⟨⟨v, hv⟩, h1, h2⟩ := hvv
        rw [hv] at hc
        rw [h1] at ht
        rw [h2] at hy
        obtain ⟨rfl, hcv⟩ := hc
        obtain rfl : vb = .pointer none := hy
        obtain rfl : vt = .pointer none := by cases ht; rfl
        rw [hk] at c8
        have hkb : (t.kind == 0) = true := by rw [hk]; rfl
        have HF : Hid (WholeR N g rb fuel t w (.returned (.bool true)) wr) := ⟨by rw [hkb], g1, HG.out.next, HG.out.run, HG.out.kept⟩
        clear hb hcv ht hrun h1 h2 hv hk hkb HT
        go_wp2
        go_ret
        exact HF.out
      · have hkb : (t.kind == 0) = false := by simpa using hk
        have hki : ¬ ((t.kind : Int) = 0) := by omega
        have HF : Hid (WholeR N g rb fuel t w (.returned (.bool false)) wr) := ⟨by rw [hkb], g1, HG.out.next, HG.out.run, HG.out.kept⟩
        clear hb hc ht hrun hy hk hkb HT
        go_wp2
        go_ret
        exact HF.out
    | @cons n' _ s2 _ h1 k1 =>
      have hk : s1.kind = 0 := by
        unfold St.round at h1
        split at h1
        · cases h1
        · omega
      have HON : Hid (∀ (w2 : World) (e : Ending), RunC N g1 rb fuel s2 wr e w2 → ∃ g2 s3, Going show_ N g rb fuel t w n' w2 g2 s3) := fun w2 e hr => by
        obtain ⟨g2, h2⟩ := HG.out.on k1 hr
        exact ⟨g2, s2, h2⟩
      rw [hk] at c8
      cases hct : s1.ctl with
      | ev f1 e1 =>
        rw [hct] at hc
        obtain ⟨tf, xf, rfl⟩ := RepF.iface hc.1
        have HS := step_any N g1 rb fuel s1 wr hrun
        unfold StepR at HS
        have hsc : (s1.step? fuel).1.ctl = .ev f1 e1 := by
          unfold St.step?
          split <;> exact hct
        rw [round_of_ev hk hct] at h1
        generalize s1.step? fuel = sr at *
        obtain ⟨s1', r⟩ := sr
        cases r with
        | false =>
          cases h1
          clear hb hc ht hrun hy HT hsc
          unfold ptrV at HS
          go_wp2_with (first | (go_at_call 111; refine HS.mono ?_; rintro e2 w2 ⟨rfl, hr2, hk2⟩))
          go_roundg n'
          case measure => omega
          case rel => exact HON.out _ _ (RunK.c ⟨rfl, hr2, hk2⟩)
        | true =>
          have HST : Hid (∀ (w2 : World) (v a : Value), RunAt N g1 rb fuel s1' w2 → Kept (RM g1 rb) wr w2 → RepF (g1.ok N) w2 v f1 → RepM g1.mb (g1.ok N) w2 a (.env e1) → Calls Tryz.prog 112 #[.pointer (some ⟨rb, 0, none⟩), v, a] w2.drew (RunC N g1 rb fuel s2 wr)) := fun w2 v a hr2 hk2 h2 h3 =>
            (start_any show_ HC N g1 rb fuel s1' s2 w2.drew hr2.drew v a f1 e1 (h2.mono fun _ _ ho => ⟨ho, rfl⟩) (h3.mono fun _ _ ho => ⟨ho, rfl⟩) h1).mono fun _ _ hr => RunC.after hk2.drew hr
          clear hb hc ht hrun hy HT h1
          unfold ptrV at HS
          go_wp2_with (first | (go_at_call 111; refine HS.mono ?_; rintro e2 w2 ⟨rfl, hr2, hk2⟩; obtain ⟨tv2, xv2, p2, d3, d4, hf2, he2⟩ := hr2.ev hsc; have HCA := HST.out _ _ _ hr2 hk2 hf2 he2; have HR2 := (show Hid _ from hr2); clear hr2 hf2 he2))
          go_region_with (first | (go_at_call 112; refine HCA.mono ?_; rintro e3 w3 ⟨rfl, hr3⟩))
          all_goals
            go_wp2
            go_roundg n'
            case measure => omega
            case rel => exact HON.out _ _ ⟨rfl, hr3⟩
      | val v =>
        rw [hct] at hc
        obtain ⟨rfl, hcv⟩ := hc
        obtain ⟨tz, xz, rfl⟩ := hcv.iface
        cases htd : s1.todo with
        | cons f1 fs1 =>
          rw [round_of_val hk hct htd] at h1
          rw [htd] at ht
          obtain ⟨tb, d, nx, TT, rfl, htb, hth, hd, hnx⟩ := ht.todo_inv
          obtain ⟨pn, rfl⟩ := hnx.ptr'
          obtain ⟨q0, q1, _, _⟩ := cells2 hth
          have hne : ∀ k, g1.ok N k → k ≠ rb := fun k hk e => hk.1 (e ▸ hrun.inN)
          have hw : ∀ k, k ≠ rb → (wr.setCell ⟨rb, 6, none⟩ (.pointer pn)).heap[k]? = wr.heap[k]? := fun k hk => Below.heap_setCell _ _ _ _ hk
          have hst : ∀ k, k < wr.heap.size → g1.ok N k → g1.ok N k ∧ (wr.setCell ⟨rb, 6, none⟩ (.pointer pn)).heap[k]? = wr.heap[k]? := fun k _ ho => ⟨ho, hw k (hne k ho)⟩
          have hR : RunAt N g1 rb fuel { s1 with todo := fs1 } (wr.setCell ⟨rb, 6, none⟩ (.pointer pn)) := by
            refine hrun.upd (by simp) (fun k _ hk => hw k hk) ⟨rfl, rfl⟩ ⟨T, .nilIface, va, .iface tz xz, .pointer pn, vb, ?_, ?_, hnx.mono hst, hy.mono hst⟩ hrun.bound.1
            · rw [at_setCell hb 6 _]
              simp [runCells]
            · rw [show ({ s1 with todo := fs1 } : St).ctl = .val v from hct]
              exact ⟨rfl, hcv.mono hst⟩
          have hK : Kept (RM g1 rb) wr (wr.setCell ⟨rb, 6, none⟩ (.pointer pn)) := (Kept.refl _ wr).setCell (p := ⟨rb, 6, none⟩) (fun _ => Or.inl rfl) _
          obtain ⟨k, bs, hbs, rfl, HCA⟩ := go_any show_ HC N g1 rb fuel _ s2 _ hR.drew d (.iface tz xz) f1 v (hd.mono hst) (hcv.mono hst) h1
          have HCB : Calls Tryz.prog k (#[.pointer (some ⟨rb, 0, none⟩), .iface tz xz] ++ (bs.map ptrV).toArray) (wr.setCell ⟨rb, 6, none⟩ (.pointer pn)).drew (RunC N g1 rb fuel s2 wr) := HCA.mono fun _ _ hr => RunC.after hK.drew hr
          unfold capFn at q0
          have hrt : ¬ tb = rb := hne tb htb
          clear hb ht hrun hy HT h1 hcv hd hnx hth hw hst hR hK HCA htb
          unfold ptrV at c6
          rcases hbs with ⟨b1, b2, hkk, rfl⟩ | ⟨b1, hkk, rfl⟩ | ⟨b0, b1, b2, hkk, rfl⟩ | ⟨b1, b2, b3, b4, hkk, rfl⟩
          · simp only [List.map_cons, List.map_nil, ptrV] at q0 HCB
            rcases hkk with rfl | rfl | rfl
            · go_wp2
              go_region_with (first | (go_at_call 161; refine HCB.mono ?_; rintro e3 w3 ⟨rfl, hr3⟩))
              all_goals
                go_wp2
                go_roundg n'
                case measure => omega
                case rel => exact HON.out _ _ ⟨rfl, hr3⟩
            · go_wp2
              go_region_with (first | (go_at_call 162; refine HCB.mono ?_; rintro e3 w3 ⟨rfl, hr3⟩))
              all_goals
                go_wp2
                go_roundg n'
                case measure => omega
                case rel => exact HON.out _ _ ⟨rfl, hr3⟩
            · go_wp2
              go_region_with (first | (go_at_call 164; refine HCB.mono ?_; rintro e3 w3 ⟨rfl, hr3⟩))
              all_goals
                go_wp2
                go_roundg n'
                case measure => omega
                case rel => exact HON.out _ _ ⟨rfl, hr3⟩
          · subst hkk
            simp only [List.map_cons, List.map_nil, ptrV] at q0 HCB
            go_wp2
            go_region_with (first | (go_at_call 168; refine HCB.mono ?_; rintro e3 w3 ⟨rfl, hr3⟩))
            all_goals
              go_wp2
              go_roundg n'
              case measure => omega
              case rel => exact HON.out _ _ ⟨rfl, hr3⟩
          · subst hkk
            simp only [List.map_cons, List.map_nil, ptrV] at q0 HCB
            go_wp2
            go_region_with (first | (go_at_call 165; refine HCB.mono ?_; rintro e3 w3 ⟨rfl, hr3⟩))
            all_goals
              go_wp2
              go_roundg n'
              case measure => omega
              case rel => exact HON.out _ _ ⟨rfl, hr3⟩
          · subst hkk
            simp only [List.map_cons, List.map_nil, ptrV] at q0 HCB
            go_wp2
            go_region_with (first | (go_at_call 169; refine HCB.mono ?_; rintro e3 w3 ⟨rfl, hr3⟩))
            all_goals
              go_wp2
              go_roundg n'
              case measure => omega
              case rel => exact HON.out _ _ ⟨rfl, hr3⟩
        | nil =>
          rw [htd] at ht
          obtain rfl : vt = .pointer none := by cases ht; rfl
          cases hbd : s1.beyond with
          | nil => rw [round_of_end hk hct htd hbd] at h1; cases h1
          | cons t1 b1 =>
            rw [round_of_pop hk hct htd hbd] at h1
            cases h1
            have HL := runLeave_any N g1 rb fuel s1 wr hrun t1 b1 hbd
            rw [hbd] at hy
            obtain ⟨kb, xb, yb, Tb, rfl, _⟩ := hy
            clear hb ht hrun HT hcv
            unfold ptrV at *
            go_wp2_with (first | (go_at_call 113; refine HL.mono ?_; rintro e2 w2 ⟨rfl, hr2, hk2⟩))
            go_roundg n'
            case measure => omega
            case rel => exact HON.out _ _ (RunK.c ⟨rfl, hr2, hk2⟩)
end Go.Proofs.YtodeeegbajgafaaGreatDoor

namespace Go.Proofs.YtodeeegbajgafaaGreatDoor
open Go.RowKit
open Mc

def two0 (w : World) : World := w.alloc (.cells #[.int .i64 0, .int .i64 0] 2)
def two1 (w : World) (a : Int) : World := (two0 w).setCell ⟨w.heap.size, 0, none⟩ (.int .i64 a)
def two2 (w : World) (a b : Int) : World := (two1 w a).setCell ⟨w.heap.size, 1, none⟩ (.int .i64 b)
theorem two_at0 (w : World) : (two0 w).heap[w.heap.size]? = some (.cells #[.int .i64 0, .int .i64 0] 2 (0, 0)) := at_new w _
theorem two_at1 (w : World) (a : Int) : (two1 w a).heap[w.heap.size]? = some (.cells #[.int .i64 a, .int .i64 0] 2 (0, 0)) := at_setCell (two_at0 w) 0 _
theorem two_at2 (w : World) (a b : Int) : (two2 w a b).heap[w.heap.size]? = some (.cells #[.int .i64 a, .int .i64 b] 2 (0, 0)) := at_setCell (two_at1 w a) 1 _
theorem two_below (w : World) (a b : Int) : Below w.heap.size w (two0 w) ∧ Below w.heap.size w (two1 w a) ∧ Below w.heap.size w (two2 w a b) := by
  have h0 : Below w.heap.size w (two0 w) := (Below.refl _ w).alloc (Nat.le_refl _) _
  have h1 : Below w.heap.size w (two1 w a) := h0.setCell (Nat.le_refl _) _
  exact ⟨h0, h1, h1.setCell (Nat.le_refl _) _⟩
theorem two_nums (w : World) (a b : Int) : NumsAt (two2 w a b) (.slice (some ⟨w.heap.size, 0, none⟩) 2 2) [a, b] := by
  obtain ⟨c0, c1, _, _⟩ := cells2 (two_at2 w a b)
  refine ⟨w.heap.size, 0, 2, rfl, by simp, by omega, fun i hi => ?_⟩
  match i, hi with
  | 0, _ => exact c0
  | 1, _ => exact c1

set_option maxHeartbeats 4000000 in
theorem ofNumbers_any (k : Nat) (hk : k = 68 ∨ k = 69 ∨ k = 70 ∨ k = 74) (mb : Nat) (ok : Nat → Prop) (w : World) (x v : Value) (a b : Int) (u : V) (hx : RepM mb ok w x (.vals [.atom (.num a), .atom (.num b)])) (c : Nat) (T' : TypeId) (hc : w.heap[c]? = some (.cells #[fnV k] T' (0, 0)))
    (HK : ∀ W y, NumsAt W y [a, b] → NumB k W y v) (hv : ∀ W, RepM mb ok W v (.val u)) :
    Calls Tryz.prog 115 #[x, ptrV c] w (DoR mb ok w u) := by
  have hmk : ∀ w : World, (Instr.makeSlice 196 (.int .i64 2) (.int .i64 2)).run Tryz.prog w = .ok (.slice (some ⟨w.heap.size, 0, none⟩) 2 2) (two0 w) := fun _ => by kernel_rfl
  obtain ⟨g, o, cap, rfl, hn, hcap, hg, hat⟩ := hx.vals_at
  obtain ⟨y0, c0, h0⟩ := hat 0 (by simp)
  obtain ⟨y1, c1, h1⟩ := hat 1 (by simp)
  simp only [List.length_cons, List.length_nil, Nat.add_zero, Nat.zero_add, List.getElem_cons_zero, List.getElem_cons_succ] at *
  obtain rfl := h0.atom_inv
  obtain rfl := h1.atom_inv
  obtain ⟨B0, B1, B2⟩ := two_below w a b
  have HF : Hid (Calls Tryz.prog k #[.slice (some ⟨w.heap.size, 0, none⟩) 2 2] (two2 w a b) fun e w' => e = .returned (.tuple #[v, .int .i64 0]) ∧ Below (two2 w a b).heap.size (two2 w a b) w') := HK _ _ (two_nums w a b)
  have keep : ∀ {W : World}, Below w.heap.size w W → W.cell? ⟨g, o, none⟩ = some (aV (.num a)) ∧ W.cell? ⟨g, o + 1, none⟩ = some (aV (.num b)) ∧ W.cell? ⟨c, 0, none⟩ = some (fnV k) := fun hB =>
    ⟨(Kept.of_below hB (fun _ => False)).cell id c0, (Kept.of_below hB (fun _ => False)).cell id c1, (Kept.of_below hB (fun _ => False)).cell id (cells1 hc).1⟩
  obtain ⟨p0, p1, p2⟩ := keep B0
  obtain ⟨q0, q1, q2⟩ := keep B1
  obtain ⟨r0, r1, r2⟩ := keep B2
  obtain ⟨s0, s1, s2, s3⟩ := cells2 (two_at0 w)
  obtain ⟨t0, t1, t2, t3⟩ := cells2 (two_at1 w a)
  have hit := fun (n : Int) w => ta_hit147 (.int .i64 n) w
  have HB := (show Hid _ from B2)
  have HV := (show Hid _ from hv)
  have E1 : Hid ((two0 w).setCell ⟨w.heap.size, 0, none⟩ (.int .i64 a) = two1 w a) := rfl
  have E2 : Hid ((two1 w a).setCell ⟨w.heap.size, 1, none⟩ (.int .i64 b) = two2 w a b) := rfl
  have hfin : ∀ e W, (e = .returned (.tuple #[v, .int .i64 0]) ∧ Below (two2 w a b).heap.size (two2 w a b) W) → DoR mb ok w u e W := fun e W ⟨h1, h2⟩ => ⟨v, h1, hv W, B2.trans (h2.mono B2.size)⟩
  have HFIN := (show Hid _ from hfin)
  clear hx hat h0 h1 hc HK hv keep B0 B1 B2 c0 c1 hfin
  unfold ptrV
  simp only [aV] at *
  go_enter Tryz.func115, Tryz.ntmps115
  go_wp2
  go_loopg [15] 2 (fun k q wr => (k = 2 ∧ q = .int .i64 0 ∧ wr = two0 w) ∨ (k = 1 ∧ q = .int .i64 1 ∧ wr = two1 w a) ∨ (k = 0 ∧ q = .int .i64 2 ∧ wr = two2 w a b))
  case atStart => exact Or.inl ⟨rfl, rfl, rfl⟩
  case round =>
    rcases hrel with ⟨rfl, rfl, rfl⟩ | ⟨rfl, rfl, rfl⟩ | ⟨rfl, rfl, rfl⟩
    · go_wp2
      go_roundg 1
      case measure => omega
      case rel => exact Or.inr (Or.inl ⟨rfl, rfl, E1.out⟩)
    · go_wp2
      go_roundg 0
      case measure => omega
      case rel => exact Or.inr (Or.inr ⟨rfl, rfl, E2.out⟩)
    · unfold fnV at r2
      rcases hk with rfl | rfl | rfl | rfl
      · go_wp2_with (first | (go_at_call 68; refine HF.out.mono ?_; rintro e2 w2 ⟨rfl, hb2⟩))
        go_ret2
        exact HFIN.out _ _ ⟨rfl, hb2⟩
      · go_wp2_with (first | (go_at_call 69; refine HF.out.mono ?_; rintro e2 w2 ⟨rfl, hb2⟩))
        go_ret2
        exact HFIN.out _ _ ⟨rfl, hb2⟩
      · go_wp2_with (first | (go_at_call 70; refine HF.out.mono ?_; rintro e2 w2 ⟨rfl, hb2⟩))
        go_ret2
        exact HFIN.out _ _ ⟨rfl, hb2⟩
      · go_wp2_with (first | (go_at_call 74; refine HF.out.mono ?_; rintro e2 w2 ⟨rfl, hb2⟩))
        go_ret2
        exact HFIN.out _ _ ⟨rfl, hb2⟩
end Go.Proofs.YtodeeegbajgafaaGreatDoor

namespace Go.Proofs.YtodeeegbajgafaaGreatDoor
open Go.RowKit
open Mc

set_option maxHeartbeats 1000000 in
theorem doList (mb : Nat) (ok : Nat → Prop) (w : World) (hok : ∀ k, w.heap.size ≤ k → ok k) (x : Value) (vs : List V) (hx : RepM mb ok w x (.vals vs)) :
    Calls Tryz.prog 81 #[x] w (DoR mb ok w (listV vs)) := by
  have HL := list33 mb ok w hok x vs hx
  obtain ⟨a, cap, rfl, hn, hcap, _⟩ := hx.vals_any
  clear hx
  go_enter Tryz.func81, Tryz.ntmps81
  go_wp2_with (first | (go_at_call 33; refine HL.mono ?_; rintro e2 w2 ⟨y, rfl, hy, hb⟩; have HY := (show Hid _ from hy); obtain ⟨ty, zy, rfl⟩ := hy.iface; clear hy))
  go_ret2
  exact ⟨_, rfl, HY.out, hb⟩

/-- What a procedure that is there answers. -/
def DoRes (mb : Nat) (ok : Nat → Prop) (w : World) : Res → Ending → World → Prop
  | .val v => DoR mb ok w v
  | .wrong y => fun e w' => e = .returned (.tuple #[.nilIface, .int .i64 y]) ∧ Below w.heap.size w w'
  | .shows _ => fun _ _ => False

theorem nums_two {vs : List V} {a b : Int} (h : nums vs = some [a, b]) : vs = [.atom (.num a), .atom (.num b)] := by
  match vs with
  | [] => cases h
  | .atom (.num x) :: vs =>
    simp only [nums] at h
    match vs with
    | [] => cases h
    | .atom (.num y) :: vs =>
      match vs with
      | [] => cases h; rfl
      | .atom (.num z) :: vs =>
        simp only [nums] at h
        cases h' : nums vs <;> rw [h'] at h <;> cases h
      | .atom (.truth _) :: vs => cases h
      | .atom (.sym _) :: vs => cases h
      | .atom .empty :: vs => cases h
      | .pair _ _ :: vs => cases h
      | .basic _ :: vs => cases h
      | .clo _ _ _ :: vs => cases h
      | .cont _ :: vs => cases h
    | .atom (.truth _) :: vs => cases h
    | .atom (.sym _) :: vs => cases h
    | .atom .empty :: vs => cases h
    | .pair _ _ :: vs => cases h
    | .basic _ :: vs => cases h
    | .clo _ _ _ :: vs => cases h
    | .cont _ :: vs => cases h
  | .atom (.truth _) :: vs => cases h
  | .atom (.sym _) :: vs => cases h
  | .atom .empty :: vs => cases h
  | .pair _ _ :: vs => cases h
  | .basic _ :: vs => cases h
  | .clo _ _ _ :: vs => cases h
  | .cont _ :: vs => cases h

/-- A procedure that is there, in memory. -/
theorem RepM.basic_inv {mb : Nat} {ok : Nat → Prop} {w : World} {x : Value} {i : Nat} (h : RepM mb ok w x (.val (.basic i))) :
    ∃ b nm T fv, x = .iface 111 (ptrV b) ∧ ok b ∧ w.heap[b]? = some (.cells #[.int .i64 (basicTab mb i).1, .int .i64 (basicTab mb i).2.1, nm, fv] T (0, 0)) ∧
      (((basicTab mb i).2.2.2 = none ∧ fv = fnV (basicTab mb i).2.2.1) ∨ ∃ c y T', (basicTab mb i).2.2.2 = some y ∧ fv = capFn (basicTab mb i).2.2.1 [c] ∧ ok c ∧ w.heap[c]? = some (.cells #[y] T' (0, 0))) := by
  cases h with
  | basic0 _ b nm T hb hn hh => exact ⟨b, nm, T, _, rfl, hb, hh, Or.inl ⟨hn, rfl⟩⟩
  | basic1 _ b c nm y T T' hb hc hx hh hh' _ => exact ⟨b, nm, T, _, rfl, hb, hh, Or.inr ⟨c, y, T', hx, rfl, hc, hh'⟩⟩
/-- Where display is, the table is. -/
theorem RepM.display_inv' {mb : Nat} {ok : Nat → Prop} {w : World} {x : Value} (h : RepM mb ok w x (.val (.basic 20))) : ∃ b c nm T T', x = .iface 111 (ptrV b) ∧ w.heap[b]? = some (.cells #[.int .i64 1, .int .i64 1, nm, capFn 129 [c]] T (0, 0)) ∧ ok c ∧ w.heap[c]? = some (.cells #[.func (.func 39) #[ptrV mb] #[]] T' (0, 0)) ∧ ok tabBlock ∧ TabOk w := by
  cases h with
  | basic0 _ b nm T hb hn hh => cases hn
  | basic1 _ b c nm y T T' hb hc hx hh hh' ht =>
    cases hx
    exact ⟨b, c, nm, T, T', rfl, hh, hc, hh', ht rfl⟩
theorem RepM.display_inv {mb : Nat} {ok : Nat → Prop} {w : World} {b : Nat} (h : RepM mb ok w (.iface 111 (ptrV b)) (.val (.basic 20))) : ∃ c nm T T', w.heap[b]? = some (.cells #[.int .i64 1, .int .i64 1, nm, capFn 129 [c]] T (0, 0)) ∧ ok c ∧ w.heap[c]? = some (.cells #[.func (.func 39) #[ptrV mb] #[]] T' (0, 0)) ∧ ok tabBlock ∧ TabOk w := by
  obtain ⟨b', c, nm, T, T', e, h1, h2, h3, h4⟩ := h.display_inv'
  have : b = b' := by
    simp only [ptrV] at e
    injection e with _ e
    injection e with e
    injection e with e
    injection e with e
  subst this
  exact ⟨c, nm, T, T', h1, h2, h3, h4⟩


/-- What its function does. -/
theorem basic_do {mb : Nat} {ok : Nat → Prop} {w : World} (hok : ∀ k, w.heap.size ≤ k → ok k) {i : Nat} {x : Value} {vs : List V} {r : Res} (hx : RepM mb ok w x (.vals vs)) (hd : basicDo i vs = some r) (hs : ∀ v, r ≠ .shows v) {fv : Value}
    (hf : ((basicTab mb i).2.2.2 = none ∧ fv = fnV (basicTab mb i).2.2.1) ∨ ∃ c y T', (basicTab mb i).2.2.2 = some y ∧ fv = capFn (basicTab mb i).2.2.1 [c] ∧ ok c ∧ w.heap[c]? = some (.cells #[y] T' (0, 0))) :
    (∃ k, (k = 77 ∨ k = 81 ∨ k = 83) ∧ fv = fnV k ∧ Calls Tryz.prog k #[x] w (DoRes mb ok w r)) ∨ ∃ k c, (k = 115 ∨ k = 127) ∧ fv = capFn k [c] ∧ Calls Tryz.prog k #[x, ptrV c] w (DoRes mb ok w r) := by
  have two : ∀ (k : Nat) (hk : k = 68 ∨ k = 69 ∨ k = 70 ∨ k = 74) (a b : Int) (v : Value) (u : V), nums vs = some [a, b] → (basicTab mb i).2.2.1 = 115 → (basicTab mb i).2.2.2 = some (fnV k) → r = .val u → (∀ W y, NumsAt W y [a, b] → NumB k W y v) → (∀ W, RepM mb ok W v (.val u)) →
      (∃ k, (k = 77 ∨ k = 81 ∨ k = 83) ∧ fv = fnV k ∧ Calls Tryz.prog k #[x] w (DoRes mb ok w r)) ∨ ∃ k c, (k = 115 ∨ k = 127) ∧ fv = capFn k [c] ∧ Calls Tryz.prog k #[x, ptrV c] w (DoRes mb ok w r) := by
    intro k hk a b v u hn h1 h2 hr HK hv
    obtain rfl := nums_two hn
    subst hr
    rcases hf with ⟨h3, _⟩ | ⟨c, y, T', h3, rfl, hc, hh⟩
    · rw [h2] at h3; cases h3
    · rw [h2] at h3
      cases h3
      rw [h1]
      exact Or.inr ⟨115, c, by decide, rfl, ofNumbers_any k hk mb ok w x v a b u hx c T' hh HK hv⟩
  match i with
  | 0 =>
    simp only [basicDo] at hd
    split at hd
    · rename_i a b hn
      cases hf' : fold (fun x y => x + y) 0 [a, b] with
      | none => rw [hf'] at hd; cases hd
      | some n =>
        rw [hf'] at hd
        cases hd
        exact two 68 (Or.inl rfl) a b (.iface 147 (.int .i64 n)) _ hn rfl rfl rfl (fun W y h => (sum_any n [a, b] y W h hf').b) (fun W => .atom (.num n))
    · cases hd
  | 1 =>
    simp only [basicDo] at hd
    split at hd
    · rename_i a b hn
      cases hf' : fold (fun x y => x * y) 1 [a, b] with
      | none => rw [hf'] at hd; cases hd
      | some n =>
        rw [hf'] at hd
        cases hd
        exact two 69 (Or.inr (Or.inl rfl)) a b (.iface 147 (.int .i64 n)) _ hn rfl rfl rfl (fun W y h => (product_any n [a, b] y W h hf').b) (fun W => .atom (.num n))
    · cases hd
  | 2 =>
    simp only [basicDo] at hd
    split at hd
    · rename_i a b hn
      cases hf' : fold (fun x y => x - y) a [b] with
      | none => rw [hf'] at hd; cases hd
      | some n =>
        rw [hf'] at hd
        cases hd
        exact two 70 (Or.inr (Or.inr (Or.inl rfl))) a b (.iface 147 (.int .i64 n)) _ hn rfl rfl rfl (fun W y h => difference_b a b n y W h hf') (fun W => .atom (.num n))
    · cases hd
  | 5 =>
    simp only [basicDo] at hd
    split at hd
    · rename_i a b hn
      cases hd
      exact two 74 (Or.inr (Or.inr (Or.inr rfl))) a b (.iface 150 (.bool (decide (a < b)))) _ hn rfl rfl rfl (fun W y h => less_any a b y W h) (fun W => .atom (.truth _))
    · cases hd
  | 8 =>
    simp only [basicDo] at hd
    split at hd
    · cases hd
      rcases hf with ⟨_, rfl⟩ | ⟨c, y, T', h3, _⟩
      · exact Or.inl ⟨77, by decide, rfl, doCons mb ok w hok x _ _ hx⟩
      · cases h3
    · cases hd
  | 9 =>
    simp only [basicDo] at hd
    split at hd
    · cases hd
      rcases hf with ⟨h3, _⟩ | ⟨c, y, T', h3, rfl, hc, hh⟩
      · cases h3
      · cases h3
        exact Or.inr ⟨127, c, by decide, rfl, doCar mb ok w x _ _ hx c T' hh⟩
    · cases hd
      rcases hf with ⟨h3, _⟩ | ⟨c, y, T', h3, rfl, hc, hh⟩
      · cases h3
      · exact Or.inr ⟨127, c, by decide, rfl, (doNoPair mb ok w x _ hx c).mono fun _ _ ⟨h1, h2⟩ => ⟨h1, h2 ▸ Below.refl _ _⟩⟩
    · cases hd
  | 10 =>
    simp only [basicDo] at hd
    split at hd
    · cases hd
      rcases hf with ⟨h3, _⟩ | ⟨c, y, T', h3, rfl, hc, hh⟩
      · cases h3
      · cases h3
        exact Or.inr ⟨127, c, by decide, rfl, doCdr mb ok w x _ _ hx c T' hh⟩
    · cases hd
  | 11 =>
    cases hd
    rcases hf with ⟨_, rfl⟩ | ⟨c, y, T', h3, _⟩
    · exact Or.inl ⟨81, by decide, rfl, doList mb ok w hok x vs hx⟩
    · cases h3
  | 13 =>
    have hv : ∃ v t, vs = [v] ∧ r = .val (.atom (.truth t)) := by
      simp only [basicDo] at hd
      split at hd
      · cases hd; exact ⟨_, _, rfl, rfl⟩
      · cases hd; exact ⟨_, _, rfl, rfl⟩
      · cases hd
    obtain ⟨v, t, rfl, rfl⟩ := hv
    rcases hf with ⟨_, rfl⟩ | ⟨c, y, T', h3, _⟩
    · exact Or.inl ⟨83, by decide, rfl, doNull mb ok w x v t hd hx⟩
    · cases h3
  | 20 =>
    simp only [basicDo] at hd
    split at hd
    · cases hd; exact absurd rfl (hs _)
    · cases hd
  | 3 => cases hd
  | 4 => cases hd
  | 6 => cases hd
  | 7 => cases hd
  | 12 => cases hd
  | 14 => cases hd
  | 15 => cases hd
  | 16 => cases hd
  | 17 => cases hd
  | 18 => cases hd
  | 19 => cases hd
  | n + 21 => cases hd
end Go.Proofs.YtodeeegbajgafaaGreatDoor

namespace Go.Proofs.YtodeeegbajgafaaGreatDoor
open Go.RowKit
open Mc

/-- What becomes of the run. -/
def Mc.St.res (s : St) : Res → St
  | .val v => s.give v
  | .wrong y => s.fail y
  | .shows _ => s

set_option maxHeartbeats 4000000 in
theorem callBasic_any (N : Nat → Prop) (g : Gh) (rb fuel : Nat) (s : St) (w : World) (h : RunAt N g rb fuel s w) (b : Nat) (l m nm fv x : Value) (T : TypeId) (r : Res)
    (hb : w.heap[b]? = some (.cells #[l, m, nm, fv] T (0, 0))) (hx : ∃ a n cap, x = .slice a n cap) (hs : ∀ v, r ≠ .shows v) (hw : ∀ y, r = .wrong y → y ≠ 0)
    (HF : (∃ k, (k = 77 ∨ k = 81 ∨ k = 83) ∧ fv = fnV k ∧ Calls Tryz.prog k #[x] w (DoRes g.mb (g.ok N) w r)) ∨ ∃ k c, (k = 115 ∨ k = 127) ∧ fv = capFn k [c] ∧ Calls Tryz.prog k #[x, ptrV c] w (DoRes g.mb (g.ok N) w r)) :
    Calls Tryz.prog 177 #[ptrV rb, ptrV b, x] w (RunC N g rb fuel (s.res r) w) := by
  obtain ⟨xa, xn, xc, rfl⟩ := hx
  have q3 := cell_of_at hb 3
  simp only [List.getElem?_toArray, List.getElem?_cons_zero, List.getElem?_cons_succ] at q3
  have HG : Hid (∀ w2 y v, RepM g.mb (g.ok N) w2 y (.val v) → Below w.heap.size w w2 → Calls Tryz.prog 139 #[.pointer (some ⟨rb, 0, none⟩), y] w2 (RunC N g rb fuel (s.give v) w)) := fun w2 y v hv hB => (give_any N g rb fuel s w2 (h.below hB) y v hv).mono fun _ _ hr => RunC.after (Kept.of_below hB _) hr.c
  have HW : Hid (∀ w2 (y : Nat), Below w.heap.size w w2 → Calls Tryz.prog 159 #[.pointer (some ⟨rb, 0, none⟩), .int .i64 y] w2 (RunC N g rb fuel (s.fail y) w)) := fun w2 y hB => (fail_any N g rb fuel s w2 (h.below hB) y).mono fun _ _ hr => RunC.after (Kept.of_below hB _) hr.c
  clear h hb
  unfold ptrV at *
  cases r with
  | shows v => exact absurd rfl (hs v)
  | val v =>
    simp only [DoRes] at HF
    rcases HF with ⟨k, hk, rfl, HF⟩ | ⟨k, c, hk, rfl, HF⟩
    · unfold fnV at q3
      rcases hk with rfl | rfl | rfl
      · go_enter Tryz.func177, Tryz.ntmps177
        go_wp2_with (first | (go_at_call 77; refine HF.mono ?_; rintro e2 w2 ⟨y, rfl, hy2, hb2⟩; have HY := (show Hid _ from hy2); obtain ⟨ty, zy, rfl⟩ := hy2.iface; clear hy2) | (go_at_call 139; refine (HG.out _ _ _ HY.out hb2).mono ?_; rintro e3 w3 ⟨rfl, hr3⟩))
        go_end0
        exact ⟨rfl, hr3⟩
      · go_enter Tryz.func177, Tryz.ntmps177
        go_wp2_with (first | (go_at_call 81; refine HF.mono ?_; rintro e2 w2 ⟨y, rfl, hy2, hb2⟩; have HY := (show Hid _ from hy2); obtain ⟨ty, zy, rfl⟩ := hy2.iface; clear hy2) | (go_at_call 139; refine (HG.out _ _ _ HY.out hb2).mono ?_; rintro e3 w3 ⟨rfl, hr3⟩))
        go_end0
        exact ⟨rfl, hr3⟩
      · go_enter Tryz.func177, Tryz.ntmps177
        go_wp2_with (first | (go_at_call 83; refine HF.mono ?_; rintro e2 w2 ⟨y, rfl, hy2, hb2⟩; have HY := (show Hid _ from hy2); obtain ⟨ty, zy, rfl⟩ := hy2.iface; clear hy2) | (go_at_call 139; refine (HG.out _ _ _ HY.out hb2).mono ?_; rintro e3 w3 ⟨rfl, hr3⟩))
        go_end0
        exact ⟨rfl, hr3⟩
    · simp only [capFn, List.map_cons, List.map_nil, ptrV] at q3
      rcases hk with rfl | rfl
      · go_enter Tryz.func177, Tryz.ntmps177
        go_wp2_with (first | (go_at_call 115; refine HF.mono ?_; rintro e2 w2 ⟨y, rfl, hy2, hb2⟩; have HY := (show Hid _ from hy2); obtain ⟨ty, zy, rfl⟩ := hy2.iface; clear hy2) | (go_at_call 139; refine (HG.out _ _ _ HY.out hb2).mono ?_; rintro e3 w3 ⟨rfl, hr3⟩))
        go_end0
        exact ⟨rfl, hr3⟩
      · go_enter Tryz.func177, Tryz.ntmps177
        go_wp2_with (first | (go_at_call 127; refine HF.mono ?_; rintro e2 w2 ⟨y, rfl, hy2, hb2⟩; have HY := (show Hid _ from hy2); obtain ⟨ty, zy, rfl⟩ := hy2.iface; clear hy2) | (go_at_call 139; refine (HG.out _ _ _ HY.out hb2).mono ?_; rintro e3 w3 ⟨rfl, hr3⟩))
        go_end0
        exact ⟨rfl, hr3⟩
  | wrong y =>
    have hy := hw y rfl
    have hyi : ¬ (y : Int) = 0 := by omega
    simp only [DoRes] at HF
    rcases HF with ⟨k, hk, rfl, HF⟩ | ⟨k, c, hk, rfl, HF⟩
    · unfold fnV at q3
      rcases hk with rfl | rfl | rfl
      · go_enter Tryz.func177, Tryz.ntmps177
        go_wp2_with (first | (go_at_call 77; refine HF.mono ?_; rintro e2 w2 ⟨rfl, hb2⟩) | (go_at_call 159; refine (HW.out _ _ hb2).mono ?_; rintro e3 w3 ⟨rfl, hr3⟩))
        go_end0
        exact ⟨rfl, hr3⟩
      · go_enter Tryz.func177, Tryz.ntmps177
        go_wp2_with (first | (go_at_call 81; refine HF.mono ?_; rintro e2 w2 ⟨rfl, hb2⟩) | (go_at_call 159; refine (HW.out _ _ hb2).mono ?_; rintro e3 w3 ⟨rfl, hr3⟩))
        go_end0
        exact ⟨rfl, hr3⟩
      · go_enter Tryz.func177, Tryz.ntmps177
        go_wp2_with (first | (go_at_call 83; refine HF.mono ?_; rintro e2 w2 ⟨rfl, hb2⟩) | (go_at_call 159; refine (HW.out _ _ hb2).mono ?_; rintro e3 w3 ⟨rfl, hr3⟩))
        go_end0
        exact ⟨rfl, hr3⟩
    · simp only [capFn, List.map_cons, List.map_nil, ptrV] at q3
      rcases hk with rfl | rfl
      · go_enter Tryz.func177, Tryz.ntmps177
        go_wp2_with (first | (go_at_call 115; refine HF.mono ?_; rintro e2 w2 ⟨rfl, hb2⟩) | (go_at_call 159; refine (HW.out _ _ hb2).mono ?_; rintro e3 w3 ⟨rfl, hr3⟩))
        go_end0
        exact ⟨rfl, hr3⟩
      · go_enter Tryz.func177, Tryz.ntmps177
        go_wp2_with (first | (go_at_call 127; refine HF.mono ?_; rintro e2 w2 ⟨rfl, hb2⟩) | (go_at_call 159; refine (HW.out _ _ hb2).mono ?_; rintro e3 w3 ⟨rfl, hr3⟩))
        go_end0
        exact ⟨rfl, hr3⟩
end Go.Proofs.YtodeeegbajgafaaGreatDoor

namespace Go.Proofs.YtodeeegbajgafaaGreatDoor
open Go.RowKit
open Mc

set_option maxHeartbeats 1000000 in
theorem takes_any (l m n : Int) (w : World) (h0 : l ≤ n) (h1 : n ≤ m) : Calls Tryz.prog 205 #[.agg #[.int .i64 l, .int .i64 m], .int .i64 n] w fun e w' => e = .returned (.bool true) ∧ Below w.heap.size w w' := by
  have hB : Below w.heap.size w (w.alloc (.cells #[.int .i64 l, .int .i64 m] 114)) := (Below.refl _ w).alloc (Nat.le_refl _) _
  go_enter Tryz.func205, Tryz.ntmps205
  go_wp2
  go_ret
  exact ⟨rfl, hB⟩

set_option maxHeartbeats 4000000 in
set_option maxRecDepth 20000 in
theorem callWith_cont (N : Nat → Prop) (g : Gh) (rb fuel : Nat) (s : St) (w : World) (h : RunAt N g rb fuel s w) (x : Value) (v : V) (hx : RepM g.mb (g.ok N) w x (.vals [v])) (b : Nat) (t : Value) (T : TypeId) (fs : List Fr) (hb : g.ok N b) (hh : w.heap[b]? = some (.cells #[.int .i64 1, .int .i64 1, t] T (0, 0))) (ht : RepM g.mb (g.ok N) w t (.todo fs)) :
    Calls Tryz.prog 171 #[ptrV rb, .iface 258 (ptrV b), x] w (RunC N g rb fuel (s.resume fuel fs v) w) := by
  obtain ⟨gx, o, cap, rfl, hn, hcap, hg, hat⟩ := hx.vals_at
  obtain ⟨y0, c0, h0⟩ := hat 0 (by simp)
  simp only [List.length_nil, Nat.add_zero, Nat.zero_add, List.getElem_cons_zero] at *
  obtain ⟨q0, q1, q2, _, _, _⟩ := cells3 hh
  have hm := meth258 b _ _ w q0 q1
  have HT := takes_any 1 1 1 w (by omega) (by omega)
  have m111 := fun w => tp_miss111 258 (.pointer (some ⟨b, 0, none⟩)) w (by decide)
  have m226 := fun w => tp_miss226 258 (.pointer (some ⟨b, 0, none⟩)) w (by decide)
  have m258 := fun w => tp_hit258 (.pointer (some ⟨b, 0, none⟩)) w
  have HR : Hid (∀ w2, Below w.heap.size w w2 → w2.cell? ⟨gx, o, none⟩ = some y0 ∧ Calls Tryz.prog 178 #[.pointer (some ⟨rb, 0, none⟩), .pointer (some ⟨b, 0, none⟩), y0] w2 (RunC N g rb fuel (s.resume fuel fs v) w)) := fun w2 hB => ⟨(Kept.of_below hB (fun _ => False)).cell id c0, (resume_any N g rb fuel s w2 (h.below hB) y0 v (h0.mono (below_rep hB)) b t T fs hb (Below.at hB hh) (ht.mono (below_rep hB))).mono fun _ _ hr => RunC.after (Kept.of_below hB _) hr.c⟩
  obtain ⟨ty, zy, rfl⟩ := h0.iface
  clear hx hat h hh ht h0
  unfold ptrV at *
  go_enter Tryz.func171, Tryz.ntmps171
  go_wp2_with (first | (go_at_call 205; refine HT.mono ?_; rintro e2 w2 ⟨rfl, hb2⟩; obtain ⟨z0, HC⟩ := HR.out _ hb2) | (go_at_call 178; refine HC.mono ?_; rintro e3 w3 ⟨rfl, hr3⟩))
  go_end0
  exact ⟨rfl, hr3⟩
end Go.Proofs.YtodeeegbajgafaaGreatDoor

namespace Go.Proofs.YtodeeegbajgafaaGreatDoor
open Go.RowKit
open Mc

set_option maxHeartbeats 4000000 in
set_option maxRecDepth 20000 in
theorem callWith_basic (N : Nat → Prop) (g : Gh) (rb fuel : Nat) (s : St) (w : World) (b : Nat) (l m : Int) (n : Nat) (nm fv : Value) (a : Option Addr) (cap : Nat) (T : TypeId) (r : Res)
    (hh : w.heap[b]? = some (.cells #[.int .i64 l, .int .i64 m, nm, fv] T (0, 0))) (hl : l ≤ n) (hm : n ≤ m)
    (HC : ∀ w2, Below w.heap.size w w2 → Calls Tryz.prog 177 #[ptrV rb, ptrV b, .slice a n cap] w2 (RunC N g rb fuel (s.res r) w2)) :
    Calls Tryz.prog 171 #[ptrV rb, .iface 111 (ptrV b), .slice a n cap] w (RunC N g rb fuel (s.res r) w) := by
  have q0 := cell_of_at hh 0
  have q1 := cell_of_at hh 1
  simp only [List.getElem?_toArray, List.getElem?_cons_zero, List.getElem?_cons_succ] at q0 q1
  have hmm := meth111 b _ _ w q0 q1
  have HT := takes_any l m n w hl hm
  have m111 := fun w => tp_hit111 (.pointer (some ⟨b, 0, none⟩)) w
  have HR : Hid (∀ w2, Below w.heap.size w w2 → Calls Tryz.prog 177 #[.pointer (some ⟨rb, 0, none⟩), .pointer (some ⟨b, 0, none⟩), .slice a n cap] w2 (RunC N g rb fuel (s.res r) w)) := fun w2 hB => (HC w2 hB).mono fun _ _ hr => RunC.after (Kept.of_below hB _) hr
  clear hh HC
  unfold ptrV at *
  go_enter Tryz.func171, Tryz.ntmps171
  go_wp2_with (first | (go_at_call 205; refine HT.mono ?_; rintro e2 w2 ⟨rfl, hb2⟩) | (go_at_call 177; refine (HR.out _ hb2).mono ?_; rintro e3 w3 ⟨rfl, hr3⟩))
  go_end0
  exact ⟨rfl, hr3⟩

set_option maxHeartbeats 4000000 in
set_option maxRecDepth 20000 in
theorem callWith_clo (N : Nat → Prop) (g : Gh) (rb fuel : Nat) (s s' : St) (w : World) (h : RunAt N g rb fuel s w) (x : Value) (vs : List V) (hx : RepM g.mb (g.ok N) w x (.vals vs)) (b : Nat) (sl at' : Value) (T : TypeId) (body : List Rd.F) (e : Env) (hb : g.ok N b)
    (hh : w.heap[b]? = some (.cells #[.int .i64 vs.length, .int .i64 vs.length, sl, at'] T (0, 0))) (h1 : RepFs (g.ok N) w sl body) (h2 : RepM g.mb (g.ok N) w at' (.env e)) (hs : s.body body (vs :: e) = some s') :
    Calls Tryz.prog 171 #[ptrV rb, .iface 226 (ptrV b), x] w (RunC N g rb fuel s' w) := by
  have q0 := cell_of_at hh 0
  have q1 := cell_of_at hh 1
  have q2 := cell_of_at hh 2
  have q3 := cell_of_at hh 3
  simp only [List.getElem?_toArray, List.getElem?_cons_zero, List.getElem?_cons_succ] at q0 q1 q2 q3
  have hmm := meth226 b _ _ w q0 q1
  have HT := takes_any vs.length vs.length vs.length w (Int.le_refl _) (Int.le_refl _)
  have m111 := fun w => tp_miss111 226 (.pointer (some ⟨b, 0, none⟩)) w (by decide)
  have m226 := fun w => tp_hit226 (.pointer (some ⟨b, 0, none⟩)) w
  have HR : Hid (∀ w2, Below w.heap.size w w2 → w2.cell? ⟨b, 2, none⟩ = some sl ∧ w2.cell? ⟨b, 3, none⟩ = some at' ∧ Calls Tryz.prog 143 #[.pointer (some ⟨rb, 0, none⟩), sl, .pointer (some ⟨w2.drew.heap.size, 0, none⟩)] (w2.drew.alloc (.cells #[x, at'] 256)) (RunC N g rb fuel s' w)) := fun w2 hB =>
    have hD : Below w.heap.size w w2.drew := hB.drew
    ⟨(Kept.of_below hB (fun _ => False)).cell id q2, (Kept.of_below hB (fun _ => False)).cell id q3, (body_scope N g rb fuel s s' w2.drew (h.below hD) sl at' x body e vs (h1.mono (below_rep hD)) (h2.mono (below_rep hD)) (hx.mono (below_rep hD)) hs).mono fun _ _ hr => RunC.after (Kept.of_below hD _) hr.c⟩
  have hmb := RM.ok h hb
  obtain ⟨p, rfl⟩ := RepM.ptr h2
  obtain ⟨xa, xc, rfl, _, _⟩ := RepM.vals_shape hx
  obtain ⟨fa, fc, rfl, _, _⟩ := RepFs.shape h1
  clear h hh h1 h2 hx hs
  unfold ptrV at *
  go_enter Tryz.func171, Tryz.ntmps171
  go_wp2_with (first | (go_at_call 205; refine HT.mono ?_; rintro e2 w2 ⟨rfl, hb2⟩; obtain ⟨z2, z3, HC⟩ := HR.out _ hb2))
  go_region_held3 (fun X => X.cell? ⟨b, 2, none⟩ = some (.slice (some fa) body.length fc) ∧ X.cell? ⟨b, 3, none⟩ = some (.pointer p)) (go_keep) (first | (go_at_call 143; refine HC.mono ?_; rintro e3 w3 ⟨rfl, g3, hn3, hr3, hk3⟩; have y2 := hk3.cell hmb q2; have y3 := hk3.cell hmb q3))
  all_goals
    go_wp2
    go_end0
    exact ⟨rfl, g3, hn3, hr3, hk3⟩
end Go.Proofs.YtodeeegbajgafaaGreatDoor

namespace Go.Proofs.YtodeeegbajgafaaGreatDoor
open Go.RowKit
open Mc

set_option maxHeartbeats 4000000 in
set_option maxRecDepth 20000 in
theorem call_to (N : Nat → Prop) (g : Gh) (rb fuel : Nat) (s' : St) (w : World) (t : TypeId) (ht : t = 111 ∨ t = 226 ∨ t = 258) (p : Value) (gx o n cap : Nat) (hc : w.cell? ⟨gx, o, none⟩ = some (.iface t p)) (hn : n + 1 ≤ cap) (hcap : cap ≤ maxLen)
    (HW : ∀ o', (¬ cap = 1 → o' = o + 1) → Calls Tryz.prog 171 #[ptrV rb, .iface t p, .slice (some ⟨gx, o', none⟩) n (cap - 1)] w (RunC N g rb fuel s' w)) :
    Calls Tryz.prog 151 #[ptrV rb, .slice (some ⟨gx, o, none⟩) (n + 1) cap] w (RunC N g rb fuel s' w) := by
  have HH := (show Hid _ from HW)
  have hm : cap ≤ 9223372036854775807 := by unfold maxLen at hcap; omega
  have t1 := fun w => tp_111 p w
  have t2 := fun w => tp_226 p w
  have t3 := fun w => tp_258 p w
  have i1 : (1 : Int) ≤ (n : Int) + 1 := by omega
  have i2 : (n : Int) + 1 ≤ (cap : Int) := by omega
  have i3 : (0 : Int) < (n : Int) + 1 := by omega
  clear HW
  unfold ptrV at *
  rcases ht with rfl | rfl | rfl
  · by_cases h1 : cap = 1
    · obtain rfl : n = 0 := by omega
      subst h1
      have H2 := HH.out o (fun e => absurd rfl e)
      have H3 := HH.out (o + 1) (fun e => absurd rfl e)
      go_enter Tryz.func151, Tryz.ntmps151
      go_wp2_with (first | (go_at_call 171; first | (refine H2.mono ?_; rintro e3 w3 ⟨rfl, hr3⟩) | (refine H3.mono ?_; rintro e3 w3 ⟨rfl, hr3⟩)))
      go_end0
      exact ⟨rfl, hr3⟩
    · have H2 := HH.out (o + 1) (fun _ => rfl)
      go_enter Tryz.func151, Tryz.ntmps151
      go_wp2_with (first | (go_at_call 171; refine H2.mono ?_; rintro e3 w3 ⟨rfl, hr3⟩))
      go_end0
      exact ⟨rfl, hr3⟩
  · by_cases h1 : cap = 1
    · obtain rfl : n = 0 := by omega
      subst h1
      have H2 := HH.out o (fun e => absurd rfl e)
      have H3 := HH.out (o + 1) (fun e => absurd rfl e)
      go_enter Tryz.func151, Tryz.ntmps151
      go_wp2_with (first | (go_at_call 171; first | (refine H2.mono ?_; rintro e3 w3 ⟨rfl, hr3⟩) | (refine H3.mono ?_; rintro e3 w3 ⟨rfl, hr3⟩)))
      go_end0
      exact ⟨rfl, hr3⟩
    · have H2 := HH.out (o + 1) (fun _ => rfl)
      go_enter Tryz.func151, Tryz.ntmps151
      go_wp2_with (first | (go_at_call 171; refine H2.mono ?_; rintro e3 w3 ⟨rfl, hr3⟩))
      go_end0
      exact ⟨rfl, hr3⟩
  · by_cases h1 : cap = 1
    · obtain rfl : n = 0 := by omega
      subst h1
      have H2 := HH.out o (fun e => absurd rfl e)
      have H3 := HH.out (o + 1) (fun e => absurd rfl e)
      go_enter Tryz.func151, Tryz.ntmps151
      go_wp2_with (first | (go_at_call 171; first | (refine H2.mono ?_; rintro e3 w3 ⟨rfl, hr3⟩) | (refine H3.mono ?_; rintro e3 w3 ⟨rfl, hr3⟩)))
      go_end0
      exact ⟨rfl, hr3⟩
    · have H2 := HH.out (o + 1) (fun _ => rfl)
      go_enter Tryz.func151, Tryz.ntmps151
      go_wp2_with (first | (go_at_call 171; refine H2.mono ?_; rintro e3 w3 ⟨rfl, hr3⟩))
      go_end0
      exact ⟨rfl, hr3⟩

/-- All but the first of the values. -/
theorem RepM.vals_tail {mb : Nat} {ok : Nat → Prop} {w : World} {x : Value} {v : V} {vs : List V} (h : RepM mb ok w x (.vals (v :: vs))) :
    ∃ g o cap y, x = .slice (some ⟨g, o, none⟩) (vs.length + 1) cap ∧ vs.length + 1 ≤ cap ∧ cap ≤ maxLen ∧ w.cell? ⟨g, o, none⟩ = some y ∧ RepM mb ok w y (.val v) ∧ ∀ o', (¬ cap = 1 → o' = o + 1) → RepM mb ok w (.slice (some ⟨g, o', none⟩) vs.length (cap - 1)) (.vals vs) := by
  cases h with
  | vals g o cap c T _ vf hg hh hn hcap hc hs =>
    simp only [List.length_cons] at hn
    refine ⟨g, o, cap, vf 0, rfl, hn, hcap, by rw [cell_of_at hh]; exact hc 0 (by simp), hs 0 (by simp), fun o' ho => ?_⟩
    refine .vals g o' (cap - 1) c T vs (fun i => vf (i + 1)) hg hh (by omega) (by omega) ?_ ?_
    · intro i hi
      rw [ho (by omega), Nat.add_assoc, Nat.add_comm 1 i]
      exact hc (i + 1) (by simpa using hi)
    · intro i hi
      exact hs (i + 1) (by simpa using hi)

theorem RepM.clo_inv {mb : Nat} {ok : Nat → Prop} {w : World} {x : Value} {k : Nat} {body : List Rd.F} {e : Env} (h : RepM mb ok w x (.val (.clo k body e))) :
    ∃ b s at' T, x = .iface 226 (ptrV b) ∧ ok b ∧ w.heap[b]? = some (.cells #[.int .i64 k, .int .i64 k, s, at'] T (0, 0)) ∧ RepFs ok w s body ∧ RepM mb ok w at' (.env e) := by
  cases h with
  | clo b k s at' T _ _ hb hh h1 h2 => exact ⟨b, s, at', T, rfl, hb, hh, h1, h2⟩
theorem RepM.cont_inv {mb : Nat} {ok : Nat → Prop} {w : World} {x : Value} {fs : List Fr} (h : RepM mb ok w x (.val (.cont fs))) :
    ∃ b t T, x = .iface 258 (ptrV b) ∧ ok b ∧ w.heap[b]? = some (.cells #[.int .i64 1, .int .i64 1, t] T (0, 0)) ∧ RepM mb ok w t (.todo fs) := by
  cases h with
  | cont b t T _ hb hh h1 => exact ⟨b, t, T, rfl, hb, hh, h1⟩

/-- As many arguments as it takes. -/
theorem basic_count {mb i : Nat} {vs : List V} {r : Res} (h : basicDo i vs = some r) (hv : vs.length ≤ maxLen) : (basicTab mb i).1 ≤ (vs.length : Int) ∧ (vs.length : Int) ≤ (basicTab mb i).2.1 := by
  unfold maxLen at hv
  have two : ∀ {a b : Int}, nums vs = some [a, b] → vs.length = 2 := fun hn => by rw [nums_two hn]; rfl
  match i with
  | 0 => simp only [basicDo] at h; split at h; (· rename_i hn; have := two hn; simp only [basicTab]; omega); cases h
  | 1 => simp only [basicDo] at h; split at h; (· rename_i hn; have := two hn; simp only [basicTab]; omega); cases h
  | 2 => simp only [basicDo] at h; split at h; (· rename_i hn; have := two hn; simp only [basicTab]; omega); cases h
  | 5 => simp only [basicDo] at h; split at h; (· rename_i hn; have := two hn; simp only [basicTab]; omega); cases h
  | 8 => simp only [basicDo] at h; split at h; (· simp [basicTab]); cases h
  | 9 => simp only [basicDo] at h; split at h; (· simp [basicTab]); (· simp [basicTab]); cases h
  | 10 => simp only [basicDo] at h; split at h; (· simp [basicTab]); cases h
  | 11 => simp only [basicTab]; omega
  | 13 => simp only [basicDo] at h; split at h; (· simp [basicTab]); (· simp [basicTab]); cases h
  | 20 => simp only [basicDo] at h; split at h; (· simp [basicTab]); cases h
  | 3 => cases h
  | 4 => cases h
  | 6 => cases h
  | 7 => cases h
  | 12 => cases h
  | 14 => cases h
  | 15 => cases h
  | 16 => cases h
  | 17 => cases h
  | 18 => cases h
  | 19 => cases h
  | n + 21 => cases h

/-- What display does, told apart. -/
def ShowC (show_ : V → Option (List UInt8)) : Prop := ∀ (N : Nat → Prop) (g : Gh) (rb fuel : Nat) (s : St) (w : World) (x : Value) (v : V) (t : List UInt8) (b : Nat) (nm fv : Value) (T : TypeId), RunAt N g rb fuel s w → RepM g.mb (g.ok N) w x (.vals [v]) → show_ v = some t → s.shown.length < 1000000 → g.ok N b →
  w.heap[b]? = some (.cells #[.int .i64 1, .int .i64 1, nm, fv] T (0, 0)) → RepM g.mb (g.ok N) w (.iface 111 (ptrV b)) (.val (.basic 20)) → Calls Tryz.prog 171 #[ptrV rb, .iface 111 (ptrV b), x] w (RunC N g rb fuel ({ s with shown := s.shown ++ [t] }.give (.atom .empty)) w)
theorem showC_none : ShowC (fun _ => none) := fun _ _ _ _ _ _ _ _ _ _ _ _ _ _ _ h => by cases h

theorem callC_any (show_ : V → Option (List UInt8)) (HS : ShowC show_) : CallC show_ := by
  intro N g rb fuel s s' w x vs h hx hc
  match vs with
  | [] => cases hc
  | v :: args =>
    obtain ⟨gx, o, cap, y, rfl, hn, hcap, hcell, hy, ht⟩ := hx.vals_tail
    match v with
    | .atom a => cases hc
    | .pair a b => cases hc
    | .basic i =>
      obtain ⟨b, nm, T, fv, rfl, hb, hh, hf⟩ := hy.basic_inv
      refine call_to N g rb fuel s' w 111 (Or.inl rfl) _ gx o args.length cap hcell hn hcap fun o' ho => ?_
      have hxt := ht o' ho
      simp only [St.call] at hc
      have hlen : args.length ≤ maxLen := by omega
      have go : ∀ r, basicDo i args = some r → (∀ u, r ≠ .shows u) → (∀ y, r = .wrong y → y ≠ 0) → Calls Tryz.prog 171 #[ptrV rb, .iface 111 (ptrV b), .slice (some ⟨gx, o', none⟩) args.length (cap - 1)] w (RunC N g rb fuel (s.res r) w) := by
        intro r hr hns hw0
        obtain ⟨c1, c2⟩ := basic_count (mb := g.mb) hr hlen
        refine callWith_basic N g rb fuel s w b _ _ args.length nm fv _ _ T r hh c1 c2 fun w2 hB => ?_
        have hst := below_rep (ok := g.ok N) hB
        refine callBasic_any N g rb fuel s w2 (h.below hB) b _ _ nm fv _ T r (Below.at hB hh) ⟨_, _, _, rfl⟩ hns hw0 ?_
        refine basic_do (fun k hk => Gh.ok_new (h.below hB).m k hk) (hxt.mono hst) hr hns ?_
        rcases hf with hf | ⟨c, y, T', e1, e2, e3, e4⟩
        · exact Or.inl hf
        · exact Or.inr ⟨c, y, T', e1, e2, e3, Below.at hB e4⟩
      split at hc
      · rename_i u hd
        cases hc
        exact go _ hd (fun _ e => by cases e) (fun _ e => by cases e)
      · rename_i u hd
        cases hc
        refine go _ hd (fun _ e => by cases e) (fun _ e => ?_)
        cases e
        match i with
        | 9 => simp only [basicDo] at hd; split at hd; (· cases hd); (· cases hd; decide); cases hd
        | 0 => simp only [basicDo] at hd; split at hd; (· rename_i a b _; cases h' : fold (fun x y => x + y) 0 [a, b] <;> rw [h'] at hd <;> cases hd); cases hd
        | 1 => simp only [basicDo] at hd; split at hd; (· rename_i a b _; cases h' : fold (fun x y => x * y) 1 [a, b] <;> rw [h'] at hd <;> cases hd); cases hd
        | 2 => simp only [basicDo] at hd; split at hd; (· rename_i a b _; cases h' : fold (fun x y => x - y) a [b] <;> rw [h'] at hd <;> cases hd); cases hd
        | 5 => simp only [basicDo] at hd; split at hd <;> cases hd
        | 8 => simp only [basicDo] at hd; split at hd <;> cases hd
        | 10 => simp only [basicDo] at hd; split at hd <;> cases hd
        | 11 => cases hd
        | 13 => simp only [basicDo] at hd; split at hd <;> cases hd
        | 20 => simp only [basicDo] at hd; split at hd <;> cases hd
        | 3 => cases hd
        | 4 => cases hd
        | 6 => cases hd
        | 7 => cases hd
        | 12 => cases hd
        | 14 => cases hd
        | 15 => cases hd
        | 16 => cases hd
        | 17 => cases hd
        | 18 => cases hd
        | 19 => cases hd
        | n + 21 => cases hd
      · rename_i u hd
        split at hc
        · rename_i t hst
          split at hc
          rotate_left
          · cases hc
          rename_i hlen2
          cases hc
          have hi : i = 20 ∧ args = [u] := by
            match i with
            | 20 => simp only [basicDo] at hd; split at hd; (· cases hd; exact ⟨rfl, rfl⟩); cases hd
            | 9 => simp only [basicDo] at hd; split at hd <;> cases hd
            | 0 => simp only [basicDo] at hd; split at hd; (· rename_i a b _; cases h' : fold (fun x y => x + y) 0 [a, b] <;> rw [h'] at hd <;> cases hd); cases hd
            | 1 => simp only [basicDo] at hd; split at hd; (· rename_i a b _; cases h' : fold (fun x y => x * y) 1 [a, b] <;> rw [h'] at hd <;> cases hd); cases hd
            | 2 => simp only [basicDo] at hd; split at hd; (· rename_i a b _; cases h' : fold (fun x y => x - y) a [b] <;> rw [h'] at hd <;> cases hd); cases hd
            | 5 => simp only [basicDo] at hd; split at hd <;> cases hd
            | 8 => simp only [basicDo] at hd; split at hd <;> cases hd
            | 10 => simp only [basicDo] at hd; split at hd <;> cases hd
            | 11 => cases hd
            | 13 => simp only [basicDo] at hd; split at hd <;> cases hd
            | 3 => cases hd
            | 4 => cases hd
            | 6 => cases hd
            | 7 => cases hd
            | 12 => cases hd
            | 14 => cases hd
            | 15 => cases hd
            | 16 => cases hd
            | 17 => cases hd
            | 18 => cases hd
            | 19 => cases hd
            | n + 21 => cases hd
          obtain ⟨rfl, rfl⟩ := hi
          exact HS N g rb fuel s w _ u t b nm fv T h hxt hst hlen2 hb hh hy
        · cases hc
      · cases hc
    | .clo k body e =>
      obtain ⟨b, sl, at', T, rfl, hb, hh, h1, h2⟩ := hy.clo_inv
      refine call_to N g rb fuel s' w 226 (Or.inr (Or.inl rfl)) _ gx o args.length cap hcell hn hcap fun o' ho => ?_
      simp only [St.call] at hc
      split at hc
      · rename_i hk
        subst hk
        exact callWith_clo N g rb fuel s s' w h _ args (ht o' ho) b sl at' T body e hb hh h1 h2 hc
      · cases hc
    | .cont todo =>
      obtain ⟨b, tv, T, rfl, hb, hh, h1⟩ := hy.cont_inv
      match args with
      | [] => cases hc
      | [u] =>
        refine call_to N g rb fuel s' w 258 (Or.inr (Or.inr rfl)) _ gx o 1 cap hcell hn hcap fun o' ho => ?_
        have hs : s' = s.resume fuel todo u := by
          simp only [St.call] at hc
          unfold St.resume
          split at hc <;> (rename_i e; rw [e]; cases hc; rfl)
        rw [hs]
        exact callWith_cont N g rb fuel s w h _ u (ht o' ho) b tv T todo hb hh h1
      | _ :: _ :: _ => cases hc
end Go.Proofs.YtodeeegbajgafaaGreatDoor
