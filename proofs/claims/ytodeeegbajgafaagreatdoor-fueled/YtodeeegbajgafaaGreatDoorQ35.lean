/- The task of forms in turn; let; with scopes that change. Written by gen_km5.py. A form is started. Written by gen_km2.py. A constant is started. Written by gen_km2.py. A procedure is made; any form is started. Written by gen_km2.py. Any task is done. Written by gen_km2.py. A form is evaluated whole. Written by gen_km2.py. -/
import Derived.Test.YtodeeegbajgafaaGreatDoorQ34
import Derived.Test.YtodeeegbajgafaaGreatDoorQ24
import Derived.Test.YtodeeegbajgafaaGreatDoorQ08
import Derived.Deep.LoopGhost
namespace Go.Proofs.YtodeeegbajgafaaGreatDoor
namespace Kc
open Go.RowKit
theorem RepM.vals_row {mb : Gt} {ok : Nat → Prop} {w : World} {x : Value} {vs : List V} (h : RepM mb ok w x (.vals vs)) :
    ∃ (a : Option Addr) (cap : Nat) (olds : List Value), x = .slice a vs.length cap ∧ vs.length ≤ cap ∧ cap ≤ maxLen ∧ (a = none → vs.length = 0 ∧ cap = 0) ∧ olds.length = vs.length ∧ (∀ b, a = some b → ∀ j u, olds[j]? = some u → w.cell? (b.add j) = some u) ∧ ∀ i (hi : i < vs.length), RepM mb ok w (olds.getD i undef) (.val vs[i]) := by
  cases h with
  | vals0 => exact ⟨none, 0, [], rfl, Nat.le_refl _, by unfold maxLen; omega, fun _ => ⟨rfl, rfl⟩, rfl, (fun b e => by cases e), fun i hi => absurd hi (Nat.not_lt_zero _)⟩
  | vals g o cap c T _ vf hg hh hn hcap hc hs =>
    refine ⟨some ⟨g, o, none⟩, cap, (List.range vs.length).map vf, rfl, hn, hcap, (fun e => by cases e), by simp, ?_, ?_⟩
    · intro b e j u hj
      cases e
      obtain ⟨h1, h2⟩ := List.getElem?_eq_some_iff.1 hj
      simp only [List.length_map, List.length_range] at h1
      simp only [List.getElem_map, List.getElem_range] at h2
      rw [Addr.add_lit, cell_of_at hh, ← h2]
      exact hc j h1
    · intro i hi
      have : ((List.range vs.length).map vf).getD i undef = vf i := by simp [hi]
      rw [this]
      exact hs i hi
/-- A row that holds values. -/
theorem own_vals {mb : Gt} {ok : Nat → Prop} {w : World} {B : Nat} {x : Value} {vs : List V} {xs : List Value} (ho : w.ownsRow B 60 1 x vs.length xs) (hB : ∀ k, B ≤ k → ok k) (hs : ∀ i (hi : i < vs.length), RepM mb ok w (xs.getD i undef) (.val vs[i])) : RepM mb ok w x (.vals vs) := by
  obtain ⟨hx, h | ⟨g, cap, cur, rfl, hg, hh, hn, hcap, hcs, htk⟩⟩ := ho
  · obtain ⟨rfl, h0⟩ := h
    have : vs = [] := List.length_eq_zero_iff.1 h0
    subst this
    exact .vals0
  · refine .vals g 0 cap cur 60 vs (fun i => xs.getD i undef) (hB g hg) hh hn hcap ?_ hs
    intro i hi
    have h1 : (cur.toList.take (vs.length * 1))[i]? = xs[i]? := by rw [htk]
    rw [List.getElem?_take, if_pos (by omega)] at h1
    rw [Nat.zero_add, ← Array.getElem?_toList, h1, List.getD_eq_getElem?_getD, List.getElem?_eq_getElem (by omega)]
    rfl
/-- A row of values as it is handed on. -/
theorem own_hand {N : Nat → Prop} {g : Gh} {ga : Nat} {w : World} {B : Nat} {x : Value} {vs : List V} {xs : List Value} (ho : w.ownsRow B 60 1 x vs.length xs) (hga : ∀ k, x.ownBlock = some k → k = ga ∧ ¬ N k) (hs : ∀ i (hi : i < vs.length), RepM g.tb (g.ok (NX N ga)) w (xs.getD i undef) (.val vs[i])) : HandAt N g ga w x vs := by
  obtain ⟨hx, h | ⟨gb, cap, cur, rfl, hg, hh, hn, hcap, hcs, htk⟩⟩ := ho
  · obtain ⟨rfl, h0⟩ := h
    have : vs = [] := List.length_eq_zero_iff.1 h0
    subst this
    exact ⟨.inl ⟨rfl, rfl⟩, fun k hk => by cases hk⟩
  · refine ⟨.inr ⟨gb, 0, cap, cur, 60, fun i => xs.getD i undef, rfl, hh, hn, hcap, ?_, hs⟩, fun k hk => hga k (by cases hk; rfl)⟩
    intro i hi
    have h1 : (cur.toList.take (vs.length * 1))[i]? = xs[i]? := by rw [htk]
    rw [List.getElem?_take, if_pos (by omega)] at h1
    rw [Nat.zero_add, ← Array.getElem?_toList, h1]
    show xs[i]? = some (xs.getD i undef)
    rw [List.getD_eq_getElem?_getD, List.getElem?_eq_getElem (by omega)]
    rfl
theorem RepM.each_inv {mb : Gt} {ok : Nat → Prop} {w : World} {x : Value} {fs : List Rd.F} {en : Env} {vals : List V} {hd : Hd} (h : RepM mb ok w x (.fr (.each fs en vals hd))) :
    ∃ b1 b2 b3 b4 s at' vs d T1 T2 T3 T4, x = capFn 169 [b1, b2, b3, b4] ∧ vals.length + fs.length ≤ 100000 ∧ ok b1 ∧ ok b2 ∧ ok b3 ∧ ok b4 ∧ w.heap[b1]? = some (.cells #[s] T1 (0, 0)) ∧ w.heap[b2]? = some (.cells #[at'] T2 (0, 0)) ∧ w.heap[b3]? = some (.cells #[vs] T3 (0, 0)) ∧ w.heap[b4]? = some (.cells #[d] T4 (0, 0)) ∧
      RepFs ok w s fs ∧ RepM mb ok w at' (.env en) ∧ RepM mb ok w vs (.vals vals) ∧ RepM mb ok w d (.hd hd) := by
  cases h with
  | each b1 b2 b3 b4 s at' vs d T1 T2 T3 T4 _ _ _ _ hb k1 k2 k3 k4 hh1 hh2 hh3 hh4 h1 h2 h3 h4 => exact ⟨b1, b2, b3, b4, s, at', vs, d, T1, T2, T3, T4, rfl, hb, k1, k2, k3, k4, hh1, hh2, hh3, hh4, h1, h2, h3, h4⟩
set_option maxHeartbeats 2000000 in
theorem runLet_any (HC : CallC) (N : Nat → Prop) (g : Gh) (rb fuel : Nat) (s s' : St) (w : World) (h : RunAt N g rb fuel s w) (y sl a : Value) (vs fs : List Rd.F) (e : Env)
    (hy : RepFs (g.ok N) w y vs) (hs : RepFs (g.ok N) w sl fs) (ha : RepM g.tb (g.ok N) w a (.env e)) (hfit : Fit s []) (hx : s.each fuel vs e [] (.lett fs e) = some s') :
    Calls Tryz.prog 144 #[ptrV rb, .agg #[y, sl], a] w (RunC N g rb fuel s' w) := by
  have hmf : ∀ fn first cap w, (Instr.makeFunc fn first cap).run Tryz.prog w = .ok (.func fn first cap) w := fun _ _ _ _ => rfl
  obtain ⟨p, rfl⟩ := RepM.ptr ha
  obtain ⟨ya, yc, rfl, hyn, hyc⟩ := RepFs.shape hy
  obtain ⟨fa, fc, rfl, _, _⟩ := RepFs.shape hs
  have hB : Below w.heap.size w ((w.alloc (.cells #[.slice (some ya) vs.length yc, .slice (some fa) fs.length fc] 175)).alloc (.cells #[.pointer p] 99)) := ((Below.refl _ w).alloc (Nat.le_refl _) _).alloc (by simp) _
  have b1 : ((w.alloc (.cells #[.slice (some ya) vs.length yc, .slice (some fa) fs.length fc] 175)).alloc (.cells #[.pointer p] 99)).heap[w.heap.size]? = some (.cells #[.slice (some ya) vs.length yc, .slice (some fa) fs.length fc] 175 (0, 0)) := at_alloc (at_new w _) _
  have b2 : ((w.alloc (.cells #[.slice (some ya) vs.length yc, .slice (some fa) fs.length fc] 175)).alloc (.cells #[.pointer p] 99)).heap[w.heap.size + 1]? = some (.cells #[.pointer p] 99 (0, 0)) := by simpa using at_new (w.alloc (.cells #[.slice (some ya) vs.length yc, .slice (some fa) fs.length fc] 175)) (.cells #[.pointer p] 99)
  have HW : Hid (((w.alloc (.cells #[.slice (some ya) vs.length yc, .slice (some fa) fs.length fc] 175)).alloc (.cells #[.pointer p] 99)) = ((w.alloc (.cells #[.slice (some ya) vs.length yc, .slice (some fa) fs.length fc] 175)).alloc (.cells #[.pointer p] 99))) := rfl
  have h1 := h.below hB
  have hst : ∀ k, k < w.heap.size → g.ok N k → g.ok N k ∧ ((w.alloc (.cells #[.slice (some ya) vs.length yc, .slice (some fa) fs.length fc] 175)).alloc (.cells #[.pointer p] 99)).heap[k]? = w.heap[k]? := fun k hk ho => ⟨ho, hB.block k hk⟩
  have hnew := Gh.ok_new h.m
  have hdd : RepM g.tb (g.ok N) ((w.alloc (.cells #[.slice (some ya) vs.length yc, .slice (some fa) fs.length fc] 175)).alloc (.cells #[.pointer p] 99)) (capFn 163 [w.heap.size, w.heap.size + 1]) (.hd (.lett fs e)) := .lett _ _ _ _ _ 175 99 fs e (hnew _ (Nat.le_refl _)) (hnew _ (by omega)) b1 b2 (hs.mono hst) (ha.mono hst)
  have HE : Calls Tryz.prog 150 #[ptrV rb, .slice (some ya) vs.length yc, .pointer p, .slice none 0 0, capFn 163 [w.heap.size, w.heap.size + 1]] ((w.alloc (.cells #[.slice (some ya) vs.length yc, .slice (some fa) fs.length fc] 175)).alloc (.cells #[.pointer p] 99)) (RunC N g rb fuel s' ((w.alloc (.cells #[.slice (some ya) vs.length yc, .slice (some fa) fs.length fc] 175)).alloc (.cells #[.pointer p] 99))) := by
    cases vs with
    | nil =>
      have hx' : s.handOn fuel [] (.lett fs e) = some s' := hx
      have hNN : ∀ k, NX N rb k → N k := fun k hk => by
        rcases hk with hk | hk
        · exact hk
        · exact hk ▸ h.inN
      have hok : ∀ k, g.ok N k → g.ok (NX N rb) k := fun k ho => ⟨fun e => ho.1 (hNN k e), ho.2⟩
      exact each_end HC N g rb fuel s s' _ _ rb (Kept.refl _ _) h.inN (h1.less hNN (Or.inr rfl)) _ _ _ _ e [] (.lett fs e) (hy.mono fun k hk ho => ⟨hok k ho, (hst k hk ho).2⟩) (ha.mono fun k hk ho => ⟨hok k ho, (hst k hk ho).2⟩) (fun k hk => by cases hk) ⟨.inl ⟨rfl, rfl⟩, fun k hk => by cases hk⟩ hfit (hdd.mono fun k _ ho => ⟨hok k ho, rfl⟩) hx'
    | cons f vs =>
      have hx' : some ((s.push (.each (f :: vs) e [] (.lett fs e))).eval f e) = some s' := hx
      cases hx'
      exact each_more N g rb fuel s _ h1 _ _ _ _ f vs e [] (.lett fs e) (hy.mono hst) (ha.mono hst) .vals0 hdd (by simp only [List.length_nil, List.length_cons] at *; omega)
  obtain ⟨q0, q1, _, _⟩ := cells2 b1
  obtain ⟨q2, _⟩ := cells1 b2
  have hKW := Kept.of_below hB (RM g rb)
  clear h h1 hy hs ha hx hdd hfit b1 b2 hst hnew hB HW
  simp only [capFn, List.map_cons, List.map_nil, ptrV] at HE ⊢
  go_enter Tryz.func144, Tryz.ntmps144
  go_wp2_with (first | (go_at_call 150; refine HE.mono ?_; rintro e6 w3 ⟨rfl, hr3⟩))
  go_end0
  exact RunC.after hKW ⟨rfl, hr3⟩
set_option maxHeartbeats 4000000 in
set_option maxRecDepth 10000 in
theorem goEach (HC : CallC) (N : Nat → Prop) (g : Gh) (rb fuel : Nat) (s s' : St) (w : World) (h : RunAt N g rb fuel s w) (x : Value) (v : V) (hv : RepM g.tb (g.ok N) w x (.val v)) (b1 b2 b3 b4 : Nat) (sl a xs d : Value) (T1 T2 T3 T4 : TypeId) (f : Rd.F) (fs : List Rd.F) (e : Env) (vals : List V) (hd : Hd)
    (hlen : vals.length + (f :: fs).length ≤ 100000) (k1 : g.ok N b1) (k2 : g.ok N b2) (k3 : g.ok N b3) (k4 : g.ok N b4) (hb1 : w.heap[b1]? = some (.cells #[sl] T1 (0, 0))) (hb2 : w.heap[b2]? = some (.cells #[a] T2 (0, 0))) (hb3 : w.heap[b3]? = some (.cells #[xs] T3 (0, 0))) (hb4 : w.heap[b4]? = some (.cells #[d] T4 (0, 0)))
    (h1 : RepFs (g.ok N) w sl (f :: fs)) (ha : RepM g.tb (g.ok N) w a (.env e)) (hxs : RepM g.tb (g.ok N) w xs (.vals vals)) (hdd : RepM g.tb (g.ok N) w d (.hd hd)) (hfit : Fit s (vals ++ [v])) (hx : s.each fuel fs e (vals ++ [v]) hd = some s') :
    Calls Tryz.prog 169 #[ptrV rb, x, ptrV b1, ptrV b2, ptrV b3, ptrV b4] w (RunC N g rb fuel s' w) := by
  obtain ⟨i0, hi, hz0, hz1, hz2⟩ := info_parts Tryz.info60
  obtain ⟨p, rfl⟩ := RepM.ptr ha
  obtain ⟨tv, xv, rfl⟩ := RepM.iface hv
  obtain ⟨df, dc, rfl⟩ := hdd.hd_func
  obtain ⟨g0, o, cap, v0, rfl, hn, hcap, hg0, c0, hv0⟩ := RepFs.first h1
  obtain ⟨xa, xc, olds, rfl, hxn, hxc, hxnone, holen, holds, hols⟩ := hxs.vals_row
  simp only [List.length_cons] at hlen
  have ht : ∃ o', RepFs (g.ok N) w (.slice (some ⟨g0, o', none⟩) fs.length (cap - 1)) fs ∧ (¬ cap = 1 → o' = o + 1) := by
    by_cases hc : cap = 1
    · have : fs = [] := List.length_eq_zero_iff.1 (by omega)
      subst this
      exact ⟨o, RepFs.tail1 h1, fun e => absurd hc e⟩
    · exact ⟨o + 1, RepFs.tail h1, fun _ => rfl⟩
  have hB : Below w.heap.size w (w.drew.alloc (.cells #[.iface tv xv] 60)) := (Below.refl _ w).drew.alloc (Nat.le_refl _) _
  have hEach : ∀ v' w2 o', RepFs (g.ok N) w (.slice (some ⟨g0, o', none⟩) fs.length (cap - 1)) fs → w2.ownsRow (w.drew.alloc (.cells #[.iface tv xv] 60)).heap.size 60 1 v' (vals.length + 1) (olds ++ [.iface tv xv]) → (w.drew.alloc (.cells #[.iface tv xv] 60)).grownBy w2 none →
      Calls Tryz.prog 150 #[.pointer (some ⟨rb, 0, none⟩), .slice (some ⟨g0, o', none⟩) fs.length (cap - 1), .pointer p, v', .func df #[] dc] w2 (RunC N g rb fuel s' w) := by
    intro v' w2 o' hfs hown hgr
    have hB2 : Below w.heap.size w w2 := hB.grown hgr (by simp) (fun k e => by cases e)
    have hr2 := h.below hB2
    have hst : ∀ k, k < w.heap.size → g.ok N k → g.ok N k ∧ w2.heap[k]? = w.heap[k]? := fun k hk ho => ⟨ho, hB2.block k hk⟩
    have hvx : ∀ (ok' : Nat → Prop), (∀ k, k < w.heap.size → g.ok N k → ok' k) → ∀ i (hi : i < (vals ++ [v]).length), RepM g.tb ok' w2 ((olds ++ [Value.iface tv xv]).getD i undef) (.val (vals ++ [v])[i]) := by
      intro ok' hok' i hi
      have hst' : ∀ k, k < w.heap.size → g.ok N k → ok' k ∧ w2.heap[k]? = w.heap[k]? := fun k hk ho => ⟨hok' k hk ho, hB2.block k hk⟩
      simp only [List.length_append, List.length_cons, List.length_nil] at hi
      by_cases hlt : i < vals.length
      · have e1 : (olds ++ [Value.iface tv xv]).getD i undef = olds.getD i undef := by
          simp only [List.getD_eq_getElem?_getD]
          rw [List.getElem?_append_left (by omega)]
        rw [e1, List.getElem_append_left hlt]
        exact (hols i hlt).mono hst'
      · have : i = vals.length := by omega
        subst this
        have e1 : (olds ++ [Value.iface tv xv]).getD vals.length undef = .iface tv xv := by
          simp only [List.getD_eq_getElem?_getD, ← holen]
          simp
        rw [e1]
        simpa using hv.mono hst'
    cases fs with
    | nil =>
      have hx' : s.handOn fuel (vals ++ [v]) hd = some s' := hx
      have hown' : w2.ownsRow (w.drew.alloc (.cells #[.iface tv xv] 60)).heap.size 60 1 v' (vals ++ [v]).length (olds ++ [.iface tv xv]) := by simpa using hown
      obtain ⟨gb, hgb, hgl, hgs⟩ : ∃ gb, v'.ownBlock = some gb ∧ w.heap.size ≤ gb ∧ gb < w2.heap.size := by
        obtain ⟨_, ⟨_, h0⟩ | ⟨gb, cap, cur, hv', hg, hh, _⟩⟩ := hown
        · omega
        · refine ⟨gb, by rw [hv']; rfl, ?_, lt_of_at hh⟩
          have : w.heap.size + 1 ≤ gb := by simpa using hg
          omega
      have hsb : ∀ k, slotBlk v' = some k → k = gb := by
        obtain ⟨_, ⟨_, h0⟩ | ⟨gb', cap, cur, hv', hg, hh, _⟩⟩ := hown
        · omega
        · subst hv'
          intro k hk
          cases hk
          cases hgb
          rfl
      have hok : ∀ k, k < w.heap.size → g.ok N k → g.ok (NX N gb) k := fun k hk ho => ⟨fun e => by rcases e with e | e; exact ho.1 e; omega, ho.2⟩
      have hst' : ∀ k, k < w.heap.size → g.ok N k → g.ok (NX N gb) k ∧ w2.heap[k]? = w.heap[k]? := fun k hk ho => ⟨hok k hk ho, hB2.block k hk⟩
      have hhand : HandAt N g gb w2 v' (vals ++ [v]) := own_hand hown' (fun k hk => by rw [hgb] at hk; cases hk; exact ⟨rfl, fun e => by have := h.m.low _ e; omega⟩) (hvx _ hok)
      exact each_end HC N g rb fuel s s' w w2 gb (Kept.of_below hB2 _) h.inN (h.fence hB2 hgl hgs) _ _ _ _ e (vals ++ [v]) hd (hfs.mono hst') (ha.mono hst') (fun k hk => by rw [hsb k hk]; exact hgl) hhand hfit (hdd.mono hst') hx'
    | cons f2 fs =>
      have hx' : some ((s.push (.each (f2 :: fs) e (vals ++ [v]) hd)).eval f2 e) = some s' := hx
      cases hx'
      have hvals : RepM g.tb (g.ok N) w2 v' (.vals (vals ++ [v])) := own_vals (B := (w.drew.alloc (.cells #[.iface tv xv] 60)).heap.size) (xs := olds ++ [.iface tv xv]) (by simpa using hown) (fun k hk => Gh.ok_new h.m k (by simp at hk; omega)) (hvx _ fun k _ ho => ho)
      refine (each_more N g rb fuel s w2 hr2 _ _ _ _ f2 fs e (vals ++ [v]) hd (hfs.mono hst) (ha.mono hst) hvals (hdd.mono hst) (by simp only [List.length_append, List.length_cons, List.length_nil] at *; omega)).mono ?_
      intro r w3 hR
      exact RunC.after (Kept.of_below hB2 _) hR
  have HE := (show Hid _ from hEach)
  have hm1 := RM.ok h k1
  have hm2 := RM.ok h k2
  have hm3 := RM.ok h k3
  have hm4 := RM.ok h k4
  have hcl := fun W => clip_any xa vals.length xc W hxn
  have HL := (show Hid _ from hcl)
  obtain ⟨q1, _⟩ := cells1 hb1
  obtain ⟨q2, _⟩ := cells1 hb2
  obtain ⟨q3, _⟩ := cells1 hb3
  obtain ⟨q4, _⟩ := cells1 hb4
  have hl1 := lt_of_at hb1
  have hl2 := lt_of_at hb2
  have hl3 := lt_of_at hb3
  have hl4 := lt_of_at hb4
  have i2 : (1 : Int) ≤ (fs.length : Int) + 1 := by omega
  have i3 : (fs.length : Int) + 1 ≤ (cap : Int) := by omega
  have hcells : ∀ w2, (w.drew.alloc (.cells #[.iface tv xv] 60)).grownBy w2 none → w2.cell? ⟨b1, 0, none⟩ = some (.slice (some ⟨g0, o, none⟩) (fs.length + 1) cap) ∧ w2.cell? ⟨b2, 0, none⟩ = some (.pointer p) ∧ w2.cell? ⟨b3, 0, none⟩ = some (.slice xa vals.length xc) ∧ w2.cell? ⟨b4, 0, none⟩ = some (.func df #[] dc) := by
    intro w2 hgr
    have hB2 : Below w.heap.size w w2 := hB.grown hgr (by simp) (fun k e => by cases e)
    have hk := Kept.of_below hB2 (fun _ => False)
    exact ⟨hk.cell id q1, hk.cell id q2, hk.cell id q3, hk.cell id q4⟩
  have HCL := (show Hid _ from hcells)
  have hold2 : ∀ b, xa = some b → ∀ j u, olds[j]? = some u → (w.drew.alloc (.cells #[.iface tv xv] 60)).cell? (b.add j) = some u := by
    intro b e j u hj
    have h0 := holds b e j u hj
    have hlt : (b.add j).block < w.heap.size := by
      by_cases hl : (b.add j).block < w.heap.size
      · exact hl
      · simp [World.cell?, Array.getElem?_eq_none (show w.heap.size ≤ (b.add j).block by omega)] at h0
    rw [← h0]
    exact World.cell?_of_block (hB.block _ hlt)
  have ht1 : cap = 1 → ∀ o'', RepFs (g.ok N) w (.slice (some ⟨g0, o'', none⟩) 0 0) [] := fun hc o'' => by
    have h0 : fs = [] := List.length_eq_zero_iff.1 (by omega)
    subst h0
    subst hc
    exact RepFs.tail1 h1
  obtain ⟨o', hfs, ho'⟩ := ht
  clear h h1 ha hv hxs hdd hx hfit hb1 hb2 hb3 hb4 hEach hcl hcells hols hv0 holds
  by_cases hc : cap = 1
  · subst hc
    have hf0 : fs = [] := List.length_eq_zero_iff.1 (by omega)
    subst hf0
    have hfs1 := ht1 rfl
    simp only [List.length_nil, Nat.zero_add, Nat.sub_self] at HE q1 HCL
    clear i2 i3 hfs ho'
    unfold ptrV
    go_enter Tryz.func169, Tryz.ntmps169
    go_wp2
    go_region_held3 (fun X => X.cell? ⟨b1, 0, none⟩ = some (.slice (some ⟨g0, o, none⟩) 1 1) ∧ X.cell? ⟨b2, 0, none⟩ = some (.pointer p) ∧ X.cell? ⟨b3, 0, none⟩ = some (.slice xa vals.length xc) ∧ X.cell? ⟨b4, 0, none⟩ = some (.func df #[] dc)) (go_keep) (first | (go_at_call 170; refine (HL.out _).mono ?_; rintro e1 w1 ⟨rfl, rfl⟩) | (refine step_append_grows rfl (.tmp 13) (.tmp 15) 85 rfl 60 i0 .nilIface 1 16 Tryz.underlying85 hi hz0 hz1 hz2 rfl (by decide) xa vals.length vals.length olds (by simp [Act.eval]) (fun e => ⟨(hxnone e).1, (hxnone e).1⟩) (by omega) hold2 ⟨w.heap.size, 0, none⟩ 1 1 [.iface tv xv] (by simp [Act.eval]) rfl (by first | exact cell_one_new _ _ _ | skip) (by intro u hu; simp at hu; subst hu; rfl) (by omega) (by unfold maxLen; omega) (by omega) ?_; intro v' w2 hown hgr; obtain ⟨z1, z2, z3, z4⟩ := HCL.out _ hgr) | (go_at_call 150; refine (HE.out _ _ _ (hfs1 _) hown hgr).mono ?_; rintro e3 w3 ⟨rfl, g', hn', hr3, hk3⟩; have y1 := hk3.cell hm1 q1; have y2 := hk3.cell hm2 q2; have y3 := hk3.cell hm3 q3; have y4 := hk3.cell hm4 q4))
    all_goals
      go_wp2
      go_end0
      exact ⟨rfl, g', hn', hr3, hk3⟩
  · obtain rfl := ho' hc
    unfold ptrV
    go_enter Tryz.func169, Tryz.ntmps169
    go_wp2
    go_region_held3 (fun X => X.cell? ⟨b1, 0, none⟩ = some (.slice (some ⟨g0, o, none⟩) (fs.length + 1) cap) ∧ X.cell? ⟨b2, 0, none⟩ = some (.pointer p) ∧ X.cell? ⟨b3, 0, none⟩ = some (.slice xa vals.length xc) ∧ X.cell? ⟨b4, 0, none⟩ = some (.func df #[] dc)) (go_keep) (first | (go_at_call 170; refine (HL.out _).mono ?_; rintro e1 w1 ⟨rfl, rfl⟩) | (refine step_append_grows rfl (.tmp 13) (.tmp 15) 85 rfl 60 i0 .nilIface 1 16 Tryz.underlying85 hi hz0 hz1 hz2 rfl (by decide) xa vals.length vals.length olds (by simp [Act.eval]) (fun e => ⟨(hxnone e).1, (hxnone e).1⟩) (by omega) hold2 ⟨w.heap.size, 0, none⟩ 1 1 [.iface tv xv] (by simp [Act.eval]) rfl (by first | exact cell_one_new _ _ _ | skip) (by intro u hu; simp at hu; subst hu; rfl) (by omega) (by unfold maxLen; omega) (by omega) ?_; intro v' w2 hown hgr; obtain ⟨z1, z2, z3, z4⟩ := HCL.out _ hgr) | (go_at_call 150; refine (HE.out _ _ _ hfs hown hgr).mono ?_; rintro e3 w3 ⟨rfl, g', hn', hr3, hk3⟩; have y1 := hk3.cell hm1 q1; have y2 := hk3.cell hm2 q2; have y3 := hk3.cell hm3 q3; have y4 := hk3.cell hm4 q4))
    all_goals
      go_wp2
      go_end0
      exact ⟨rfl, g', hn', hr3, hk3⟩
end Kc
end Go.Proofs.YtodeeegbajgafaaGreatDoor

namespace Go.Proofs.YtodeeegbajgafaaGreatDoor
namespace Kc
open Go.RowKit
set_option maxHeartbeats 4000000 in
set_option maxRecDepth 10000 in
theorem start_global (n : Rd.Sym) (v : V) (N : Nat → Prop) (g : Gh) (rb fuel : Nat) (s s' : St) (w : World) (h : RunAt N g rb fuel s w) (a : Value) (e : Env) (ha : RepM g.tb (g.ok N) w a (.env e)) (hf : find? n s.G = some v) (hx : some (s.give v) = some s') :
    Calls Tryz.prog 112 #[ptrV rb, .iface 178 (.agg #[symV n, .bool false, .int .i64 0, .int .i64 0]), a] w (RunC N g rb fuel s' w) := by
  obtain ⟨p, rfl⟩ := RepM.ptr ha
  cases hx
  have hB : Below w.heap.size w (w.alloc (.cells #[symV n, .bool false, .int .i64 0, .int .i64 0] 178)) := (Below.refl _ w).alloc (Nat.le_refl _) _
  have hKW := Kept.of_below hB (RM g rb)
  have h1 := h.below hB
  have hst : ∀ k, k < w.heap.size → g.ok N k → g.ok N k ∧ (w.alloc (.cells #[symV n, .bool false, .int .i64 0, .int .i64 0] 178)).heap[k]? = w.heap[k]? := fun k hk ho => ⟨ho, hB.block k hk⟩
  have ha1 := ha.mono hst
  have HX := look_global N g rb fuel s _ h1 n _ e v ha1 hf
  have m163 := fun w => tf_miss163 178 (.agg #[symV n, .bool false, .int .i64 0, .int .i64 0]) w (by decide)
  have m178 := fun w => tf_hit178 (.agg #[symV n, .bool false, .int .i64 0, .int .i64 0]) w
  clear h h1 ha ha1 hst hB hf
  unfold nmV symV ptrV at *
  go_enter Tryz.func112, Tryz.ntmps112
  go_wp2_with (first | (go_at_call 140; refine HX.mono ?_; rintro e6 w3 ⟨rfl, hr3⟩))
  go_end0
  exact RunC.after hKW (RunK.c ⟨rfl, hr3⟩)
set_option maxHeartbeats 4000000 in
set_option maxRecDepth 10000 in
theorem start_local (n : Rd.Sym) (v : V) (up slot : Nat) (N : Nat → Prop) (g : Gh) (rb fuel : Nat) (s s' : St) (w : World) (h : RunAt N g rb fuel s w) (a : Value) (e : Env) (ha : RepM g.tb (g.ok N) w a (.env e)) (hl : look s.sc e up slot = some v) (hx : some (s.give v) = some s') :
    Calls Tryz.prog 112 #[ptrV rb, .iface 178 (.agg #[symV n, .bool true, .int .i64 up, .int .i64 slot]), a] w (RunC N g rb fuel s' w) := by
  obtain ⟨p, rfl⟩ := RepM.ptr ha
  cases hx
  have hB : Below w.heap.size w (w.alloc (.cells #[symV n, .bool true, .int .i64 up, .int .i64 slot] 178)) := (Below.refl _ w).alloc (Nat.le_refl _) _
  have hKW := Kept.of_below hB (RM g rb)
  have h1 := h.below hB
  have hst : ∀ k, k < w.heap.size → g.ok N k → g.ok N k ∧ (w.alloc (.cells #[symV n, .bool true, .int .i64 up, .int .i64 slot] 178)).heap[k]? = w.heap[k]? := fun k hk ho => ⟨ho, hB.block k hk⟩
  have ha1 := ha.mono hst
  have HX := look_local N g rb fuel s _ h1 n up slot _ e v ha1 hl
  have m163 := fun w => tf_miss163 178 (.agg #[symV n, .bool true, .int .i64 up, .int .i64 slot]) w (by decide)
  have m178 := fun w => tf_hit178 (.agg #[symV n, .bool true, .int .i64 up, .int .i64 slot]) w
  clear h h1 ha ha1 hst hB hl
  unfold lcV symV ptrV at *
  go_enter Tryz.func112, Tryz.ntmps112
  go_wp2_with (first | (go_at_call 140; refine HX.mono ?_; rintro e6 w3 ⟨rfl, hr3⟩))
  go_end0
  exact RunC.after hKW (RunK.c ⟨rfl, hr3⟩)
set_option maxHeartbeats 4000000 in
set_option maxRecDepth 10000 in
theorem start_ite (vt va ve : Value) (t x y : Rd.F) (N : Nat → Prop) (g : Gh) (rb fuel : Nat) (s s' : St) (w : World) (h : RunAt N g rb fuel s w) (a : Value) (e : Env) (ha : RepM g.tb (g.ok N) w a (.env e)) (h2 : RepF (g.ok N) w vt t) (h3 : RepF (g.ok N) w va x) (h4 : RepF (g.ok N) w ve y) (hx : some ((s.push (.choose x (some y) e)).eval t e) = some s') :
    Calls Tryz.prog 112 #[ptrV rb, .iface 166 (.agg #[vt, va, ve]), a] w (RunC N g rb fuel s' w) := by
  obtain ⟨p, rfl⟩ := RepM.ptr ha
  cases hx
  obtain ⟨t1, x1, rfl⟩ := RepF.iface h2
  obtain ⟨t2, x2, rfl⟩ := RepF.iface h3
  obtain ⟨t3, x3, rfl⟩ := RepF.iface h4
  have hB : Below w.heap.size w (w.alloc (.cells #[.iface t1 x1, .iface t2 x2, .iface t3 x3] 166)) := (Below.refl _ w).alloc (Nat.le_refl _) _
  have hKW := Kept.of_below hB (RM g rb)
  have h1 := h.below hB
  have hst : ∀ k, k < w.heap.size → g.ok N k → g.ok N k ∧ (w.alloc (.cells #[.iface t1 x1, .iface t2 x2, .iface t3 x3] 166)).heap[k]? = w.heap[k]? := fun k hk ho => ⟨ho, hB.block k hk⟩
  have ha1 := ha.mono hst
  have HX := choose_any N g rb fuel s _ h1 _ _ _ _ t x y e (h2.mono hst) (h3.mono hst) (h4.mono hst) ha1
  have m163 := fun w => tf_miss163 166 (.agg #[.iface t1 x1, .iface t2 x2, .iface t3 x3]) w (by decide)
  have m178 := fun w => tf_miss178 166 (.agg #[.iface t1 x1, .iface t2 x2, .iface t3 x3]) w (by decide)
  have m166 := fun w => tf_hit166 (.agg #[.iface t1 x1, .iface t2 x2, .iface t3 x3]) w
  clear h h1 ha ha1 hst hB h2 h3 h4
  unfold ptrV at *
  go_enter Tryz.func112, Tryz.ntmps112
  go_wp2_with (first | (go_at_call 141; refine HX.mono ?_; rintro e6 w3 ⟨rfl, hr3⟩))
  go_end0
  exact RunC.after hKW (RunK.c ⟨rfl, hr3⟩)
set_option maxHeartbeats 4000000 in
set_option maxRecDepth 10000 in
theorem start_begin (sl : Value) (fs : List Rd.F) (N : Nat → Prop) (g : Gh) (rb fuel : Nat) (s s' : St) (w : World) (h : RunAt N g rb fuel s w) (a : Value) (e : Env) (ha : RepM g.tb (g.ok N) w a (.env e)) (hs : RepFs (g.ok N) w sl fs) (hx : s.body fs e = some s') :
    Calls Tryz.prog 112 #[ptrV rb, .iface 169 (.agg #[sl]), a] w (RunC N g rb fuel s' w) := by
  obtain ⟨p, rfl⟩ := RepM.ptr ha
  obtain ⟨fa, fc, rfl, _, _⟩ := RepFs.shape hs
  have hB : Below w.heap.size w (w.alloc (.cells #[.slice (some fa) fs.length fc] 169)) := (Below.refl _ w).alloc (Nat.le_refl _) _
  have hKW := Kept.of_below hB (RM g rb)
  have h1 := h.below hB
  have hst : ∀ k, k < w.heap.size → g.ok N k → g.ok N k ∧ (w.alloc (.cells #[.slice (some fa) fs.length fc] 169)).heap[k]? = w.heap[k]? := fun k hk ho => ⟨ho, hB.block k hk⟩
  have ha1 := ha.mono hst
  have HX := body_any N g rb fuel s s' _ h1 _ _ fs e (hs.mono hst) ha1 hx
  have m163 := fun w => tf_miss163 169 (.agg #[.slice (some fa) fs.length fc]) w (by decide)
  have m178 := fun w => tf_miss178 169 (.agg #[.slice (some fa) fs.length fc]) w (by decide)
  have m166 := fun w => tf_miss166 169 (.agg #[.slice (some fa) fs.length fc]) w (by decide)
  have m214 := fun w => tf_miss214 169 (.agg #[.slice (some fa) fs.length fc]) w (by decide)
  have m169 := fun w => tf_hit169 (.agg #[.slice (some fa) fs.length fc]) w
  clear h h1 ha ha1 hst hB hs hx
  unfold ptrV at *
  go_enter Tryz.func112, Tryz.ntmps112
  go_wp2_with (first | (go_at_call 143; refine HX.mono ?_; rintro e6 w3 ⟨rfl, hr3⟩))
  go_end0
  exact RunC.after hKW (RunK.c ⟨rfl, hr3⟩)
set_option maxHeartbeats 4000000 in
set_option maxRecDepth 10000 in
theorem start_reset (sl : Value) (fs : List Rd.F) (N : Nat → Prop) (g : Gh) (rb fuel : Nat) (s s' : St) (w : World) (h : RunAt N g rb fuel s w) (a : Value) (e : Env) (ha : RepM g.tb (g.ok N) w a (.env e)) (hs : RepFs (g.ok N) w sl fs) (hx : ({ s with beyond := s.todo :: s.beyond, todo := [] } : St).body fs e = some s') :
    Calls Tryz.prog 112 #[ptrV rb, .iface 183 (.agg #[sl]), a] w (RunC N g rb fuel s' w) := by
  obtain ⟨p, rfl⟩ := RepM.ptr ha
  obtain ⟨fa, fc, rfl, _, _⟩ := RepFs.shape hs
  have hB : Below w.heap.size w (w.alloc (.cells #[.slice (some fa) fs.length fc] 183)) := (Below.refl _ w).alloc (Nat.le_refl _) _
  have hKW := Kept.of_below hB (RM g rb)
  have h1 := h.below hB
  have hst : ∀ k, k < w.heap.size → g.ok N k → g.ok N k ∧ (w.alloc (.cells #[.slice (some fa) fs.length fc] 183)).heap[k]? = w.heap[k]? := fun k hk ho => ⟨ho, hB.block k hk⟩
  have ha1 := ha.mono hst
  have HX := reset_any' N g rb fuel s s' _ h1 _ _ fs e (hs.mono hst) ha1 hx
  have m163 := fun w => tf_miss163 183 (.agg #[.slice (some fa) fs.length fc]) w (by decide)
  have m178 := fun w => tf_miss178 183 (.agg #[.slice (some fa) fs.length fc]) w (by decide)
  have m166 := fun w => tf_miss166 183 (.agg #[.slice (some fa) fs.length fc]) w (by decide)
  have m214 := fun w => tf_miss214 183 (.agg #[.slice (some fa) fs.length fc]) w (by decide)
  have m169 := fun w => tf_miss169 183 (.agg #[.slice (some fa) fs.length fc]) w (by decide)
  have m175 := fun w => tf_miss175 183 (.agg #[.slice (some fa) fs.length fc]) w (by decide)
  have m181 := fun w => tf_miss181 183 (.agg #[.slice (some fa) fs.length fc]) w (by decide)
  have m222 := fun w => tf_miss222 183 (.agg #[.slice (some fa) fs.length fc]) w (by decide)
  have m183 := fun w => tf_hit183 (.agg #[.slice (some fa) fs.length fc]) w
  clear h h1 ha ha1 hst hB hs hx
  unfold ptrV at *
  go_enter Tryz.func112, Tryz.ntmps112
  go_wp2_with (first | (go_at_call 147; refine HX.mono ?_; rintro e6 w3 ⟨rfl, hr3⟩))
  go_end0
  exact RunC.after hKW (RunK.c ⟨rfl, hr3⟩)
set_option maxHeartbeats 4000000 in
set_option maxRecDepth 10000 in
theorem start_shift (sl : Value) (fs : List Rd.F) (N : Nat → Prop) (g : Gh) (rb fuel : Nat) (s s' : St) (w : World) (h : RunAt N g rb fuel s w) (a : Value) (e : Env) (ha : RepM g.tb (g.ok N) w a (.env e)) (hs : RepFs (g.ok N) w sl fs) (hbe : s.beyond ≠ []) (hx : (({ s with todo := [] } : St).scope [.cont s.todo]).body fs (s.sc.length :: e) = some s') :
    Calls Tryz.prog 112 #[ptrV rb, .iface 184 (.agg #[sl]), a] w (RunC N g rb fuel s' w) := by
  obtain ⟨p, rfl⟩ := RepM.ptr ha
  obtain ⟨fa, fc, rfl, _, _⟩ := RepFs.shape hs
  have hB : Below w.heap.size w (w.alloc (.cells #[.slice (some fa) fs.length fc] 184)) := (Below.refl _ w).alloc (Nat.le_refl _) _
  have hKW := Kept.of_below hB (RM g rb)
  have h1 := h.below hB
  have hst : ∀ k, k < w.heap.size → g.ok N k → g.ok N k ∧ (w.alloc (.cells #[.slice (some fa) fs.length fc] 184)).heap[k]? = w.heap[k]? := fun k hk ho => ⟨ho, hB.block k hk⟩
  have ha1 := ha.mono hst
  have HX := shift_any' N g rb fuel s s' _ h1 _ _ fs e (hs.mono hst) ha1 hbe hx
  have m163 := fun w => tf_miss163 184 (.agg #[.slice (some fa) fs.length fc]) w (by decide)
  have m178 := fun w => tf_miss178 184 (.agg #[.slice (some fa) fs.length fc]) w (by decide)
  have m166 := fun w => tf_miss166 184 (.agg #[.slice (some fa) fs.length fc]) w (by decide)
  have m214 := fun w => tf_miss214 184 (.agg #[.slice (some fa) fs.length fc]) w (by decide)
  have m169 := fun w => tf_miss169 184 (.agg #[.slice (some fa) fs.length fc]) w (by decide)
  have m175 := fun w => tf_miss175 184 (.agg #[.slice (some fa) fs.length fc]) w (by decide)
  have m181 := fun w => tf_miss181 184 (.agg #[.slice (some fa) fs.length fc]) w (by decide)
  have m222 := fun w => tf_miss222 184 (.agg #[.slice (some fa) fs.length fc]) w (by decide)
  have m183 := fun w => tf_miss183 184 (.agg #[.slice (some fa) fs.length fc]) w (by decide)
  have m184 := fun w => tf_hit184 (.agg #[.slice (some fa) fs.length fc]) w
  clear h h1 ha ha1 hst hB hs hx
  unfold ptrV at *
  go_enter Tryz.func112, Tryz.ntmps112
  go_wp2_with (first | (go_at_call 148; refine HX.mono ?_; rintro e6 w3 ⟨rfl, hr3⟩))
  go_end0
  exact RunC.after hKW ⟨rfl, hr3⟩
set_option maxHeartbeats 4000000 in
set_option maxRecDepth 10000 in
theorem start_let (HC : CallC) (y sl : Value) (vs fs : List Rd.F) (N : Nat → Prop) (g : Gh) (rb fuel : Nat) (s s' : St) (w : World) (h : RunAt N g rb fuel s w) (a : Value) (e : Env) (ha : RepM g.tb (g.ok N) w a (.env e)) (hy : RepFs (g.ok N) w y vs) (hs : RepFs (g.ok N) w sl fs) (hfit : Fit s []) (hx : s.each fuel vs e [] (.lett fs e) = some s') :
    Calls Tryz.prog 112 #[ptrV rb, .iface 175 (.agg #[y, sl]), a] w (RunC N g rb fuel s' w) := by
  obtain ⟨p, rfl⟩ := RepM.ptr ha
  obtain ⟨ya, yc, rfl, _, _⟩ := RepFs.shape hy
  obtain ⟨fa, fc, rfl, _, _⟩ := RepFs.shape hs
  have hB : Below w.heap.size w (w.alloc (.cells #[.slice (some ya) vs.length yc, .slice (some fa) fs.length fc] 175)) := (Below.refl _ w).alloc (Nat.le_refl _) _
  have hKW := Kept.of_below hB (RM g rb)
  have h1 := h.below hB
  have hst : ∀ k, k < w.heap.size → g.ok N k → g.ok N k ∧ (w.alloc (.cells #[.slice (some ya) vs.length yc, .slice (some fa) fs.length fc] 175)).heap[k]? = w.heap[k]? := fun k hk ho => ⟨ho, hB.block k hk⟩
  have ha1 := ha.mono hst
  have HX := runLet_any HC N g rb fuel s s' _ h1 _ _ _ vs fs e (hy.mono hst) (hs.mono hst) ha1 hfit hx
  have m163 := fun w => tf_miss163 175 (.agg #[.slice (some ya) vs.length yc, .slice (some fa) fs.length fc]) w (by decide)
  have m178 := fun w => tf_miss178 175 (.agg #[.slice (some ya) vs.length yc, .slice (some fa) fs.length fc]) w (by decide)
  have m166 := fun w => tf_miss166 175 (.agg #[.slice (some ya) vs.length yc, .slice (some fa) fs.length fc]) w (by decide)
  have m214 := fun w => tf_miss214 175 (.agg #[.slice (some ya) vs.length yc, .slice (some fa) fs.length fc]) w (by decide)
  have m169 := fun w => tf_miss169 175 (.agg #[.slice (some ya) vs.length yc, .slice (some fa) fs.length fc]) w (by decide)
  have m175 := fun w => tf_hit175 (.agg #[.slice (some ya) vs.length yc, .slice (some fa) fs.length fc]) w
  clear h h1 ha ha1 hst hB hs hx hy
  unfold ptrV at *
  go_enter Tryz.func112, Tryz.ntmps112
  go_wp2_with (first | (go_at_call 144; refine HX.mono ?_; rintro e6 w3 ⟨rfl, hr3⟩))
  go_end0
  exact RunC.after hKW ⟨rfl, hr3⟩
set_option maxHeartbeats 4000000 in
set_option maxRecDepth 10000 in
theorem start_set (n : Rd.Sym) (l : Option (Nat × Nat)) (v : Value) (x : Rd.F) (N : Nat → Prop) (g : Gh) (rb fuel : Nat) (s s' : St) (w : World) (h : RunAt N g rb fuel s w) (a : Value) (e : Env) (ha : RepM g.tb (g.ok N) w a (.env e)) (h2 : RepF (g.ok N) w v x) (hx : some ((s.push (.set_ n l e)).eval x e) = some s') :
    Calls Tryz.prog 112 #[ptrV rb, .iface 181 (.agg #[symV n, .bool l.isSome, .int .i64 (locUp l), .int .i64 (locSlot l), v]), a] w (RunC N g rb fuel s' w) := by
  obtain ⟨p, rfl⟩ := RepM.ptr ha
  cases hx
  obtain ⟨t1, x1, rfl⟩ := RepF.iface h2
  have hB : Below w.heap.size w (w.alloc (.cells #[symV n, .bool l.isSome, .int .i64 (locUp l), .int .i64 (locSlot l), .iface t1 x1] 181)) := (Below.refl _ w).alloc (Nat.le_refl _) _
  have hKW := Kept.of_below hB (RM g rb)
  have h1 := h.below hB
  have hst : ∀ k, k < w.heap.size → g.ok N k → g.ok N k ∧ (w.alloc (.cells #[symV n, .bool l.isSome, .int .i64 (locUp l), .int .i64 (locSlot l), .iface t1 x1] 181)).heap[k]? = w.heap[k]? := fun k hk ho => ⟨ho, hB.block k hk⟩
  have ha1 := ha.mono hst
  have HX := runSet_any N g rb fuel s _ h1 n l _ _ x e (h2.mono hst) ha1
  have m163 := fun w => tf_miss163 181 (.agg #[symV n, .bool l.isSome, .int .i64 (locUp l), .int .i64 (locSlot l), .iface t1 x1]) w (by decide)
  have m178 := fun w => tf_miss178 181 (.agg #[symV n, .bool l.isSome, .int .i64 (locUp l), .int .i64 (locSlot l), .iface t1 x1]) w (by decide)
  have m166 := fun w => tf_miss166 181 (.agg #[symV n, .bool l.isSome, .int .i64 (locUp l), .int .i64 (locSlot l), .iface t1 x1]) w (by decide)
  have m214 := fun w => tf_miss214 181 (.agg #[symV n, .bool l.isSome, .int .i64 (locUp l), .int .i64 (locSlot l), .iface t1 x1]) w (by decide)
  have m169 := fun w => tf_miss169 181 (.agg #[symV n, .bool l.isSome, .int .i64 (locUp l), .int .i64 (locSlot l), .iface t1 x1]) w (by decide)
  have m175 := fun w => tf_miss175 181 (.agg #[symV n, .bool l.isSome, .int .i64 (locUp l), .int .i64 (locSlot l), .iface t1 x1]) w (by decide)
  have m181 := fun w => tf_hit181 (.agg #[symV n, .bool l.isSome, .int .i64 (locUp l), .int .i64 (locSlot l), .iface t1 x1]) w
  clear h h1 ha ha1 hst hB h2
  unfold symV ptrV at *
  go_enter Tryz.func112, Tryz.ntmps112
  go_wp2_with (first | (go_at_call 145; refine HX.mono ?_; rintro e6 w3 ⟨rfl, hr3⟩))
  go_end0
  exact RunC.after hKW (RunK.c ⟨rfl, hr3⟩)
set_option maxHeartbeats 4000000 in
set_option maxRecDepth 10000 in
theorem start_until (st : Bool) (sl : Value) (fs : List Rd.F) (N : Nat → Prop) (g : Gh) (rb fuel : Nat) (s s' : St) (w : World) (h : RunAt N g rb fuel s w) (a : Value) (e : Env) (ha : RepM g.tb (g.ok N) w a (.env e)) (hs : RepFs (g.ok N) w sl fs) (hx : s.until_ st fs e = some s') :
    Calls Tryz.prog 112 #[ptrV rb, .iface 222 (.agg #[.bool st, sl]), a] w (RunC N g rb fuel s' w) := by
  obtain ⟨p, rfl⟩ := RepM.ptr ha
  obtain ⟨fa, fc, rfl, _, _⟩ := RepFs.shape hs
  have hB : Below w.heap.size w (w.alloc (.cells #[.bool st, .slice (some fa) fs.length fc] 222)) := (Below.refl _ w).alloc (Nat.le_refl _) _
  have hKW := Kept.of_below hB (RM g rb)
  have h1 := h.below hB
  have hst : ∀ k, k < w.heap.size → g.ok N k → g.ok N k ∧ (w.alloc (.cells #[.bool st, .slice (some fa) fs.length fc] 222)).heap[k]? = w.heap[k]? := fun k hk ho => ⟨ho, hB.block k hk⟩
  have ha1 := ha.mono hst
  have HX := runUntil_any N g rb fuel s s' _ h1 st _ _ fs e (hs.mono hst) ha1 hx
  have m163 := fun w => tf_miss163 222 (.agg #[.bool st, .slice (some fa) fs.length fc]) w (by decide)
  have m178 := fun w => tf_miss178 222 (.agg #[.bool st, .slice (some fa) fs.length fc]) w (by decide)
  have m166 := fun w => tf_miss166 222 (.agg #[.bool st, .slice (some fa) fs.length fc]) w (by decide)
  have m214 := fun w => tf_miss214 222 (.agg #[.bool st, .slice (some fa) fs.length fc]) w (by decide)
  have m169 := fun w => tf_miss169 222 (.agg #[.bool st, .slice (some fa) fs.length fc]) w (by decide)
  have m175 := fun w => tf_miss175 222 (.agg #[.bool st, .slice (some fa) fs.length fc]) w (by decide)
  have m181 := fun w => tf_miss181 222 (.agg #[.bool st, .slice (some fa) fs.length fc]) w (by decide)
  have m222 := fun w => tf_hit222 (.agg #[.bool st, .slice (some fa) fs.length fc]) w
  clear h h1 ha ha1 hst hB hs hx
  unfold ptrV at *
  go_enter Tryz.func112, Tryz.ntmps112
  go_wp2_with (first | (go_at_call 146; refine HX.mono ?_; rintro e6 w3 ⟨rfl, hr3⟩))
  go_end0
  exact RunC.after hKW (RunK.c ⟨rfl, hr3⟩)
set_option maxHeartbeats 4000000 in
set_option maxRecDepth 10000 in
theorem start_define (n : Rd.Sym) (v : Value) (x : Rd.F) (N : Nat → Prop) (g : Gh) (rb fuel : Nat) (s s' : St) (w : World) (h : RunAt N g rb fuel s w) (a : Value) (e : Env) (ha : RepM g.tb (g.ok N) w a (.env e)) (h2 : RepF (g.ok N) w v x) (hx : some ((s.push (.define n)).eval x e) = some s') :
    Calls Tryz.prog 112 #[ptrV rb, .iface 187 (.agg #[symV n, v]), a] w (RunC N g rb fuel s' w) := by
  obtain ⟨p, rfl⟩ := RepM.ptr ha
  cases hx
  obtain ⟨t1, x1, rfl⟩ := RepF.iface h2
  have hB : Below w.heap.size w (w.alloc (.cells #[symV n, .iface t1 x1] 187)) := (Below.refl _ w).alloc (Nat.le_refl _) _
  have hKW := Kept.of_below hB (RM g rb)
  have h1 := h.below hB
  have hst : ∀ k, k < w.heap.size → g.ok N k → g.ok N k ∧ (w.alloc (.cells #[symV n, .iface t1 x1] 187)).heap[k]? = w.heap[k]? := fun k hk ho => ⟨ho, hB.block k hk⟩
  have ha1 := ha.mono hst
  have HX := runDefine_any N g rb fuel s _ h1 n _ _ x e (h2.mono hst) ha1
  have m163 := fun w => tf_miss163 187 (.agg #[symV n, .iface t1 x1]) w (by decide)
  have m178 := fun w => tf_miss178 187 (.agg #[symV n, .iface t1 x1]) w (by decide)
  have m166 := fun w => tf_miss166 187 (.agg #[symV n, .iface t1 x1]) w (by decide)
  have m214 := fun w => tf_miss214 187 (.agg #[symV n, .iface t1 x1]) w (by decide)
  have m169 := fun w => tf_miss169 187 (.agg #[symV n, .iface t1 x1]) w (by decide)
  have m175 := fun w => tf_miss175 187 (.agg #[symV n, .iface t1 x1]) w (by decide)
  have m181 := fun w => tf_miss181 187 (.agg #[symV n, .iface t1 x1]) w (by decide)
  have m222 := fun w => tf_miss222 187 (.agg #[symV n, .iface t1 x1]) w (by decide)
  have m183 := fun w => tf_miss183 187 (.agg #[symV n, .iface t1 x1]) w (by decide)
  have m184 := fun w => tf_miss184 187 (.agg #[symV n, .iface t1 x1]) w (by decide)
  have m187 := fun w => tf_hit187 (.agg #[symV n, .iface t1 x1]) w
  clear h h1 ha ha1 hst hB h2
  unfold symV ptrV at *
  go_enter Tryz.func112, Tryz.ntmps112
  go_wp2_with (first | (go_at_call 149; refine HX.mono ?_; rintro e6 w3 ⟨rfl, hr3⟩))
  go_end0
  exact RunC.after hKW (RunK.c ⟨rfl, hr3⟩)
set_option maxHeartbeats 4000000 in
set_option maxRecDepth 10000 in
theorem start_call (sl : Value) (fs : List Rd.F) (N : Nat → Prop) (g : Gh) (rb fuel : Nat) (s s' : St) (w : World) (h : RunAt N g rb fuel s w) (a : Value) (e : Env) (ha : RepM g.tb (g.ok N) w a (.env e)) (hs : RepFs (g.ok N) w sl fs) (hx : s.each fuel fs e [] .call = some s') :
    Calls Tryz.prog 112 #[ptrV rb, .iface 190 (.agg #[sl]), a] w (RunC N g rb fuel s' w) := by
  obtain ⟨p, rfl⟩ := RepM.ptr ha
  obtain ⟨fa, fc, rfl, hfn, hfc⟩ := RepFs.shape hs
  have hB : Below w.heap.size w (w.alloc (.cells #[.slice (some fa) fs.length fc] 190)) := (Below.refl _ w).alloc (Nat.le_refl _) _
  have hKW := Kept.of_below hB (RM g rb)
  have h1 := h.below hB
  have hst : ∀ k, k < w.heap.size → g.ok N k → g.ok N k ∧ (w.alloc (.cells #[.slice (some fa) fs.length fc] 190)).heap[k]? = w.heap[k]? := fun k hk ho => ⟨ho, hB.block k hk⟩
  have ha1 := ha.mono hst
  have HX : Calls Tryz.prog 150 #[ptrV rb, .slice (some fa) fs.length fc, .pointer p, .slice none 0 0, fnV 151] (w.alloc (.cells #[.slice (some fa) fs.length fc] 190)) (RunC N g rb fuel s' (w.alloc (.cells #[.slice (some fa) fs.length fc] 190))) := by
    cases fs with
    | nil => cases hx
    | cons f fs =>
      have hx' : some ((s.push (.each (f :: fs) e [] .call)).eval f e) = some s' := hx
      cases hx'
      exact each_more N g rb fuel s _ h1 _ _ _ _ f fs e [] .call (hs.mono hst) ha1 .vals0 .call (by simp only [List.length_nil, List.length_cons] at *; omega)
  have m163 := fun w => tf_miss163 190 (.agg #[.slice (some fa) fs.length fc]) w (by decide)
  have m178 := fun w => tf_miss178 190 (.agg #[.slice (some fa) fs.length fc]) w (by decide)
  have m166 := fun w => tf_miss166 190 (.agg #[.slice (some fa) fs.length fc]) w (by decide)
  have m214 := fun w => tf_miss214 190 (.agg #[.slice (some fa) fs.length fc]) w (by decide)
  have m169 := fun w => tf_miss169 190 (.agg #[.slice (some fa) fs.length fc]) w (by decide)
  have m175 := fun w => tf_miss175 190 (.agg #[.slice (some fa) fs.length fc]) w (by decide)
  have m181 := fun w => tf_miss181 190 (.agg #[.slice (some fa) fs.length fc]) w (by decide)
  have m222 := fun w => tf_miss222 190 (.agg #[.slice (some fa) fs.length fc]) w (by decide)
  have m183 := fun w => tf_miss183 190 (.agg #[.slice (some fa) fs.length fc]) w (by decide)
  have m184 := fun w => tf_miss184 190 (.agg #[.slice (some fa) fs.length fc]) w (by decide)
  have m187 := fun w => tf_miss187 190 (.agg #[.slice (some fa) fs.length fc]) w (by decide)
  have m190 := fun w => tf_hit190 (.agg #[.slice (some fa) fs.length fc]) w
  clear h h1 ha ha1 hst hB hs hx
  unfold fnV ptrV at *
  go_enter Tryz.func112, Tryz.ntmps112
  go_wp2_with (first | (go_at_call 150; refine HX.mono ?_; rintro e6 w3 ⟨rfl, hr3⟩))
  go_end0
  exact RunC.after hKW ⟨rfl, hr3⟩
set_option maxHeartbeats 4000000 in
set_option maxRecDepth 10000 in
theorem start_missing (n : Rd.Sym) (N : Nat → Prop) (g : Gh) (rb fuel : Nat) (s s' : St) (w : World) (h : RunAt N g rb fuel s w) (a : Value) (e : Env) (ha : RepM g.tb (g.ok N) w a (.env e)) (hf : find? n s.G = none) (hx : some (s.fail 1) = some s') :
    Calls Tryz.prog 112 #[ptrV rb, .iface 178 (.agg #[symV n, .bool false, .int .i64 0, .int .i64 0]), a] w (RunC N g rb fuel s' w) := by
  obtain ⟨p, rfl⟩ := RepM.ptr ha
  cases hx
  have hB : Below w.heap.size w (w.alloc (.cells #[symV n, .bool false, .int .i64 0, .int .i64 0] 178)) := (Below.refl _ w).alloc (Nat.le_refl _) _
  have hKW := Kept.of_below hB (RM g rb)
  have h1 := h.below hB
  have hst : ∀ k, k < w.heap.size → g.ok N k → g.ok N k ∧ (w.alloc (.cells #[symV n, .bool false, .int .i64 0, .int .i64 0] 178)).heap[k]? = w.heap[k]? := fun k hk ho => ⟨ho, hB.block k hk⟩
  have ha1 := ha.mono hst
  have HX := look_missing N g rb fuel s _ h1 n _ e ha1 hf
  have m163 := fun w => tf_miss163 178 (.agg #[symV n, .bool false, .int .i64 0, .int .i64 0]) w (by decide)
  have m178 := fun w => tf_hit178 (.agg #[symV n, .bool false, .int .i64 0, .int .i64 0]) w
  clear h h1 ha ha1 hst hB hf
  unfold nmV symV ptrV at *
  go_enter Tryz.func112, Tryz.ntmps112
  go_wp2_with (first | (go_at_call 140; refine HX.mono ?_; rintro e6 w3 ⟨rfl, hr3⟩))
  go_end0
  exact RunC.after hKW (RunK.c ⟨rfl, hr3⟩)
set_option maxHeartbeats 4000000 in
set_option maxRecDepth 10000 in
theorem start_ift (vt va : Value) (t x : Rd.F) (N : Nat → Prop) (g : Gh) (rb fuel : Nat) (s s' : St) (w : World) (h : RunAt N g rb fuel s w) (a : Value) (e : Env) (ha : RepM g.tb (g.ok N) w a (.env e)) (h2 : RepF (g.ok N) w vt t) (h3 : RepF (g.ok N) w va x) (hx : some ((s.push (.choose x none e)).eval t e) = some s') :
    Calls Tryz.prog 112 #[ptrV rb, .iface 166 (.agg #[vt, va, .nilIface]), a] w (RunC N g rb fuel s' w) := by
  obtain ⟨p, rfl⟩ := RepM.ptr ha
  cases hx
  obtain ⟨t1, x1, rfl⟩ := RepF.iface h2
  obtain ⟨t2, x2, rfl⟩ := RepF.iface h3
  have hB : Below w.heap.size w (w.alloc (.cells #[.iface t1 x1, .iface t2 x2, .nilIface] 166)) := (Below.refl _ w).alloc (Nat.le_refl _) _
  have hKW := Kept.of_below hB (RM g rb)
  have h1 := h.below hB
  have hst : ∀ k, k < w.heap.size → g.ok N k → g.ok N k ∧ (w.alloc (.cells #[.iface t1 x1, .iface t2 x2, .nilIface] 166)).heap[k]? = w.heap[k]? := fun k hk ho => ⟨ho, hB.block k hk⟩
  have ha1 := ha.mono hst
  have HX := choose_none N g rb fuel s _ h1 _ _ _ t x e (h2.mono hst) (h3.mono hst) ha1
  have m163 := fun w => tf_miss163 166 (.agg #[.iface t1 x1, .iface t2 x2, .nilIface]) w (by decide)
  have m178 := fun w => tf_miss178 166 (.agg #[.iface t1 x1, .iface t2 x2, .nilIface]) w (by decide)
  have m166 := fun w => tf_hit166 (.agg #[.iface t1 x1, .iface t2 x2, .nilIface]) w
  clear h h1 ha ha1 hst hB h2 h3
  unfold ptrV at *
  go_enter Tryz.func112, Tryz.ntmps112
  go_wp2_with (first | (go_at_call 141; refine HX.mono ?_; rintro e6 w3 ⟨rfl, hr3⟩))
  go_end0
  exact RunC.after hKW (RunK.c ⟨rfl, hr3⟩)
set_option maxHeartbeats 4000000 in
set_option maxRecDepth 10000 in
theorem start_noreset (sl : Value) (fs : List Rd.F) (N : Nat → Prop) (g : Gh) (rb fuel : Nat) (s : St) (w : World) (h : RunAt N g rb fuel s w) (a : Value) (e : Env) (ha : RepM g.tb (g.ok N) w a (.env e)) (hs : RepFs (g.ok N) w sl fs) (hbe : s.beyond = []) :
    Calls Tryz.prog 112 #[ptrV rb, .iface 184 (.agg #[sl]), a] w (RunC N g rb fuel (s.fail 7) w) := by
  obtain ⟨p, rfl⟩ := RepM.ptr ha
  obtain ⟨fa, fc, rfl, _, _⟩ := RepFs.shape hs
  have hB : Below w.heap.size w (w.alloc (.cells #[.slice (some fa) fs.length fc] 184)) := (Below.refl _ w).alloc (Nat.le_refl _) _
  have hKW := Kept.of_below hB (RM g rb)
  have h1 := h.below hB
  have hst : ∀ k, k < w.heap.size → g.ok N k → g.ok N k ∧ (w.alloc (.cells #[.slice (some fa) fs.length fc] 184)).heap[k]? = w.heap[k]? := fun k hk ho => ⟨ho, hB.block k hk⟩
  have ha1 := ha.mono hst
  have HX := shift_no N g rb fuel s _ h1 _ _ fs e (hs.mono hst) ha1 hbe
  have m163 := fun w => tf_miss163 184 (.agg #[.slice (some fa) fs.length fc]) w (by decide)
  have m178 := fun w => tf_miss178 184 (.agg #[.slice (some fa) fs.length fc]) w (by decide)
  have m166 := fun w => tf_miss166 184 (.agg #[.slice (some fa) fs.length fc]) w (by decide)
  have m214 := fun w => tf_miss214 184 (.agg #[.slice (some fa) fs.length fc]) w (by decide)
  have m169 := fun w => tf_miss169 184 (.agg #[.slice (some fa) fs.length fc]) w (by decide)
  have m175 := fun w => tf_miss175 184 (.agg #[.slice (some fa) fs.length fc]) w (by decide)
  have m181 := fun w => tf_miss181 184 (.agg #[.slice (some fa) fs.length fc]) w (by decide)
  have m222 := fun w => tf_miss222 184 (.agg #[.slice (some fa) fs.length fc]) w (by decide)
  have m183 := fun w => tf_miss183 184 (.agg #[.slice (some fa) fs.length fc]) w (by decide)
  have m184 := fun w => tf_hit184 (.agg #[.slice (some fa) fs.length fc]) w
  clear h h1 ha ha1 hst hB hs
  unfold ptrV at *
  go_enter Tryz.func112, Tryz.ntmps112
  go_wp2_with (first | (go_at_call 148; refine HX.mono ?_; rintro e6 w3 ⟨rfl, hr3⟩))
  go_end0
  exact RunC.after hKW ⟨rfl, hr3⟩
end Kc
end Go.Proofs.YtodeeegbajgafaaGreatDoor

namespace Go.Proofs.YtodeeegbajgafaaGreatDoor
namespace Kc
open Go.RowKit
set_option maxHeartbeats 4000000 in
set_option maxRecDepth 10000 in
theorem start_const' (c : Rd.A) (t0 : TypeId) (x0 : Value) (hc : aV c = .iface t0 x0) (N : Nat → Prop) (g : Gh) (rb fuel : Nat) (s : St) (w : World) (h : RunAt N g rb fuel s w) (p : Option Addr) :
    Calls Tryz.prog 112 #[ptrV rb, .iface 163 (.agg #[.iface t0 x0]), .pointer p] w (RunC N g rb fuel (s.give (.atom c)) w) := by
  have hB : Below w.heap.size w (w.alloc (.cells #[.iface t0 x0] 163)) := (Below.refl _ w).alloc (Nat.le_refl _) _
  have hKW := Kept.of_below hB (RM g rb)
  have h1 := h.below hB
  have HX := give_any N g rb fuel s _ h1 (.iface t0 x0) (.atom c) (by rw [← hc]; exact .atom c)
  have m163 := fun w => tf_hit163 (.agg #[.iface t0 x0]) w
  clear h h1 hB hc
  unfold ptrV at *
  go_enter Tryz.func112, Tryz.ntmps112
  go_wp2_with (first | (go_at_call 139; refine HX.mono ?_; rintro e6 w3 ⟨rfl, hr3⟩))
  go_end0
  exact RunC.after hKW (RunK.c ⟨rfl, hr3⟩)
theorem start_const (c : Rd.A) (N : Nat → Prop) (g : Gh) (rb fuel : Nat) (s : St) (w : World) (h : RunAt N g rb fuel s w) (a : Value) (e : Env) (ha : RepM g.tb (g.ok N) w a (.env e)) :
    Calls Tryz.prog 112 #[ptrV rb, .iface 163 (.agg #[aV c]), a] w (RunC N g rb fuel (s.give (.atom c)) w) := by
  obtain ⟨p, rfl⟩ := RepM.ptr ha
  obtain ⟨t0, x0, hc⟩ : ∃ t x, aV c = .iface t x := by cases c <;> exact ⟨_, _, rfl⟩
  rw [hc]
  exact start_const' c t0 x0 hc N g rb fuel s w h p
set_option maxHeartbeats 4000000 in
set_option maxRecDepth 10000 in
theorem start_quoted (d : Rd.D) (x : Value) (N : Nat → Prop) (g : Gh) (rb fuel : Nat) (s : St) (w : World) (h : RunAt N g rb fuel s w) (a : Value) (e : Env) (ha : RepM g.tb (g.ok N) w a (.env e)) (hx : RepQ (g.ok N) w x (Mc.valD d)) :
    Calls Tryz.prog 112 #[ptrV rb, .iface 163 (.agg #[x]), a] w (RunC N g rb fuel (s.give (valD d)) w) := by
  obtain ⟨p, rfl⟩ := RepM.ptr ha
  obtain ⟨t0, x0, rfl⟩ := (RepM.ofD (mb := g.tb) hx).iface
  have hB : Below w.heap.size w (w.alloc (.cells #[.iface t0 x0] 163)) := (Below.refl _ w).alloc (Nat.le_refl _) _
  have hKW := Kept.of_below hB (RM g rb)
  have h1 := h.below hB
  have HX := give_any N g rb fuel s _ h1 (.iface t0 x0) (valD d) (RepM.ofD (hx.mono fun k hk ho => ⟨ho, hB.block k hk⟩))
  have m163 := fun w => tf_hit163 (.agg #[.iface t0 x0]) w
  clear h h1 hB hx ha
  unfold ptrV at *
  go_enter Tryz.func112, Tryz.ntmps112
  go_wp2_with (first | (go_at_call 139; refine HX.mono ?_; rintro e6 w3 ⟨rfl, hr3⟩))
  go_end0
  exact RunC.after hKW (RunK.c ⟨rfl, hr3⟩)
end Kc
end Go.Proofs.YtodeeegbajgafaaGreatDoor

namespace Go.Proofs.YtodeeegbajgafaaGreatDoor
namespace Kc
open Go.RowKit
set_option maxHeartbeats 4000000 in
set_option maxRecDepth 10000 in
theorem start_lam (N : Nat → Prop) (g : Gh) (rb fuel : Nat) (s : St) (w : World) (h : RunAt N g rb fuel s w) (a : Value) (e : Env) (ha : RepM g.tb (g.ok N) w a (.env e)) (k : Nat) (sl : Value) (fs : List Rd.F) (hs : RepFs (g.ok N) w sl fs) :
    Calls Tryz.prog 112 #[ptrV rb, .iface 214 (.agg #[.int .i64 k, sl]), a] w (RunC N g rb fuel (s.give (.clo k fs e)) w) := by
  obtain ⟨p, rfl⟩ := RepM.ptr ha
  obtain ⟨fa, fc, rfl, _, _⟩ := RepFs.shape hs
  have hB : Below w.heap.size w (w.alloc (.cells #[.int .i64 k, .slice (some fa) fs.length fc] 214)) := (Below.refl _ w).alloc (Nat.le_refl _) _
  have hKW := Kept.of_below hB (RM g rb)
  have h1 := h.below hB
  have hst : ∀ k', k' < w.heap.size → g.ok N k' → g.ok N k' ∧ (w.alloc (.cells #[.int .i64 k, .slice (some fa) fs.length fc] 214)).heap[k']? = w.heap[k']? := fun k hk ho => ⟨ho, hB.block k hk⟩
  have HN := newClosure_any N g (w.alloc (.cells #[.int .i64 k, .slice (some fa) fs.length fc] 214)) (Gh.ok_new h1.m) k _ _ fs e (hs.mono hst) (ha.mono hst)
  have HG : Hid (∀ w2 b, RepM g.tb (g.ok N) w2 (.iface 226 (ptrV b)) (.val (.clo k fs e)) → Below (w.alloc (.cells #[.int .i64 k, .slice (some fa) fs.length fc] 214)).heap.size (w.alloc (.cells #[.int .i64 k, .slice (some fa) fs.length fc] 214)) w2 → Calls Tryz.prog 139 #[.pointer (some ⟨rb, 0, none⟩), .iface 226 (.pointer (some ⟨b, 0, none⟩))] w2 (RunK N g rb fuel (s.give (.clo k fs e)) w2)) := fun w2 b hr hb => give_any N g rb fuel s w2 (h1.below hb) _ _ hr
  have m163 := fun w => tf_miss163 214 (.agg #[.int .i64 k, .slice (some fa) fs.length fc]) w (by decide)
  have m178 := fun w => tf_miss178 214 (.agg #[.int .i64 k, .slice (some fa) fs.length fc]) w (by decide)
  have m166 := fun w => tf_miss166 214 (.agg #[.int .i64 k, .slice (some fa) fs.length fc]) w (by decide)
  have m214 := fun w => tf_hit214 (.agg #[.int .i64 k, .slice (some fa) fs.length fc]) w
  clear h h1 ha hs hst
  unfold ptrV at *
  go_enter Tryz.func112, Tryz.ntmps112
  go_wp2_with (first | (go_at_call 142; refine HN.mono ?_; rintro e5 w2 ⟨b, rfl, hr2, hb2⟩) | (go_at_call 139; refine (HG.out _ _ hr2 hb2).mono ?_; rintro e6 w3 ⟨rfl, hr3, hk3⟩))
  go_end0
  exact RunC.after (hKW.trans (Kept.of_below hb2 _)) (RunK.c ⟨rfl, hr3, hk3⟩)
theorem start_any (HC : CallC) (N : Nat → Prop) (g : Gh) (rb fuel : Nat) (s s' : St) (w : World) (h : RunAt N g rb fuel s w) (v a : Value) (f : Rd.F) (e : Env) (hf : RepF (g.ok N) w v f) (ha : RepM g.tb (g.ok N) w a (.env e)) (hfit : Fit s []) (hx : s.start fuel f e = some s') :
    Calls Tryz.prog 112 #[ptrV rb, v, a] w (RunC N g rb fuel s' w) := by
  cases hf with
  | const c => cases hx; exact start_const c N g rb fuel s w h a e ha
  | quoted x d h1 => cases hx; exact start_quoted d x N g rb fuel s w h a e ha h1
  | name n l =>
    cases l with
    | none =>
      simp only [St.start] at hx
      split at hx
      · rename_i x hfx
        exact start_global n x N g rb fuel s s' w h a e ha hfx hx
      · rename_i hfx
        exact start_missing n N g rb fuel s s' w h a e ha hfx hx
    | some l =>
      obtain ⟨up, slot⟩ := l
      simp only [St.start] at hx
      split at hx
      · rename_i x hfx
        exact start_local n x up slot N g rb fuel s s' w h a e ha hfx hx
      · cases hx
  | ite vt va ve t x y h1 h2 h3 => exact start_ite vt va ve t x y N g rb fuel s s' w h a e ha h1 h2 h3 hx
  | ift vt va t x h1 h2 => exact start_ift vt va t x N g rb fuel s s' w h a e ha h1 h2 hx
  | lam k sl b h1 => cases hx; exact start_lam N g rb fuel s w h a e ha k sl b h1
  | begin_ sl b h1 => exact start_begin sl b N g rb fuel s s' w h a e ha h1 hx
  | let_ y sl vs b h1 h2 => exact start_let HC y sl vs b N g rb fuel s s' w h a e ha h1 h2 hfit hx
  | set_ n l x f h1 =>
    exact start_set n l x f N g rb fuel s s' w h a e ha h1 hx
  | until_ st sl b h1 => exact start_until st sl b N g rb fuel s s' w h a e ha h1 hx
  | reset sl b h1 => exact start_reset sl b N g rb fuel s s' w h a e ha h1 hx
  | shift sl b h1 =>
    simp only [St.start] at hx
    split at hx
    · rename_i hbe
      cases hx
      exact start_noreset sl b N g rb fuel s w h a e ha h1 hbe
    · rename_i hbe
      exact start_shift sl b N g rb fuel s s' w h a e ha h1 (by rw [hbe]; simp) hx
  | define n x f h1 => exact start_define n x f N g rb fuel s s' w h a e ha h1 hx
  | call sl b h1 => exact start_call sl b N g rb fuel s s' w h a e ha h1 hx
end Kc
end Go.Proofs.YtodeeegbajgafaaGreatDoor

namespace Go.Proofs.YtodeeegbajgafaaGreatDoor
namespace Kc
open Go.RowKit
theorem Calls.c {N : Nat → Prop} {g : Gh} {rb fuel : Nat} {s' : St} {w : World} {k : Nat} {args : Array Value} (h : Calls Tryz.prog k args w (RunK N g rb fuel s' w)) : Calls Tryz.prog k args w (RunC N g rb fuel s' w) := h.mono fun _ _ h => h.c
/-- A task is a function that does what the machine does with it. -/
theorem go_any (HC : CallC) (N : Nat → Prop) (g : Gh) (rb fuel : Nat) (s s' : St) (w : World) (h : RunAt N g rb fuel s w) (d x : Value) (f : Fr) (v : V) (hd : RepM g.tb (g.ok N) w d (.fr f)) (hv : RepM g.tb (g.ok N) w x (.val v)) (hfit : s.shown.length < 1000000 ∧ fine v ∧ ∀ fs e vals hd, f = .each fs e vals hd → ∀ u, u ∈ vals → fine u) (hx : s.go fuel f v = some s') :
    ∃ (k : Nat) (bs : List Nat), ((∃ b1 b2, (k = 161 ∨ k = 162 ∨ k = 164) ∧ bs = [b1, b2]) ∨ (∃ b1, k = 168 ∧ bs = [b1]) ∨ (∃ b0 b1 b2, k = 165 ∧ bs = [b0, b1, b2]) ∨ (∃ b1 b2 b3 b4, k = 169 ∧ bs = [b1, b2, b3, b4])) ∧ d = capFn k bs ∧ Calls Tryz.prog k (#[ptrV rb, x] ++ (bs.map ptrV).toArray) w (RunC N g rb fuel s' w) := by
  cases f with
  | choose y z e =>
    obtain ⟨b1, b2, vt, va, ve, at', T1, T2, rfl, k1, k2, hh1, hh2, h1, h2, h3⟩ := hd.choose_inv
    cases z with
    | some z =>
      have hx' : some (s.eval (if v.isTrue then y else z) e) = some s' := by
        rw [← hx, St.go]
        split <;> rfl
      cases hx'
      exact ⟨161, [b1, b2], Or.inl ⟨b1, b2, by decide, rfl⟩, rfl, Calls.c (goChoose N g rb fuel s w h x v hv b1 b2 vt va ve at' T1 T2 y z e hh1 hh2 h1 h2 h3)⟩
    | none =>
      have hx' : some (if v.isTrue then s.eval y e else s.give (.atom .empty)) = some s' := by
        rw [← hx, St.go]
        split <;> rfl
      cases hx'
      obtain rfl : ve = .nilIface := h2
      exact ⟨161, [b1, b2], Or.inl ⟨b1, b2, by decide, rfl⟩, rfl, Calls.c (goChooseNone N g rb fuel s w h x v hv b1 b2 vt va at' T1 T2 y e hh1 hh2 h1 h3)⟩
  | body fs e =>
    obtain ⟨b1, b2, sl, at', T1, T2, rfl, k1, k2, hh1, hh2, h1, h2⟩ := hd.body_inv
    cases fs with
    | nil => cases hx
    | cons f fs => exact ⟨162, [b1, b2], Or.inl ⟨b1, b2, by decide, rfl⟩, rfl, Calls.c (goBody N g rb fuel s s' w h x v hv b1 b2 sl at' T1 T2 f fs e k1 k2 hh1 hh2 h1 h2 hx)⟩
  | until_ st fs e =>
    obtain ⟨b0, b1, b2, sl, at', T0, T1, T2, rfl, k0, k1, k2, hh0, hh1, hh2, h1, h2⟩ := hd.until_inv
    cases fs with
    | nil => cases hx
    | cons f fs => exact ⟨165, [b0, b1, b2], Or.inr (Or.inr (Or.inl ⟨b0, b1, b2, rfl, rfl⟩)), rfl, Calls.c (goUntil N g rb fuel s s' w h x v hv b0 b1 b2 st sl at' T0 T1 T2 f fs e k0 k1 k2 hh0 hh1 hh2 h1 h2 hx)⟩
  | each fs e vals hdd =>
    obtain ⟨b1, b2, b3, b4, sl, at', vs, dd, T1, T2, T3, T4, rfl, hb, k1, k2, k3, k4, hh1, hh2, hh3, hh4, h1, h2, h3, h4⟩ := hd.each_inv
    cases fs with
    | nil => cases hx
    | cons f fs => exact ⟨169, [b1, b2, b3, b4], Or.inr (Or.inr (Or.inr ⟨b1, b2, b3, b4, rfl, rfl⟩)), rfl, goEach HC N g rb fuel s s' w h x v hv b1 b2 b3 b4 sl at' vs dd T1 T2 T3 T4 f fs e vals hdd hb k1 k2 k3 k4 hh1 hh2 hh3 hh4 h1 h2 h3 h4 ⟨hfit.1, fun u hu => (by rcases List.mem_append.1 hu with hu | hu; exact hfit.2.2 _ _ _ _ rfl u hu; rw [List.mem_singleton.1 hu]; exact hfit.2.1), by simp only [List.length_append, List.length_cons, List.length_nil] at hb ⊢; omega⟩ hx⟩
  | set_ n l e =>
    obtain ⟨b1, b2, z, at', T1, T2, rfl, k1, k2, hh1, hh2, h1⟩ := hd.set_inv
    cases l with
    | none =>
      simp only [St.go] at hx
      split at hx
      · rename_i hs
        cases hx
        exact ⟨164, [b1, b2], Or.inl ⟨b1, b2, by decide, rfl⟩, rfl, Calls.c (goSet N g rb fuel s w h x v hv b1 b2 z at' T1 T2 n hh1 hh2 hs)⟩
      · rename_i hs
        cases hx
        exact ⟨164, [b1, b2], Or.inl ⟨b1, b2, by decide, rfl⟩, rfl, Calls.c (goSetMiss N g rb fuel s w h x v hv b1 b2 z at' T1 T2 n hh1 hh2 (find_isSome_none (by simpa using hs)))⟩
    | some l =>
      obtain ⟨up, slot⟩ := l
      simp only [St.go] at hx
      split at hx
      · rename_i u id hl hid
        cases hx
        exact ⟨164, [b1, b2], Or.inl ⟨b1, b2, by decide, rfl⟩, rfl, Calls.c (goSetLocal N g rb fuel s w h x v u hv b1 b2 z at' T1 T2 n up slot id e hh1 hh2 h1 hl hid)⟩
      · cases hx
  | define n =>
    obtain ⟨b1, z, T1, rfl, k1, hh1⟩ := hd.define_inv
    cases hx
    exact ⟨168, [b1], Or.inr (Or.inl ⟨b1, rfl, rfl⟩), rfl, goDefine N g rb fuel s w h x v hv b1 z T1 n k1 hh1⟩
end Kc
end Go.Proofs.YtodeeegbajgafaaGreatDoor

namespace Go.Proofs.YtodeeegbajgafaaGreatDoor
namespace Kc
open Go.RowKit
/-- What a round needs. -/
def Fits (s : St) : Prop := s.shown.length < 1000000 ∧ (∀ v, s.ctl = .val v → fine v) ∧ ∀ f todo, s.todo = f :: todo → ∀ fs e vals hd, f = .each fs e vals hd → ∀ u, u ∈ vals → fine u
/-- What holds of a run at each round. -/
structure Inv (fuel : Nat) (Iv : St → Prop) : Prop where
  on : ∀ s s', Iv s → s.round fuel = some s' → Iv s'
  fits : ∀ s, Iv s → Fits s
theorem Gh.Next.trans {w w' : World} {g g' g'' : Gh} (h : Gh.Next w g g') (h' : Gh.Next w' g' g'') (hs : w.heap.size ≤ w'.heap.size) : Gh.Next w g g'' :=
  ⟨h'.mb.trans h.mb, h'.db.trans h.db, fun i s e => h'.sp i s (h.sp i s e), fun k e hk => h.mt k (h'.mt k e (Nat.lt_of_lt_of_le hk hs)) hk⟩
/-- A run that may have nothing to go on with yet. -/
structure RunAt0 (N : Nat → Prop) (g : Gh) (rb fuel : Nat) (s : St) (w : World) : Prop where
  inN : N rb
  m : MachAt N g s.G s.sc s.shown w
  blk : ∃ T vf va vv vt vb, w.heap[rb]? = some (.cells (runCells g.mb fuel s vf va vv vt vb) T (0, 0)) ∧ RepM g.tb (g.ok N) w vt (.todo s.todo) ∧ BeyAt g.tb (g.ok N) w vb s.beyond
  bound : s.steps ≤ fuel ∧ fuel ≤ 1000000000
theorem RunAt.r0 {N : Nat → Prop} {g : Gh} {rb fuel : Nat} {s : St} {w : World} (h : RunAt N g rb fuel s w) : RunAt0 N g rb fuel s w := by
  obtain ⟨T, vf, va, vv, vt, vb, hb, hc, ht, hy⟩ := h.blk
  exact ⟨h.inN, h.m, ⟨T, vf, va, vv, vt, vb, hb, ht, hy⟩, h.bound⟩
theorem RunAt0.upd {N : Nat → Prop} {g : Gh} {rb fuel : Nat} {s s' : St} {w w' : World} (h : RunAt0 N g rb fuel s w) (hs : w.heap.size ≤ w'.heap.size) (hw : ∀ k, k < w.heap.size → k ≠ rb → w'.heap[k]? = w.heap[k]?)
    (hG : s'.G = s.G ∧ (s'.sc, s'.shown) = (s.sc, s.shown)) (hb : ∃ T vf va vv vt vb, w'.heap[rb]? = some (.cells (runCells g.mb fuel s' vf va vv vt vb) T (0, 0)) ∧ CtlAt g.tb (g.ok N) w' vf va vv s'.ctl ∧ RepM g.tb (g.ok N) w' vt (.todo s'.todo) ∧ BeyAt g.tb (g.ok N) w' vb s'.beyond) (hst : s'.steps ≤ fuel) :
    RunAt N g rb fuel s' w' := by
  refine ⟨h.inN, ?_, hb, hst, h.bound.2⟩
  obtain ⟨hG1, hG2⟩ := hG
  simp only [Prod.mk.injEq] at hG2
  rw [hG1, hG2.1, hG2.2]
  have hne : ∀ k, ¬ N k → k ≠ rb := fun k hk e => hk (e ▸ h.inN)
  exact h.m.kept (fun k hk => hw k (Gh.low h.m k hk) (hne k (h.m.disj k hk))) (fun k hk ho => ⟨ho, hw k hk (hne k ho.1)⟩) (fun k hk => Nat.lt_of_lt_of_le (h.m.low k hk) hs) h.m.disj
set_option maxHeartbeats 1000000 in
theorem evaluate0 (N : Nat → Prop) (g : Gh) (rb fuel : Nat) (s : St) (w : World) (h : RunAt0 N g rb fuel s w) (v a : Value) (f : Rd.F) (e : Env) (hv : RepF (g.ok N) w v f) (ha : RepM g.tb (g.ok N) w a (.env e)) :
    Calls Tryz.prog 110 #[ptrV rb, v, a] w (RunK N g rb fuel (s.eval f e) w) := by
  obtain ⟨T, vf, va, vv, vt, vb, hb, ht, hy⟩ := h.blk
  obtain ⟨tv, xv, rfl⟩ := RepF.iface hv
  obtain ⟨p, rfl⟩ := RepM.ptr ha
  have c3 := cell_of_at hb 3
  have c4 := cell_of_at hb 4
  have f3 := free_of_at hb 3
  have f4 := free_of_at hb 4
  simp only [runCells, List.getElem?_toArray, List.getElem?_cons_zero, List.getElem?_cons_succ] at c3 c4
  have hne : ∀ k, g.ok N k → k ≠ rb := fun k hk e => hk.1 (e ▸ h.inN)
  have hw : ∀ k, k ≠ rb → ((w.setCell ⟨rb, 3, none⟩ (.iface tv xv)).setCell ⟨rb, 4, none⟩ (.pointer p)).heap[k]? = w.heap[k]? := fun k hk => by rw [Below.heap_setCell _ _ _ _ hk, Below.heap_setCell _ _ _ _ hk]
  have hst : ∀ k, k < w.heap.size → g.ok N k → g.ok N k ∧ ((w.setCell ⟨rb, 3, none⟩ (.iface tv xv)).setCell ⟨rb, 4, none⟩ (.pointer p)).heap[k]? = w.heap[k]? := fun k _ ho => ⟨ho, hw k (hne k ho)⟩
  have hR : RunAt N g rb fuel (s.eval f e) ((w.setCell ⟨rb, 3, none⟩ (.iface tv xv)).setCell ⟨rb, 4, none⟩ (.pointer p)) := by
    refine h.upd (by simp) (fun k _ hk => hw k hk) ⟨rfl, rfl⟩ ⟨T, .iface tv xv, .pointer p, vv, vt, vb, ?_, ⟨hv.mono hst, ha.mono hst⟩, ht.mono hst, hy.mono hst⟩ h.bound.1
    rw [at_setCell (at_setCell hb 3 _) 4 _]
    simp [runCells, St.eval]
  have hK : Kept (RM g rb) w ((w.setCell ⟨rb, 3, none⟩ (.iface tv xv)).setCell ⟨rb, 4, none⟩ (.pointer p)) := ((Kept.refl _ w).setCell (p := ⟨rb, 3, none⟩) (fun _ => Or.inl rfl) _).setCell (p := ⟨rb, 4, none⟩) (fun _ => Or.inl rfl) _
  clear h hb ht hy hv ha hne hw hst
  unfold ptrV
  go_enter Tryz.func110, Tryz.ntmps110
  go_wp2
  go_end0
  exact ⟨rfl, hR, hK⟩
/-- A form came to its end. -/
def WholeR (N : Nat → Prop) (g : Gh) (rb fuel : Nat) (t : St) (w : World) : Ending → World → Prop := fun e w' => e = .returned (.bool (t.kind == 0)) ∧ ∃ g', Gh.Next w g g' ∧ RunAt N g' rb fuel t w' ∧ Kept (RM g rb) w w'
/-- Where the loop stands. -/
structure Going (Iv : St → Prop) (N : Nat → Prop) (g : Gh) (rb fuel : Nat) (t : St) (w : World) (k : Nat) (wr : World) (g1 : Gh) (s1 : St) : Prop where
  runs : Hid (Runs fuel k s1 t)
  iv : Iv s1
  next : Gh.Next w g g1
  run : RunAt N g1 rb fuel s1 wr
  kept : Kept (RM g rb) w wr
theorem Going.on {Iv : St → Prop} {N : Nat → Prop} {g : Gh} {rb fuel : Nat} {t : St} {w : World} {k k' : Nat} {wr : World} {g1 : Gh} {s1 s2 : St} (h : Going Iv N g rb fuel t w k wr g1 s1) (hr : Runs fuel k' s2 t) (hiv : Iv s2) {w2 : World} {e : Ending} (h' : RunC N g1 rb fuel s2 wr e w2) : ∃ g2, Going Iv N g rb fuel t w k' w2 g2 s2 := by
  obtain ⟨_, g2, hn, hr2, hk⟩ := h'
  exact ⟨g2, hr, hiv, h.next.trans hn h.kept.size, hr2, h.kept.chain hk h.next.rm⟩
theorem round_of_ev {s : St} {fuel : Nat} {f : Rd.F} {e : Env} (hk : s.kind = 0) (hc : s.ctl = .ev f e) : s.round fuel = (match s.step? fuel with | (s, true) => s.start fuel f e | (s, false) => some s) := by
  cases s
  simp only at hk hc
  subst hk hc
  rfl
theorem round_of_val {s : St} {fuel : Nat} {v : V} {f : Fr} {fs : List Fr} (hk : s.kind = 0) (hc : s.ctl = .val v) (ht : s.todo = f :: fs) : s.round fuel = { s with todo := fs }.go fuel f v := by
  cases s
  simp only at hk hc ht
  subst hk hc ht
  rfl
theorem round_of_pop {s : St} {fuel : Nat} {v : V} {t : List Fr} {b : List (List Fr)} (hk : s.kind = 0) (hc : s.ctl = .val v) (ht : s.todo = []) (hb : s.beyond = t :: b) : s.round fuel = some { s with todo := t, beyond := b } := by
  cases s
  simp only at hk hc ht hb
  subst hk hc ht hb
  rfl
theorem round_of_end {s : St} {fuel : Nat} {v : V} (hk : s.kind = 0) (hc : s.ctl = .val v) (ht : s.todo = []) (hb : s.beyond = []) : s.round fuel = none := by
  cases s
  simp only at hk hc ht hb
  subst hk hc ht hb
  rfl
theorem RepM.todo_inv {mb : Gt} {ok : Nat → Prop} {w : World} {x : Value} {f : Fr} {fs : List Fr} (h : RepM mb ok w x (.todo (f :: fs))) :
    ∃ b d n T, x = ptrV b ∧ ok b ∧ w.heap[b]? = some (.cells #[d, n] T (0, 0)) ∧ RepM mb ok w d (.fr f) ∧ RepM mb ok w n (.todo fs) := by
  cases h with
  | todo1 b d n T _ _ hb hh h1 h2 => exact ⟨b, d, n, T, rfl, hb, hh, h1, h2⟩
theorem RunAt.ev {N : Nat → Prop} {g : Gh} {rb fuel : Nat} {s : St} {w : World} (h : RunAt N g rb fuel s w) {f : Rd.F} {e : Env} (hc : s.ctl = .ev f e) :
    ∃ tv xv p, w.cell? ⟨rb, 3, none⟩ = some (.iface tv xv) ∧ w.cell? ⟨rb, 4, none⟩ = some (.pointer p) ∧ RepF (g.ok N) w (.iface tv xv) f ∧ RepM g.tb (g.ok N) w (.pointer p) (.env e) := by
  obtain ⟨T, vf, va, vv, vt, vb, hb, hcc, ht, hy⟩ := h.blk
  rw [hc] at hcc
  obtain ⟨h1, h2⟩ := hcc
  obtain ⟨tv, xv, rfl⟩ := RepF.iface h1
  obtain ⟨p, rfl⟩ := RepM.ptr h2
  have c3 := cell_of_at hb 3
  have c4 := cell_of_at hb 4
  simp only [runCells, List.getElem?_toArray, List.getElem?_cons_zero, List.getElem?_cons_succ] at c3 c4
  exact ⟨tv, xv, p, c3, c4, h1, h2⟩
set_option maxHeartbeats 4000000 in
set_option maxRecDepth 10000 in
theorem whole_any (HC : CallC) (Iv : St → Prop) (N : Nat → Prop) (g : Gh) (rb fuel n : Nat) (s t : St) (w : World) (h : RunAt0 N g rb fuel s w) (v : Value) (f : Rd.F) (hv : RepF (g.ok N) w v f) (hIv : Inv fuel Iv) (hiv : Iv (s.eval f [])) (hx : Runs fuel n (s.eval f []) t) (he : t.ended) :
    Calls Tryz.prog 64 #[ptrV rb, v] w (WholeR N g rb fuel t w) := by
  have HE : Hid (Calls Tryz.prog 110 #[.pointer (some ⟨rb, 0, none⟩), v, .pointer none] w (RunK N g rb fuel (s.eval f []) w)) := evaluate0 N g rb fuel s w h v (.pointer none) f [] hv .env0
  obtain ⟨tv, xv, rfl⟩ := RepF.iface hv
  have HX : Hid (Runs fuel n (s.eval f []) t) := hx
  have HIV : Hid (Inv fuel Iv) := hIv
  have HIS : Hid (Iv (s.eval f [])) := hiv
  have HT : Hid t.ended := he
  clear h hv hx he hIv hiv
  unfold ptrV
  go_enter Tryz.func64, Tryz.ntmps64
  go_wp2_with (first | (go_at_call 110; refine HE.out.mono ?_; rintro e2 w2 ⟨rfl, hr2, hk2⟩))
  go_loopg [5] n (fun k _ wr => ∃ g1 s1, Going Iv N g rb fuel t w k wr g1 s1)
  case atStart => exact ⟨g, _, HX, HIS.out, Gh.Next.refl _ _, hr2, hk2⟩
  case round =>
    obtain ⟨g1, s1, hG⟩ := hrel
    have HG := (show Hid _ from hG)
    have hrun := hG.run
    have hR := hG.runs.out
    obtain ⟨T, vf, va, vv, vt, vb, hb, hc, ht, hy⟩ := hrun.blk
    have c3 := cell_of_at hb 3
    have c4 := cell_of_at hb 4
    have c5 := cell_of_at hb 5
    have c6 := cell_of_at hb 6
    have c7 := cell_of_at hb 7
    have c8 := cell_of_at hb 8
    have f6 := free_of_at hb 6
    simp only [runCells, List.getElem?_toArray, List.getElem?_cons_zero, List.getElem?_cons_succ] at c3 c4 c5 c6 c7 c8
    have hiv1 := hG.iv
    have hfits := HIV.out.fits _ hiv1
    clear hG HX HIS hr2 hk2
    cases hR with
    | nil =>
      by_cases hk : t.kind = 0
      · have hvv : (∃ v, t.ctl = .val v) ∧ t.todo = [] ∧ t.beyond = [] := by
          rcases HT.out with h | h
          · exact absurd hk h
          · exact h
        obtain ⟨⟨v, hv⟩, h1, h2⟩ := hvv
        rw [hv] at hc
        rw [h1] at ht
        rw [h2] at hy
        obtain ⟨rfl, hcv⟩ := hc
        obtain rfl : vb = .pointer none := hy
        obtain rfl : vt = .pointer none := by cases ht; rfl
        rw [hk] at c8
        have hkb : (t.kind == 0) = true := by rw [hk]; rfl
        have HF : Hid (WholeR N g rb fuel t w (.returned (.bool true)) wr) := ⟨by rw [hkb], g1, HG.out.next, HG.out.run, HG.out.kept⟩
        clear hb hcv ht hrun h1 h2 hv hk hkb HT hfits hiv1
        go_wp2
        go_ret
        exact HF.out
      · have hkb : (t.kind == 0) = false := by simpa using hk
        have hki : ¬ ((t.kind : Int) = 0) := by omega
        have HF : Hid (WholeR N g rb fuel t w (.returned (.bool false)) wr) := ⟨by rw [hkb], g1, HG.out.next, HG.out.run, HG.out.kept⟩
        clear hb hc ht hrun hy hk hkb HT hfits hiv1
        go_wp2
        go_ret
        exact HF.out
    | @cons n' _ s2 _ h1 k1 =>
      have hk : s1.kind = 0 := by
        unfold St.round at h1
        split at h1
        · cases h1
        · omega
      have HR1 : Hid (s1.round fuel = some s2) := h1
      have HON : Hid (∀ (w2 : World) (e : Ending), RunC N g1 rb fuel s2 wr e w2 → ∃ g2 s3, Going Iv N g rb fuel t w n' w2 g2 s3) := fun w2 e hr => by
        obtain ⟨g2, h2⟩ := HG.out.on k1 (HIV.out.on _ _ hiv1 HR1.out) hr
        exact ⟨g2, s2, h2⟩
      rw [hk] at c8
      cases hct : s1.ctl with
      | ev f1 e1 =>
        rw [hct] at hc
        obtain ⟨tf, xf, rfl⟩ := RepF.iface hc.1
        have HS := step_any N g1 rb fuel s1 wr hrun
        unfold StepR at HS
        have hsc : (s1.step? fuel).1.ctl = .ev f1 e1 := by
          unfold St.step?
          split <;> exact hct
        have hsh : (s1.step? fuel).1.shown.length < 1000000 := by
          unfold St.step?
          split <;> exact hfits.1
        rw [round_of_ev hk hct] at h1
        generalize s1.step? fuel = sr at *
        obtain ⟨s1', r⟩ := sr
        cases r with
        | false =>
          cases h1
          clear hb hc ht hrun hy HT hsc hsh hfits
          unfold ptrV at HS
          go_wp2_with (first | (go_at_call 111; refine HS.mono ?_; rintro e2 w2 ⟨rfl, hr2, hk2⟩))
          go_roundg n'
          case measure => omega
          case rel => exact HON.out _ _ (RunK.c ⟨rfl, hr2, hk2⟩)
        | true =>
          have HST : Hid (∀ (w2 : World) (v a : Value), RunAt N g1 rb fuel s1' w2 → Kept (RM g1 rb) wr w2 → RepF (g1.ok N) w2 v f1 → RepM g1.tb (g1.ok N) w2 a (.env e1) → Calls Tryz.prog 112 #[.pointer (some ⟨rb, 0, none⟩), v, a] w2.drew (RunC N g1 rb fuel s2 wr)) := fun w2 v a hr2 hk2 h2 h3 =>
            (start_any HC N g1 rb fuel s1' s2 w2.drew hr2.drew v a f1 e1 (h2.mono fun _ _ ho => ⟨ho, rfl⟩) (h3.mono fun _ _ ho => ⟨ho, rfl⟩) ⟨hsh, fun u hu => (by simp at hu), Nat.zero_le _⟩ h1).mono fun _ _ hr => RunC.after hk2.drew hr
          clear hb hc ht hrun hy HT h1 hsh hfits
          unfold ptrV at HS
          go_wp2_with (first | (go_at_call 111; refine HS.mono ?_; rintro e2 w2 ⟨rfl, hr2, hk2⟩; obtain ⟨tv2, xv2, p2, d3, d4, hf2, he2⟩ := hr2.ev hsc; have HCA := HST.out _ _ _ hr2 hk2 hf2 he2; have HR2 := (show Hid _ from hr2); clear hr2 hf2 he2))
          go_region_with (first | (go_at_call 112; refine HCA.mono ?_; rintro e3 w3 ⟨rfl, hr3⟩))
          all_goals
            go_wp2
            go_roundg n'
            case measure => omega
            case rel => exact HON.out _ _ ⟨rfl, hr3⟩
      | val v =>
        rw [hct] at hc
        obtain ⟨rfl, hcv⟩ := hc
        obtain ⟨tz, xz, rfl⟩ := hcv.iface
        cases htd : s1.todo with
        | cons f1 fs1 =>
          rw [round_of_val hk hct htd] at h1
          rw [htd] at ht
          obtain ⟨tb, d, nx, TT, rfl, htb, hth, hd, hnx⟩ := ht.todo_inv
          obtain ⟨pn, rfl⟩ := hnx.ptr'
          obtain ⟨q0, q1, _, _⟩ := cells2 hth
          have hne : ∀ k, g1.ok N k → k ≠ rb := fun k hk e => hk.1 (e ▸ hrun.inN)
          have hw : ∀ k, k ≠ rb → (wr.setCell ⟨rb, 6, none⟩ (.pointer pn)).heap[k]? = wr.heap[k]? := fun k hk => Below.heap_setCell _ _ _ _ hk
          have hst : ∀ k, k < wr.heap.size → g1.ok N k → g1.ok N k ∧ (wr.setCell ⟨rb, 6, none⟩ (.pointer pn)).heap[k]? = wr.heap[k]? := fun k _ ho => ⟨ho, hw k (hne k ho)⟩
          have hR : RunAt N g1 rb fuel { s1 with todo := fs1 } (wr.setCell ⟨rb, 6, none⟩ (.pointer pn)) := by
            refine hrun.upd (by simp) (fun k _ hk => hw k hk) ⟨rfl, rfl⟩ ⟨T, .nilIface, va, .iface tz xz, .pointer pn, vb, ?_, ?_, hnx.mono hst, hy.mono hst⟩ hrun.bound.1
            · rw [at_setCell hb 6 _]
              simp [runCells]
            · rw [show ({ s1 with todo := fs1 } : St).ctl = .val v from hct]
              exact ⟨rfl, hcv.mono hst⟩
          have hK : Kept (RM g1 rb) wr (wr.setCell ⟨rb, 6, none⟩ (.pointer pn)) := (Kept.refl _ wr).setCell (p := ⟨rb, 6, none⟩) (fun _ => Or.inl rfl) _
          obtain ⟨k, bs, hbs, rfl, HCA⟩ := go_any HC N g1 rb fuel _ s2 _ hR.drew d (.iface tz xz) f1 v (hd.mono hst) (hcv.mono hst) ⟨hfits.1, hfits.2.1 v hct, hfits.2.2 f1 fs1 htd⟩ h1
          have HCB : Calls Tryz.prog k (#[.pointer (some ⟨rb, 0, none⟩), .iface tz xz] ++ (bs.map ptrV).toArray) (wr.setCell ⟨rb, 6, none⟩ (.pointer pn)).drew (RunC N g1 rb fuel s2 wr) := HCA.mono fun _ _ hr => RunC.after hK.drew hr
          unfold capFn at q0
          have hrt : ¬ tb = rb := hne tb htb
          clear hb ht hrun hy HT h1 hcv hd hnx hth hw hst hR hK HCA htb hfits
          unfold ptrV at c6
          rcases hbs with ⟨b1, b2, hkk, rfl⟩ | ⟨b1, hkk, rfl⟩ | ⟨b0, b1, b2, hkk, rfl⟩ | ⟨b1, b2, b3, b4, hkk, rfl⟩
          · simp only [List.map_cons, List.map_nil, ptrV] at q0 HCB
            rcases hkk with rfl | rfl | rfl
            · go_wp2
              go_region_with (first | (go_at_call 161; refine HCB.mono ?_; rintro e3 w3 ⟨rfl, hr3⟩))
              all_goals
                go_wp2
                go_roundg n'
                case measure => omega
                case rel => exact HON.out _ _ ⟨rfl, hr3⟩
            · go_wp2
              go_region_with (first | (go_at_call 162; refine HCB.mono ?_; rintro e3 w3 ⟨rfl, hr3⟩))
              all_goals
                go_wp2
                go_roundg n'
                case measure => omega
                case rel => exact HON.out _ _ ⟨rfl, hr3⟩
            · go_wp2
              go_region_with (first | (go_at_call 164; refine HCB.mono ?_; rintro e3 w3 ⟨rfl, hr3⟩))
              all_goals
                go_wp2
                go_roundg n'
                case measure => omega
                case rel => exact HON.out _ _ ⟨rfl, hr3⟩
          · subst hkk
            simp only [List.map_cons, List.map_nil, ptrV] at q0 HCB
            go_wp2
            go_region_with (first | (go_at_call 168; refine HCB.mono ?_; rintro e3 w3 ⟨rfl, hr3⟩))
            all_goals
              go_wp2
              go_roundg n'
              case measure => omega
              case rel => exact HON.out _ _ ⟨rfl, hr3⟩
          · subst hkk
            simp only [List.map_cons, List.map_nil, ptrV] at q0 HCB
            go_wp2
            go_region_with (first | (go_at_call 165; refine HCB.mono ?_; rintro e3 w3 ⟨rfl, hr3⟩))
            all_goals
              go_wp2
              go_roundg n'
              case measure => omega
              case rel => exact HON.out _ _ ⟨rfl, hr3⟩
          · subst hkk
            simp only [List.map_cons, List.map_nil, ptrV] at q0 HCB
            go_wp2
            go_region_with (first | (go_at_call 169; refine HCB.mono ?_; rintro e3 w3 ⟨rfl, hr3⟩))
            all_goals
              go_wp2
              go_roundg n'
              case measure => omega
              case rel => exact HON.out _ _ ⟨rfl, hr3⟩
        | nil =>
          rw [htd] at ht
          obtain rfl : vt = .pointer none := by cases ht; rfl
          cases hbd : s1.beyond with
          | nil => rw [round_of_end hk hct htd hbd] at h1; cases h1
          | cons t1 b1 =>
            rw [round_of_pop hk hct htd hbd] at h1
            cases h1
            have HL := runLeave_any N g1 rb fuel s1 wr hrun t1 b1 hbd
            rw [hbd] at hy
            obtain ⟨kb, xb, yb, Tb, rfl, _⟩ := hy
            clear hb ht hrun HT hcv hfits
            unfold ptrV at *
            go_wp2_with (first | (go_at_call 113; refine HL.mono ?_; rintro e2 w2 ⟨rfl, hr2, hk2⟩))
            go_roundg n'
            case measure => omega
            case rel => exact HON.out _ _ (RunK.c ⟨rfl, hr2, hk2⟩)
end Kc
end Go.Proofs.YtodeeegbajgafaaGreatDoor
