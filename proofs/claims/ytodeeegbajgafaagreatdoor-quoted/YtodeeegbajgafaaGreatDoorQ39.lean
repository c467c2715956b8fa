/- The rule of let. The walk of the rule of let. -/
import Derived.Test.YtodeeegbajgafaaGreatDoorQ38
import Derived.Test.YtodeeegbajgafaaGreatDoorQ18
namespace Go.Proofs.YtodeeegbajgafaaGreatDoor
open Go.RowKit

/-- An own row whose elements are data is a slice of data. -/
theorem own_reps2 {B : Nat} {ok : Nat → Prop} {w : World} {v : Value} {ds : List Rd.D} {xs : List Value} (ho : w.ownsRow B 62 3 v ds.length xs) (hB : ∀ g, B ≤ g → ok g) (hs : ∀ i (hi : i < ds.length), RepD ok w (el3 xs i) ds[i]) :
    RepS ok w v ds := by
  obtain ⟨hx, h | ⟨g, cap, cur, rfl, hg, hh, hn, hcap, hcs, htk⟩⟩ := ho
  · obtain ⟨rfl, h0⟩ := h
    exact Or.inl ⟨rfl, List.length_eq_zero_iff.1 h0⟩
  · refine Or.inr ⟨g, 0, cap, cur, 62, fun i => xs.getD (3 * i) undef, fun i => xs.getD (3 * i + 1) undef, fun i => xs.getD (3 * i + 2) undef, rfl, hB g hg, hh, hn, ?_, fun i hi => hs i hi⟩
    intro i hi
    have key : ∀ j, j < ds.length * 3 → cur[j]? = some (xs.getD j undef) := by
      intro j hj
      have h1 : (cur.toList.take (ds.length * 3))[j]? = xs[j]? := by rw [htk]
      rw [List.getElem?_take, if_pos hj] at h1
      rw [← Array.getElem?_toList, h1, List.getD_eq_getElem?_getD, List.getElem?_eq_getElem (by omega)]
      rfl
    refine ⟨?_, ?_, ?_⟩
    · rw [Nat.zero_add]; exact key _ (by omega)
    · rw [Nat.zero_add]; exact key _ (by omega)
    · rw [Nat.zero_add]; exact key _ (by omega)

/-- What the loop over the bindings keeps. -/
structure Letting (pb sb kb : Nat) (env : List (List Rd.Sym)) (B : Nat) (w : World) (ks vs : List Rd.D) (v5 v6 : Value) (wr : World) : Prop where
  par : PAt pb sb kb env wr
  kept : Below B w wr
  sz : B ≤ wr.heap.size
  own5 : ∃ xs, wr.ownsRow B 62 3 v5 ks.length xs ∧ ∀ i (hi : i < ks.length), RepD (fun k => ¬ PM pb sb k ∧ k < B) wr (el3 xs i) ks[i]
  own6 : ∃ xs, wr.ownsRow B 62 3 v6 vs.length xs ∧ ∀ i (hi : i < vs.length), RepD (fun k => ¬ PM pb sb k ∧ k < B) wr (el3 xs i) vs[i]
  diff : ∀ g, v5.ownBlock = some g → v6.ownBlock ≠ some g

theorem el3_old {xs : List Value} {a b c : Value} {i n : Nat} (hx : xs.length = n * 3) (hi : i < n) : el3 (xs ++ [a, b, c]) i = el3 xs i := by
  unfold el3
  simp only [List.getD_eq_getElem?_getD]
  rw [List.getElem?_append_left (by omega), List.getElem?_append_left (by omega), List.getElem?_append_left (by omega)]
theorem el3_new {xs : List Value} {a b c : Value} {n : Nat} (hx : xs.length = n * 3) : el3 (xs ++ [a, b, c]) n = .agg #[a, b, c] := by
  unfold el3
  simp only [List.getD_eq_getElem?_getD]
  rw [List.getElem?_append_right (by omega), List.getElem?_append_right (by omega), List.getElem?_append_right (by omega)]
  rw [show 3 * n - xs.length = 0 by omega, show 3 * n + 1 - xs.length = 1 by omega, show 3 * n + 2 - xs.length = 2 by omega]
  rfl

/-- Rows of data behind one more. -/
theorem row_push {ok : Nat → Prop} {w w' : World} {ds : List Rd.D} {xs : List Value} {a b c : Value} {d : Rd.D} (hx : xs.length = ds.length * 3) (hs : ∀ i (hi : i < ds.length), RepD ok w (el3 xs i) ds[i]) (hd : RepD ok w (.agg #[a, b, c]) d)
    (hk : ∀ k, k < w.heap.size → ok k → w'.heap[k]? = w.heap[k]?) : ∀ i (hi : i < (ds ++ [d]).length), RepD ok w' (el3 (xs ++ [a, b, c]) i) (ds ++ [d])[i] := by
  intro i hi
  simp only [List.length_append, List.length_cons, List.length_nil] at hi
  by_cases h : i < ds.length
  · rw [el3_old hx h, List.getElem_append_left h]
    exact (hs i h).mono fun k h1 h2 => ⟨h2, hk k h1 h2⟩
  · have : i = ds.length := by omega
    subst this
    rw [el3_new hx]
    simp only [List.getElem_append_right (Nat.le_refl _), Nat.sub_self, List.getElem_cons_zero]
    exact hd.mono fun k h1 h2 => ⟨h2, hk k h1 h2⟩

theorem Rd.binds_more {d : Rd.D} {ds : List Rd.D} {r : List Rd.D × List Rd.D} (h : Rd.binds (d :: ds) = some r) : ∃ p a b xs ys, d = .mk p [a, b] .empty ∧ Rd.binds ds = some (xs, ys) ∧ r = (a :: xs, b :: ys) := by
  unfold Rd.binds at h
  split at h
  · rename_i e; cases e
  · rename_i p a b ds' e
    cases e
    split at h
    · rename_i xs ys hb
      cases h
      exact ⟨p, a, b, xs, ys, rfl, hb, rfl⟩
    · cases h
  · cases h

theorem ownsRow_grown {B : Nat} {e size n : Nat} {v : Value} {xs : List Value} {w w' : World} {row : Option Nat} (h : w.ownsRow B e size v n xs) (hg : w.grownBy w' row) (hr : ∀ g, v.ownBlock = some g → row ≠ some g) : w'.ownsRow B e size v n xs := by
  obtain ⟨h1, h2 | ⟨g, cap, cur, hv, hB, hh, r⟩⟩ := h
  · exact ⟨h1, Or.inl h2⟩
  · refine ⟨h1, Or.inr ⟨g, cap, cur, hv, hB, ?_, r⟩⟩
    rw [hg.block g (lt_of_at hh) (fun e => hr g (by rw [hv]; rfl) e.symm)]
    exact hh

theorem Letting.push {pb sb kb : Nat} {env : List (List Rd.Sym)} {B : Nat} {w : World} {ks vs : List Rd.D} {u5 u6 v5 v6 : Value} {wr X1 X2 X3 X4 : World} {xs5 xs6 : List Value} {a0 a1 a2 b0 b1 b2 : Value} {a b : Rd.D}
    (hpar : PAt pb sb kb env wr) (hkept : Below B w wr) (hsz : B ≤ wr.heap.size) (hlp : pb < B ∧ sb < B ∧ kb < B)
    (h5 : wr.ownsRow B 62 3 u5 ks.length xs5) (r5 : ∀ i (hi : i < ks.length), RepD (fun k => ¬ PM pb sb k ∧ k < B) wr (el3 xs5 i) ks[i])
    (h6 : wr.ownsRow B 62 3 u6 vs.length xs6) (r6 : ∀ i (hi : i < vs.length), RepD (fun k => ¬ PM pb sb k ∧ k < B) wr (el3 xs6 i) vs[i])
    (hdf : ∀ g, u5.ownBlock = some g → u6.ownBlock ≠ some g)
    (ha : RepD (fun k => ¬ PM pb sb k ∧ k < B) wr (.agg #[a0, a1, a2]) a) (hb : RepD (fun k => ¬ PM pb sb k ∧ k < B) wr (.agg #[b0, b1, b2]) b)
    (hb1 : Below wr.heap.size wr X1) (ho5 : X2.ownsRow B 62 3 v5 (ks.length + 1) (xs5 ++ [a0, a1, a2])) (hg1 : X1.grownBy X2 u5.ownBlock) (hat1 : v5.ownBlock = u5.ownBlock ∨ v5.ownBlock = some X1.heap.size)
    (hb2 : Below X2.heap.size X2 X3) (ho6 : X4.ownsRow B 62 3 v6 (vs.length + 1) (xs6 ++ [b0, b1, b2])) (hg2 : X3.grownBy X4 u6.ownBlock) (hat2 : v6.ownBlock = u6.ownBlock ∨ v6.ownBlock = some X3.heap.size) :
    Letting pb sb kb env B w (ks ++ [a]) (vs ++ [b]) v5 v6 X4 := by
  have l5 := ownBlock_of h5
  have l6 := ownBlock_of h6
  have lv5 := ownBlock_of ho5
  have s1 := hb1.size
  have s2 := hg1.size
  have s3 := hb2.size
  have s4 := hg2.size
  have hdiff1 : ∀ g, v5.ownBlock = some g → u6.ownBlock ≠ some g := by
    intro g e
    rcases hat1 with h | h
    · exact hdf g (by rw [← h]; exact e)
    · rw [h] at e; cases e
      intro e'; have := (l6 _ e').2; omega
  have hkeep : ∀ k, k < B → X4.heap[k]? = wr.heap[k]? := by
    intro k hk
    rw [hg2.block k (by omega) (fun e => by have := (l6 k e.symm).1; omega), hb2.block k (by omega), hg1.block k (by omega) (fun e => by have := (l5 k e.symm).1; omega), hb1.block k (by omega)]
  have hmv : ∀ k, k < wr.heap.size → (¬ PM pb sb k ∧ k < B) → X4.heap[k]? = wr.heap[k]? := fun k _ h => hkeep k h.2
  refine ⟨?_, ?_, by omega, ⟨xs5 ++ [a0, a1, a2], ?_, row_push h5.1 r5 ha hmv⟩, ⟨xs6 ++ [b0, b1, b2], by simpa using ho6, row_push h6.1 r6 hb hmv⟩, ?_⟩
  · have p1 := (hpar.kept hb1).grown (B := B) hlp hg1 (fun k e => (l5 k e).1)
    exact (p1.kept hb2).grown (B := B) hlp hg2 (fun k e => (l6 k e).1)
  · exact (((hkept.trans (hb1.mono hsz)).grown hg1 (by omega) (fun k e => (l5 k e).1)).trans (hb2.mono (by omega))).grown hg2 (by omega) (fun k e => (l6 k e).1)
  · have := ownsRow_grown (ownsRow_kept' ho5 hb2) hg2 hdiff1
    simpa using this
  · intro g e
    rcases hat2 with h | h
    · rw [h]; exact hdiff1 g e
    · rw [h]; intro e'; cases e'
      have := (lv5 _ e).2; omega

set_option maxHeartbeats 1000000 in
set_option maxRecDepth 10000 in
theorem forms_nil (pb sb kb : Nat) (env : List (List Rd.Sym)) (w : World) (sl : Value) (hp : PAt pb sb kb env w) (hsl : RepS (fun k => ¬ PM pb sb k) w sl []) :
    Calls Tryz.prog 101 #[.pointer (some ⟨pb, 0, none⟩), sl] w fun e w' => ∃ fv, e = .returned fv ∧ RepFs (fun k => w.heap.size ≤ k) w' fv [] ∧ PAt pb sb kb env w' ∧ Kept (PM pb sb) w w' := by
  obtain ⟨bb, cap, rfl⟩ : ∃ b cap, sl = .slice b 0 cap := by
    rcases hsl with ⟨rfl, _⟩ | ⟨g, o, cap, c, T, va, vb, vc, rfl, _, _, hn, _⟩
    · exact ⟨none, 0, rfl⟩
    · exact ⟨_, cap, rfl⟩
  have hmk := fun w => run_make_row' (P := Tryz.prog) 65 96 .nilIface 16 Tryz.underlying65 Tryz.info96 rfl .i64 .i64 0 (by omega) (by omega) w
  simp only [show ((0 : Nat) : Int) = 0 from rfl] at hmk
  have hp2 := hp.kept ((Below.refl _ w).alloc (Nat.le_refl _) (.cells (madeCells #[.nilIface] 0) 96))
  have hk2 : Kept (PM pb sb) w (w.alloc (.cells (madeCells #[.nilIface] 0) 96)) := (Kept.refl _ w).alloc _
  have hnew := at_new w (.cells (madeCells #[.nilIface] 0) 96)
  clear hp hsl
  go_enter Tryz.func101, Tryz.ntmps101
  go_wp2
  go_loopg [13] 0 (fun _ i wr => i = .int .i64 0 ∧ wr = w.alloc (.cells (madeCells #[.nilIface] 0) 96))
  case atStart => exact ⟨rfl, rfl⟩
  case round =>
    obtain ⟨rfl, rfl⟩ := hrel
    go_wp2
    go_ret
    refine ⟨_, rfl, ?_, hp2, hk2⟩
    exact .list w.heap.size 0 0 _ 96 [] (fun _ => undef) (Nat.le_refl _) hnew (Nat.le_refl _) (by omega) (fun i hi => absurd hi (Nat.not_lt_zero _)) (fun i hi => absurd hi (Nat.not_lt_zero _))

theorem forms_all (f : Nat) (HF : FormsC f) (pb sb kb : Nat) (env : List (List Rd.Sym)) (w : World) (ds : List Rd.D) (xs : List Rd.F) (sl : Value) (hp : PAt pb sb kb env w) (hf : env.length + f ≤ 5000) (hsl : RepS (fun k => ¬ PM pb sb k) w sl ds) (hpf : Rd.pForms f env ds = some xs) :
    Calls Tryz.prog 101 #[.pointer (some ⟨pb, 0, none⟩), sl] w fun e w' => ∃ fv, e = .returned fv ∧ RepFs (fun k => w.heap.size ≤ k) w' fv xs ∧ PAt pb sb kb env w' ∧ Kept (PM pb sb) w w' := by
  by_cases h : ds = []
  · subst h
    have := (Rd.pForms_short _ _ _ _ hpf).2
    have : xs = [] := List.length_eq_zero_iff.1 this
    subst this
    exact forms_nil pb sb kb env w sl hp hsl
  · exact HF pb sb kb env w ds xs sl hp hf hsl hpf h
end Go.Proofs.YtodeeegbajgafaaGreatDoor

namespace Go.Proofs.YtodeeegbajgafaaGreatDoor
open Go.RowKit

theorem Rd.binds_len : ∀ (bs ks vs : List Rd.D), Rd.binds bs = some (ks, vs) → ks.length = bs.length ∧ vs.length = bs.length
  | [], ks, vs, h => by rw [Rd.binds] at h; cases h; exact ⟨rfl, rfl⟩
  | d :: ds, ks, vs, h => by
    obtain ⟨p, a, b, xs, ys, _, h2, h3⟩ := Rd.binds_more h
    cases h3
    have := Rd.binds_len ds xs ys h2
    simp; exact this

set_option maxHeartbeats 4000000 in
set_option maxRecDepth 100000 in
theorem let_any (f : Nat) (HF : FormsC f) : LetC f := by
  intro pb sb kb env w p g o cap d0 q bs rest ks vs ns ys xs hp hf hs hr hb hn hy hx
  obtain ⟨i0, hi, hz0, hz1, hz2⟩ := info_parts Tryz.info62
  obtain ⟨hkl, hvl⟩ := Rd.binds_len _ _ _ hb
  have hlen : 0 < rest.length := List.length_pos_iff.2 hr
  have hcap := hs.len.2
  simp only [List.length_cons] at hcap
  have hlp := hp.lt
  have hshort := (Rd.pForms_short _ _ _ _ hx).1
  have hbl : bs.length ≤ 5000 := by have := (Rd.pForms_short _ _ _ _ hy).1; omega
  have hnl := Rd.names_length _ _ _ hn
  simp only [List.length_nil, Nat.zero_add] at hnl
  have hnl5 : ns.length ≤ 5000 := by omega
  clear hnl
  have hdf := Rd.names_differ _ _ _ (fun i j hi _ _ => absurd hi (Nat.not_lt_zero _)) hn
  have hnb : ¬ PM pb sb w.heap.size := fun h => by rcases h with h | h <;> omega
  have hp2 := hp.kept ((Below.refl _ w).alloc (Nat.le_refl _) (.cells #[.int .i64 p, .slice (some ⟨g, o, none⟩) (rest.length + 2) cap, .iface 146 (.agg #[])] 62))
  have hs2 := hs.mono (ok' := fun k => ¬ PM pb sb k) (w' := w.alloc (.cells #[.int .i64 p, .slice (some ⟨g, o, none⟩) (rest.length + 2) cap, .iface 146 (.agg #[])] 62)) (fun k hk h => ⟨h, Below.heap_alloc _ _ _ hk⟩)
  obtain ⟨po, pc, e0, e1, e2, hok, hps⟩ := hs2.listAt 1 (by simp) (p := q) (ps := bs) (en := .empty) rfl
  simp only [Nat.mul_one, aV] at e0 e1 e2
  have HB := (show Hid _ from hb)
  have HN := (show Hid _ from hn)
  have HX := (show Hid _ from hx)
  have HY := (show Hid _ from hy)
  have HKL := (show Hid _ from hkl)
  have HVL := (show Hid _ from hvl)
  have HI : Hid (∀ W, Calls Tryz.prog 60 #[.agg #[.int .i64 q, .slice po bs.length pc, .iface 146 (.agg #[])]] W fun e w' => e = .returned (.bool true) ∧ Below W.heap.size W w') := fun W => isList_any q po bs.length pc .empty W
  have hpl := hps.len.2
  clear hb hn hx hy hs hkl hvl
  unfold lsV
  go_enter Tryz.func53, Tryz.ntmps53
  go_wp2_with (go_at_call 60; refine (HI.out _).mono ?_; rintro e w1 ⟨rfl, hb1⟩; have hsz1 : w.heap.size < w1.heap.size := (by have := hb1.size; simp at this; omega); have hbx := Below.at hb1 (at_new w _); obtain ⟨q0, q1, q2, _, _, _⟩ := cells3 hbx; have y0 := (Kept.of_below hb1 (PM pb sb)).cell hok e0; have y1 := (Kept.of_below hb1 (PM pb sb)).cell hok e1; have y2 := (Kept.of_below hb1 (PM pb sb)).cell hok e2)
  have hb01 : Below w.heap.size w w1 := ((Below.refl _ w).alloc (Nat.le_refl _) _).trans (hb1.mono (by simp))
  have hp1 := hp2.kept hb1
  have hs1 : RepS (fun k => ¬ PM pb sb k ∧ k < w1.heap.size) w1 (.slice (some ⟨g, o, none⟩) (rest.length + 2) cap) (d0 :: .mk q bs .empty :: rest) := hs2.mono fun k hk h => ⟨⟨h, Nat.lt_of_lt_of_le hk hb1.size⟩, hb1.block k hk⟩
  have hps1 : RepS (fun k => ¬ PM pb sb k ∧ k < w1.heap.size) w1 (.slice po bs.length pc) bs := hps.mono fun k hk h => ⟨⟨h, Nat.lt_of_lt_of_le hk hb1.size⟩, hb1.block k hk⟩
  have hgl : g < w1.heap.size := by
    rcases hs1 with ⟨h, _⟩ | ⟨g', o', cap', c, T, va, vb, vc, heq, h, _⟩
    · cases h
    · cases heq; exact h.2
  have hlp1 : pb < w1.heap.size ∧ sb < w1.heap.size ∧ kb < w1.heap.size := by omega
  have hL0 : Letting pb sb kb env w1.heap.size w1 [] [] (.slice none 0 0) (.slice none 0 0) w1 := ⟨hp1, Below.refl _ _, Nat.le_refl _, ⟨[], ⟨rfl, Or.inl ⟨rfl, rfl⟩⟩, fun i hi => absurd hi (Nat.not_lt_zero _)⟩, ⟨[], ⟨rfl, Or.inl ⟨rfl, rfl⟩⟩, fun i hi => absurd hi (Nat.not_lt_zero _)⟩, fun g e => by cases e⟩
  clear hp2 hs2 hps hb1 e0 e1 e2 hp y0 y2
  go_loopg [5, 6, 32] bs.length (fun k v5 v6 i wr => ∃ (j : Nat), j + k = bs.length ∧ i = .int .i64 j ∧ Hid (Rd.binds (bs.drop j) = some (ks.drop j, vs.drop j)) ∧ Letting pb sb kb env w1.heap.size w1 (ks.take j) (vs.take j) v5 v6 wr)
  case atStart => exact ⟨0, by omega, rfl, by simpa [Hid] using HB.out, by simpa using hL0⟩
  case round =>
    obtain ⟨j, hj, rfl, HBJ, hL⟩ := hrel
    obtain ⟨hpar, hkept, hsz, ⟨xs5, h5, r5⟩, ⟨xs6, h6, r6⟩, hd56⟩ := hL
    by_cases hlt : j < bs.length
    · have hsr := hps1.mono (ok' := fun k => ¬ PM pb sb k ∧ k < w1.heap.size) (w' := wr) (fun k hk h => ⟨h, hkept.block k h.2⟩)
      have hP := HBJ.out
      rw [List.drop_eq_getElem_cons hlt] at hP
      obtain ⟨pj, a, b, ks', vs', hbj, hbt, hbe⟩ := Rd.binds_more hP
      have hjk : j < ks.length := by have := HKL.out; omega
      have hjv : j < vs.length := by have := HVL.out; omega
      rw [List.drop_eq_getElem_cons hjk, List.drop_eq_getElem_cons hjv] at hbe
      simp only [Prod.mk.injEq, List.cons.injEq] at hbe
      obtain ⟨⟨hka, hkt⟩, hvb, hvt⟩ := hbe
      have HBN : Hid (Rd.binds (bs.drop (j + 1)) = some (ks.drop (j + 1), vs.drop (j + 1))) := by rw [Hid, hkt, hvt]; exact hbt
      have HKT : Hid (ks.take (j + 1) = ks.take j ++ [a]) := by rw [Hid, List.take_add_one, List.getElem?_eq_getElem hjk, hka]; rfl
      have HVT : Hid (vs.take (j + 1) = vs.take j ++ [b]) := by rw [Hid, List.take_add_one, List.getElem?_eq_getElem hjv, hvb]; rfl
      have hkj : (ks.take j).length = j := by rw [List.length_take]; omega
      have hvj : (vs.take j).length = j := by rw [List.length_take]; omega
      obtain ⟨gb, ob, capb, _, _, _, _, _, _, heq, _, _, _, _, _, _⟩ := hsr.cells j hlt
      simp only [Value.slice.injEq, true_and] at heq
      obtain ⟨rfl, rfl⟩ := heq
      obtain ⟨po2, pc2, c0, c1, c2, hokb, hab⟩ := hsr.listAt j hlt (p := pj) (ps := [a, b]) (en := .empty) hbj
      simp only [List.length_cons, List.length_nil, Nat.zero_add, Nat.reduceAdd, aV] at c0 c1 c2 hab
      obtain ⟨ga, oa, capa, p0, po0, pn0, pc0, ti0, xv0, heq, hoka, hca, f0, f1, f2, hra⟩ := hab.cells 0 (by simp)
      simp only [Value.slice.injEq, List.length_cons, List.length_nil, Nat.zero_add, Nat.reduceAdd, true_and] at heq
      obtain ⟨rfl, rfl⟩ := heq
      obtain ⟨ga', oa', capa', p1, po1, pn1, pc1, ti1, xv1, heq, _, _, g0, g1, g2, hrb⟩ := hab.cells 1 (by simp)
      simp only [Value.slice.injEq, List.length_cons, List.length_nil, Nat.zero_add, Nat.reduceAdd, true_and, Option.some.injEq, Addr.mk.injEq, and_true] at heq
      obtain ⟨⟨rfl, rfl⟩, rfl⟩ := heq
      simp only [List.getElem_cons_zero, List.getElem_cons_succ, Nat.mul_zero, Nat.add_zero, Nat.mul_one] at hra hrb f0 f1 f2 g0 g1 g2
      rw [Nat.mul_comm 3 j] at c0 c1 c2
      have HI2 : Hid (∀ W, Calls Tryz.prog 60 #[.agg #[.int .i64 pj, .slice (some ⟨ga, oa, none⟩) 2 pc2, .iface 146 (.agg #[])]] W fun e w' => e = .returned (.bool true) ∧ Below W.heap.size W w') := fun W => isList_any pj _ 2 pc2 .empty W
      have hgal : ga < w1.heap.size := hoka.2
      have hgbl : gb < w1.heap.size := hokb.2
      generalize hKJ : ks.take j = kj at *
      generalize hVJ : vs.take j = vj at *
      clear hKJ hVJ
      have A : Aside (PAt pb sb kb env wr ∧ Below w1.heap.size w1 wr ∧ wr.ownsRow w1.heap.size 62 3 u5 kj.length xs5 ∧ wr.ownsRow w1.heap.size 62 3 u6 vj.length xs6) := ⟨hpar, hkept, h5, h6⟩
      have A2 := (show Aside _ from r5)
      have A3 := (show Aside _ from r6)
      have A4 := (show Aside _ from hd56)
      have A5 := (show Aside _ from hra)
      have A6 := (show Aside _ from hrb)
      have A7 := (show Aside _ from hkj)
      have A8 := (show Aside _ from hvj)
      clear hsr hP hbj hbt hka hkt hvb hvt hab hpar hkept h5 h6 r5 r6 hd56 hra hrb hps1 hs1 hL0 HBJ hkj hvj
      go_wp2_with (first | (go_at_call 60; refine (HI2.out _).mono ?_; rintro e w2 ⟨rfl, hb2⟩; have hw2 : Below wr.heap.size wr w2 := ((Below.refl _ wr).alloc (Nat.le_refl _) _).trans (hb2.mono (by simp)); have hbin := Below.at hb2 (at_new wr _); obtain ⟨n0, n1, n2, _, _, _⟩ := cells3 hbin; have hs2 := hw2.size; have m0 := (Kept.of_below hw2 (fun _ => False)).cell id f0; have m1 := (Kept.of_below hw2 (fun _ => False)).cell id f1; have m2 := (Kept.of_below hw2 (fun _ => False)).cell id f2) | (at_builtin; refine wpList_append_own_at _ rfl _ _ 55 rfl w1.heap.size 62 i0 (.agg #[.int .i64 0, .slice none 0 0, .nilIface]) 3 48 Tryz.underlying55 hi hz0 hz1 hz2 rfl (by decide) u5 kj.length xs5 rfl ?h1 ⟨w2.heap.size, 0, none⟩ 1 1 [.int .i64 p0, .slice po0 pn0 pc0, .iface ti0 xv0] rfl rfl ?h2 ?h3 ?h4 ?h5 ?h6 ?_))
      case h1 => exact ownsRow_kept' A.out.2.2.1 (hw2.alloc hs2 _)
      case h2 => exact cell_three (at_new w2 _)
      case h3 => intro u hu; simp at hu; rcases hu with rfl | rfl | rfl <;> rfl
      case h4 => have := A7.out; unfold maxLen; omega
      case h5 => have := A7.out; omega
      case h6 => simp; omega
      intro v5 w3 hown5 hg1 _ hat1
      obtain ⟨hpar, hkept, h5, h6⟩ := A.out
      have lo5 := ownBlock_of h5
      have lo6 := ownBlock_of h6
      have hs3 : w2.heap.size + 1 ≤ w3.heap.size := by simpa using hg1.size
      have hne5 : ∀ k, u5.ownBlock = some k → w1.heap.size ≤ k := fun k e => (lo5 k e).1
      have hk23 : ∀ k, k < w2.heap.size → some k ≠ u5.ownBlock → w3.heap[k]? = w2.heap[k]? := fun k hk hne => by
        rw [hg1.block k (by simp; omega) hne, Below.heap_alloc _ _ _ hk]
      have hbin3 := (hk23 wr.heap.size (lt_of_at hbin) (fun e => by have := (lo5 _ e.symm).2; omega)).trans hbin
      obtain ⟨n0', n1', n2', _, _, _⟩ := cells3 hbin3
      have hga3 : ∀ o, w3.cell? ⟨ga, o, none⟩ = wr.cell? ⟨ga, o, none⟩ := fun o => World.cell?_of_block (by
        rw [hk23 ga (by omega) (fun e => by have := (lo5 _ e.symm).1; omega), hw2.block ga (by omega)])
      have m0' := (hga3 _).trans g0
      have m1' := (hga3 _).trans g1
      have m2' := (hga3 _).trans g2
      have hX1 : Below wr.heap.size wr (w2.alloc (.cells #[.int .i64 p0, .slice po0 pn0 pc0, .iface ti0 xv0] 62)) := hw2.alloc hs2 _
      have hw6 := ownsRow_grown (ownsRow_kept' h6 hX1) hg1 (fun k e e' => A4.out k e' e)
      have B1 : Aside (PAt pb sb kb env wr ∧ Below w1.heap.size w1 wr ∧ wr.ownsRow w1.heap.size 62 3 u5 kj.length xs5 ∧ wr.ownsRow w1.heap.size 62 3 u6 vj.length xs6) := ⟨hpar, hkept, h5, h6⟩
      have B2 := (show Aside _ from hown5)
      have B3 := (show Aside _ from hg1)
      have B4 := (show Aside _ from hat1)
      have B5 := (show Aside _ from hw6)
      have B6 := (show Aside _ from hX1)
      clear hown5 hg1 hat1 hw6 hX1 hpar hkept h5 h6 hga3 hk23 lo5 lo6 hne5 A hbin hbin3 n0 n1 n2 m0 m1 m2
      go_wp2_with (at_builtin; refine wpList_append_own_at _ rfl _ _ 55 rfl w1.heap.size 62 i0 (.agg #[.int .i64 0, .slice none 0 0, .nilIface]) 3 48 Tryz.underlying55 hi hz0 hz1 hz2 rfl (by decide) u6 vj.length xs6 rfl ?h1 ⟨w3.heap.size, 0, none⟩ 1 1 [.int .i64 p1, .slice po1 pn1 pc1, .iface ti1 xv1] rfl rfl ?h2 ?h3 ?h4 ?h5 ?h6 ?_)
      case h1 => exact ownsRow_kept' B5.out ((Below.refl _ w3).alloc (Nat.le_refl _) _)
      case h2 => exact cell_three (at_new w3 _)
      case h3 => intro u hu; simp at hu; rcases hu with rfl | rfl | rfl <;> rfl
      case h4 => have := A8.out; unfold maxLen; omega
      case h5 => have := A8.out; omega
      case h6 => simp; omega
      intro v6 w4 hown6 hg2 _ hat2
      obtain ⟨hpar, hkept, h5, h6⟩ := B1.out
      have hLn : Letting pb sb kb env w1.heap.size w1 (ks.take (j + 1)) (vs.take (j + 1)) v5 v6 w4 := by
        rw [HKT.out, HVT.out]
        exact Letting.push hpar hkept hsz hlp1 h5 A2.out h6 A3.out A4.out A5.out A6.out B6.out B2.out B3.out (by simpa using B4.out) ((Below.refl _ w3).alloc (Nat.le_refl _) _) hown6 hg2 (by simpa using hat2)
      clear hown6 hg2 hat2 hpar hkept h5 h6 B1 B2 B3 B4 B5 B6 A2 A3 A4 A5 A6 A7 A8
      go_wp2
      go_roundg (gk - 1)
      case measure => omega
      case rel => exact ⟨j + 1, by omega, by go_num, HBN, hLn⟩
    · have hjl : j = bs.length := by omega
      have hkt : ks.take j = ks := List.take_of_length_le (by have := HKL.out; omega)
      have hvt : vs.take j = vs := List.take_of_length_le (by have := HVL.out; omega)
      rw [hkt] at h5 r5
      rw [hvt] at h6 r6
      have hkl5 : ks.length ≤ 5000 := by have := HKL.out; omega
      have hRK : RepS (fun _ => True) wr u5 ks := (own_reps2 (ok := fun k => ¬ PM pb sb k ∧ k < w1.heap.size ∨ w1.heap.size ≤ k) h5 (fun g h => Or.inr h) (fun i hi => (r5 i hi).mono fun k _ h => ⟨Or.inl h, rfl⟩)).mono fun k _ _ => ⟨trivial, rfl⟩
      have hRV : RepS (fun k => ¬ PM pb sb k) wr u6 vs := own_reps2 h6 (fun g h h' => by rcases h' with h' | h' <;> omega) (fun i hi => (r6 i hi).mono fun k _ h => ⟨h.1, rfl⟩)
      have hRD : RepS (fun k => ¬ PM pb sb k ∧ k < w1.heap.size) wr (.slice (some ⟨g, o, none⟩) (rest.length + 2) cap) (d0 :: .mk q bs .empty :: rest) := hs1.mono (fun k hk h => ⟨h, hkept.block k h.2⟩)
      have hrd := hRD.drop 2 (by simp)
      simp only [List.length_cons, List.drop_succ_cons, List.drop_zero, show rest.length + 1 + 1 - 2 = rest.length by omega, show 3 * 2 = 6 by omega] at hrd
      have hbxr := (hkept.block w.heap.size hsz1).trans hbx
      obtain ⟨b5, c5, rfl⟩ : ∃ b c, u5 = .slice b ks.length c := by
        obtain ⟨_, ⟨rfl, e⟩ | ⟨g', cap', cur, rfl, _⟩⟩ := h5
        · exact ⟨none, 0, by rw [e]⟩
        · exact ⟨_, _, rfl⟩
      obtain ⟨b6, c6, rfl⟩ : ∃ b c, u6 = .slice b vs.length c := by
        obtain ⟨_, ⟨rfl, e⟩ | ⟨g', cap', cur, rfl, _⟩⟩ := h6
        · exact ⟨none, 0, by rw [e]⟩
        · exact ⟨_, _, rfl⟩
      clear h5 r5 h6 r6 hd56 hps1 hs1 hL0 HBJ hkt hvt q0 q1 q2 y1 hbx hRD
      go_wp2_with (go_at_call 103; refine (namesOf_any pb sb kb env _ ks ns _ hpar hRK HN.out hkl5).mono ?_; rintro e w2 ⟨nv, rfl, hnv, hb2⟩; obtain ⟨na, nc, rfl, hnc⟩ := hnv.shape; have hbx2 := Below.at hb2 hbxr; obtain ⟨q0, q1, q2, _, _, _⟩ := cells3 hbx2)
      have hs02 := hb2.size
      have hpw2 : PAt pb sb kb env w2.drew := hpar.kept hb2.drew
      have hRV2 : RepS (fun k => ¬ PM pb sb k) w2.drew (.slice b6 vs.length c6) vs := hRV.mono fun k hk h => ⟨h, hb2.block k hk⟩
      have hrd2 : RepS (fun k => ¬ PM pb sb k) w2.drew (.slice (some ⟨g, o + 6, none⟩) rest.length (cap - 2)) rest := hrd.mono fun k hk h => ⟨h.1, hb2.block k hk⟩
      have hnv2 : RepN (fun k => ¬ PM pb sb k) w2.drew (.slice na ns.length nc) ns := hnv.mono fun k _ hge => ⟨fun h => by rcases h with h | h <;> omega, rfl⟩
      have HFA : Hid (Calls Tryz.prog 101 #[.pointer (some ⟨pb, 0, none⟩), .slice b6 vs.length c6] w2.drew fun e w' => ∃ fv, e = .returned fv ∧ RepFs (fun k => w2.drew.heap.size ≤ k) w' fv ys ∧ PAt pb sb kb env w' ∧ Kept (PM pb sb) w2.drew w') := forms_all f HF pb sb kb env w2.drew vs ys _ hpw2 (by omega) hRV2 HY.out
      have HFW : Hid (∀ W, PAt pb sb kb env W → Kept (PM pb sb) w2.drew W → Calls Tryz.prog 104 #[.pointer (some ⟨pb, 0, none⟩), .slice na ns.length nc, .slice (some ⟨g, o + 6, none⟩) rest.length (cap - 2)] W fun e w' => ∃ fv, e = .returned fv ∧ RepFs (fun k => W.heap.size ≤ k) w' fv xs ∧ PAt pb sb kb env w' ∧ Kept (PM pb sb) W w') := fun W hW hK =>
        formsWithin_any f HF pb sb kb env W ns _ rest xs _ hW hf (by omega) (hnv2.mono (hK.rep (ok := fun k => ¬ PM pb sb k) fun _ _ h => h)) hdf (hrd2.mono (hK.rep (ok := fun k => ¬ PM pb sb k) fun _ _ h => h)) HX.out hr
      have hb0 : Below w.heap.size w w2 := (hb01.trans (hkept.mono (by omega))).trans (hb2.mono (by omega))
      have i1 : ¬ cap = 2 := by omega
      have i2 : (2 : Int) ≤ (rest.length : Int) + 2 := by omega
      have i3 : (rest.length : Int) + 2 ≤ (cap : Int) := by omega
      clear hRV hrd hnv hRK hRV2 hrd2 hnv2 hpar hkept hbxr hbx2 hb2 HB HN HX HY HKL HVL HI hpl hpw2 hjl hp1
      go_region_held3 (fun W => W.cell? ⟨w.heap.size, 1, none⟩ = some (.slice (some ⟨g, o, none⟩) (rest.length + 2) cap)) (go_keep) (first | (go_at_call 101; refine HFA.out.mono ?_; rintro e w3 ⟨fv, rfl, hrf, hp4, hk4⟩; obtain ⟨fa, fc, rfl, _, _⟩ := RepFs.shape hrf; have z1 := hk4.cell hnb q1) | (go_at_call 104; refine (HFW.out _ hp4 hk4).mono ?_; rintro e w4 ⟨gv, rfl, hrg, hp5, hk5⟩; obtain ⟨ga, gc, rfl, _, _⟩ := RepFs.shape hrg; have z2 := hk5.cell hnb z1))
      go_wp2
      go_ret
      have hs4 := hk4.size
      have hs5 := hk5.size
      have hk4' : Kept (PM pb sb) w2 w3 := ⟨hk4.os, hk4.tape, hk4.output, hk4.size, hk4.block⟩
      have hs4' : w2.heap.size ≤ w3.heap.size := hk4.size
      have hs0 := hb0.size
      refine ⟨_, rfl, .let_ _ _ _ _ (hrf.mono fun k hk hge => ?_) (hrg.mono fun k hk hge => ⟨by omega, rfl⟩), hp5, ((Kept.of_below hb0 _).trans hk4').trans hk5⟩
      have hge' : w2.heap.size ≤ k := hge
      exact ⟨by omega, hk5.block k hk (fun h => by rcases h with h | h <;> omega)⟩

/-- Parsing, all rules. -/
theorem parse_done (f : Nat) (w : World) (ds : List Rd.D) (xs : List Rd.F) (sl : Value) (hf : f + 1 ≤ 5000) (hsl : RepS (fun _ => True) w sl ds) (hx : Rd.pTops f ds = some xs) (hl : ds.length ≤ 4000) (hne : ds ≠ []) :
    Calls Tryz.prog 27 #[sl] w fun e w' => ∃ fv, e = .returned (.tuple #[fv, .int .i64 0, .int .i64 0]) ∧ RepFs (fun k => w.heap.size ≤ k) w' fv xs ∧ Below w.heap.size w w' :=
  parse_any (fun f HF _ => let_any f HF) f w ds xs sl hf hsl hx hl hne
end Go.Proofs.YtodeeegbajgafaaGreatDoor
