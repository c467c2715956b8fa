/- The task of forms in turn; let. Procedures that are there: pairs. Procedures that are there: null? and list. Values of data: lists with any end. The value of any datum. A procedure is called with arguments. -/
import Derived.Test.YtodeeegbajgafaaGreatDoorQ22
import Derived.Test.YtodeeegbajgafaaGreatDoorQ08
import Derived.Test.YtodeeegbajgafaaGreatDoorQ23
import Derived.Test.YtodeeegbajgafaaGreatDoorQ14
import Derived.Test.YtodeeegbajgafaaGreatDoorQ19
import Derived.Deep.RegionLawGrows
import Derived.Deep.LoopGhost
namespace Go.Proofs.YtodeeegbajgafaaGreatDoor
open Go.RowKit
open Mc
set_option maxHeartbeats 1000000 in
theorem clip_any (a : Option Addr) (n cap : Nat) (w : World) (hn : n ≤ cap) :
    Calls Tryz.prog 170 #[.slice a n cap] w fun e w' => e = .returned (.slice a n n) ∧ w' = w := by
  have i1 : (0 : Int) ≤ (n : Int) := by omega
  have i2 : (n : Int) ≤ (cap : Int) := by omega
  have i3 : ¬ (cap : Int) < (n : Int) := by omega
  go_enter Tryz.func170, Tryz.ntmps170
  go_wp2
  go_ret
  exact ⟨rfl, rfl⟩
theorem Tryz.info60 : (Tryz.prog.info? 60).map (fun i => (i.zero, i.size, i.bytes)) = some (some .nilIface, 1, 16) := by kernel_rfl
end Go.Proofs.YtodeeegbajgafaaGreatDoor

namespace Go.Proofs.YtodeeegbajgafaaGreatDoor
open Go.RowKit
open Mc
theorem below_rep {ok : Nat → Prop} {w w' : World} (h : Below w.heap.size w w') : ∀ k, k < w.heap.size → ok k → ok k ∧ w'.heap[k]? = w.heap[k]? := fun k hk ho => ⟨ho, h.block k hk⟩
set_option maxHeartbeats 1000000 in
theorem head_any (w : World) (b : Nat) (x y : Value) (T : TypeId) (hh : w.heap[b]? = some (.cells #[x, y] T (0, 0))) (hx : ∃ t z, x = .iface t z) : Calls Tryz.prog 79 #[.pointer (some ⟨b, 0, none⟩)] w fun e w' => e = .returned x ∧ w' = w := by
  obtain ⟨t, z, rfl⟩ := hx
  obtain ⟨c0, c1, _, _⟩ := cells2 hh
  clear hh
  go_enter Tryz.func79, Tryz.ntmps79
  go_wp2
  go_ret
  exact ⟨rfl, rfl⟩
set_option maxHeartbeats 1000000 in
theorem tail_any (w : World) (b : Nat) (x y : Value) (T : TypeId) (hh : w.heap[b]? = some (.cells #[x, y] T (0, 0))) (hx : ∃ t z, y = .iface t z) : Calls Tryz.prog 80 #[.pointer (some ⟨b, 0, none⟩)] w fun e w' => e = .returned y ∧ w' = w := by
  obtain ⟨t, z, rfl⟩ := hx
  obtain ⟨c0, c1, _, _⟩ := cells2 hh
  clear hh
  go_enter Tryz.func80, Tryz.ntmps80
  go_wp2
  go_ret
  exact ⟨rfl, rfl⟩
end Go.Proofs.YtodeeegbajgafaaGreatDoor

namespace Go.Proofs.YtodeeegbajgafaaGreatDoor
open Go.RowKit
open Mc
/-- Values in a row. -/
theorem RepM.vals_any {mb : Nat} {ok : Nat → Prop} {w : World} {x : Value} {vs : List V} (h : RepM mb ok w x (.vals vs)) :
    ∃ a cap, x = .slice a vs.length cap ∧ vs.length ≤ cap ∧ cap ≤ maxLen ∧ ∀ i (hi : i < vs.length), ∃ g o y, a = some ⟨g, o, none⟩ ∧ ok g ∧ w.cell? ⟨g, o + i, none⟩ = some y ∧ g < w.heap.size ∧ RepM mb ok w y (.val vs[i]) := by
  cases h with
  | vals0 => exact ⟨none, 0, rfl, Nat.le_refl _, by unfold maxLen; omega, fun i hi => absurd hi (Nat.not_lt_zero _)⟩
  | vals g o cap c T _ vf hg hh hn hcap hc hs =>
    exact ⟨_, cap, rfl, hn, hcap, fun i hi => ⟨g, o, vf i, rfl, hg, by rw [cell_of_at hh]; exact hc i hi, lt_of_at hh, hs i hi⟩⟩
end Go.Proofs.YtodeeegbajgafaaGreatDoor

namespace Go.Proofs.YtodeeegbajgafaaGreatDoor
open Go.RowKit
open Mc
/-- Where the loop of data.List stands: k values are still to be laid ahead. -/
def ListingE (mb : Nat) (ok : Nat → Prop) (w : World) (ev : V) (vs : List V) (k : Nat) (p q : Value) (wr : World) : Prop :=
  k ≤ vs.length ∧ q = .int .i64 ((k : Int) - 1) ∧ RepM mb ok wr p (.val (listE ev (vs.drop k))) ∧ Below w.heap.size w wr
set_option maxHeartbeats 4000000 in
theorem list33e (mb : Nat) (ok : Nat → Prop) (w : World) (hok : ∀ k, w.heap.size ≤ k → ok k) (x : Value) (vs : List V) (hx : RepM mb ok w x (.vals vs)) (te : TypeId) (ze : Value) (ev : V) (he : RepM mb ok w (.iface te ze) (.val ev)) :
    Calls Tryz.prog 33 #[x, .iface te ze] w fun e w' => ∃ y, e = .returned y ∧ RepM mb ok w' y (.val (listE ev vs)) ∧ Below w.heap.size w w' := by
  obtain ⟨a, cap, rfl, hn, hcap, hat⟩ := hx.vals_any
  clear hx
  have HA := (show Hid _ from hat)
  clear hat
  have hm : cap ≤ 9223372036854775807 := by unfold maxLen at hcap; omega
  have i0 : -9223372036854775808 ≤ (vs.length : Int) - 1 := by omega
  have i0' : (vs.length : Int) - 1 ≤ 9223372036854775807 := by omega
  have HE : Hid (RepM mb ok w (.iface te ze) (.val ev)) := he
  clear he
  go_enter Tryz.func33, Tryz.ntmps33
  go_wp2
  go_loopg [5, 6] vs.length (fun k p q wr => ListingE mb ok w ev vs k p q wr)
  case atStart => exact ⟨Nat.le_refl _, rfl, by rw [List.drop_length]; exact HE.out, Below.refl _ _⟩
  case round =>
    obtain ⟨hk, rfl, hp, hb⟩ := hrel
    cases gk with
    | zero =>
      have HP := (show Hid _ from hp)
      obtain ⟨tp, zp, rfl⟩ := hp.iface
      clear hp hk
      go_wp2
      go_ret
      exact ⟨_, rfl, HP.out, hb⟩
    | succ k =>
      obtain ⟨g, o, y, rfl, hg, hc, hlt, hy⟩ := HA.out k (by omega)
      have hc' := (Kept.of_below hb (fun _ => False)).cell id hc
      have i1 : ((k + 1 : Nat) : Int) - 1 = (k : Int) := by omega
      rw [i1]
      have hB : Below w.heap.size w (wr.alloc (.cells #[y, u5] 126)) := hb.alloc hb.size _
      have hst : ∀ j, j < wr.heap.size → ok j → ok j ∧ (wr.alloc (.cells #[y, u5] 126)).heap[j]? = wr.heap[j]? := fun j hj ho => ⟨ho, Below.heap_alloc _ _ _ hj⟩
      have hR : RepM mb ok (wr.alloc (.cells #[y, u5] 126)) (.iface 124 (.pointer (some ⟨wr.heap.size, 0, none⟩))) (.val (listE ev (vs.drop k))) := by
        rw [List.drop_eq_getElem_cons (show k < vs.length by omega)]
        exact .pair wr.heap.size y u5 126 _ _ (hok _ hb.size) (at_new wr _) ((hy.mono (below_rep hb)).mono hst) (hp.mono hst)
      have HR : Hid (ListingE mb ok w ev vs k (.iface 124 (.pointer (some ⟨wr.heap.size, 0, none⟩))) (.int .i64 ((k : Int) - 1)) (wr.alloc (.cells #[y, u5] 126))) := ⟨by omega, rfl, hR, hB⟩
      obtain ⟨tp, zp, rfl⟩ := hp.iface
      obtain ⟨ty, zy, rfl⟩ := hy.iface
      have i2 : (0 : Int) ≤ (k : Int) := by omega
      have i3 : (k : Int) < (vs.length : Int) := by omega
      have i4 : k < vs.length := by omega
      have i5 : -9223372036854775808 ≤ (k : Int) - 1 := by omega
      have i6 : (k : Int) - 1 ≤ 9223372036854775807 := by omega
      clear hp hy hR hst hB hc HA
      go_wp2
      go_roundg k
      case measure => omega
      case rel => exact HR.out
end Go.Proofs.YtodeeegbajgafaaGreatDoor

namespace Go.Proofs.YtodeeegbajgafaaGreatDoor
open Go.RowKit
open Mc
mutual
def szD : Rd.D → Nat
  | .mk _ ds _ => 1 + szL ds
def szL : List Rd.D → Nat
  | [] => 0
  | d :: ds => szD d + szL ds
end
theorem valL_map : ∀ ds, valL ds = ds.map valD
  | [] => by rw [valL]; rfl
  | d :: ds => by rw [valL, valL_map ds]; rfl
theorem szD_pos (d : Rd.D) : 0 < szD d := by cases d; rw [szD]; omega
theorem szL_get : ∀ (ds : List Rd.D) (i : Nat) (hi : i < ds.length), szD ds[i] ≤ szL ds
  | [], i, hi => absurd hi (Nat.not_lt_zero _)
  | d :: ds, 0, _ => by rw [szL]; simp
  | d :: ds, i + 1, hi => by
    rw [szL]
    have := szL_get ds i (by simpa using hi)
    simp
    omega
theorem szL_len : ∀ (ds : List Rd.D), ds.length ≤ szL ds
  | [] => Nat.zero_le _
  | d :: ds => by
    have := szL_len ds
    have := szD_pos d
    rw [szL, List.length_cons]
    omega
structure Valuing (mb : Nat) (w : World) (g n : Nat) (ds : List Rd.D) (bx : Obj) (j : Nat) (wr : World) : Prop where
  kept : Below w.heap.size w wr
  row : ∃ (c : Array Value) (vf : Nat → Value), wr.heap[g]? = some (.cells c 60 (0, 0)) ∧ c.size = n ∧ (∀ i, i < j → c[i]? = some (vf i)) ∧ ∀ i (hi : i < ds.length), i < j → RepM mb (fun k => w.heap.size ≤ k ∧ k ≠ g) wr (vf i) (.val (valD ds[i]))
  box : wr.heap[w.heap.size]? = some bx
/-- One value more. -/
theorem Valuing.push {mb : Nat} {w : World} {g n : Nat} {ds : List Rd.D} {bx : Obj} {j : Nat} {wr w1 : World} (hF : Valuing mb w g n ds bx j wr) (hg : w.heap.size < g) (hj : j < n) (hx : ds.length = n)
    {o : Obj} {v : Value} (hrep : RepM mb (fun k => (wr.alloc o).heap.size ≤ k) w1 v (.val (valD ds[j]))) (hk1 : Below (wr.alloc o).heap.size (wr.alloc o) w1) :
    Valuing mb w g n ds bx (j + 1) (w1.setCell ⟨g, j, none⟩ v) := by
  obtain ⟨hkept, ⟨c, vf, hrow, hcs, hci, hels⟩, hbox⟩ := hF
  have hgl := lt_of_at hrow
  have hsz : (wr.alloc o).heap.size = wr.heap.size + 1 := by simp
  have hkb : ∀ k, k < wr.heap.size → w1.heap[k]? = wr.heap[k]? := fun k hk => (hk1.block k (by omega)).trans (Below.heap_alloc _ _ _ hk)
  have hrow1 : w1.heap[g]? = some (.cells c 60 (0, 0)) := (hkb g hgl).trans hrow
  have hne : ∀ k, k ≠ g → (w1.setCell ⟨g, j, none⟩ v).heap[k]? = w1.heap[k]? := fun k hk => Below.heap_setCell _ _ _ _ hk
  have hs1 := hk1.size
  have hsk := hkept.size
  refine ⟨?_, ⟨c.setIfInBounds j v, fun i => if i = j then v else vf i, ?_, by simpa using hcs, ?_, ?_⟩, ?_⟩
  · have h1 : Below w.heap.size w w1 := (hkept.alloc hsk o).trans (hk1.mono (by omega))
    exact h1.setCell (by show w.heap.size ≤ g; omega) v
  · rw [at_setCell hrow1 j v]
  · intro i hi
    by_cases e : i = j
    · subst e
      simp [hcs, hj]
    · rw [Array.getElem?_setIfInBounds_ne (by omega)]
      simp only [e, if_false]
      exact hci i (by omega)
  · intro i hi hij
    by_cases e : i = j
    · subst e
      simp only [if_true]
      refine hrep.mono ?_
      intro k hk hge
      rw [hsz] at hge
      exact ⟨⟨by omega, by omega⟩, hne k (by omega)⟩
    · simp only [e, if_false]
      refine (hels i hi (by omega)).mono ?_
      intro k hk ⟨h1, h2⟩
      exact ⟨⟨h1, h2⟩, (hne k h2).trans (hkb k hk)⟩
  · exact (hne _ (by omega)).trans ((hkb _ (by omega)).trans hbox)
def ValT (mb k : Nat) : Prop := ∀ (d : Rd.D) (ok : Nat → Prop) (v : Value) (w : World), szD d ≤ k → k ≤ 4000 → RepD ok w v d →
  Calls Tryz.prog 25 #[v] w fun e w' => ∃ y, e = .returned y ∧ RepM mb (fun k => w.heap.size ≤ k) w' y (.val (valD d)) ∧ Below w.heap.size w w'
set_option maxHeartbeats 2000000 in
set_option maxRecDepth 10000 in
theorem value_step (mb k : Nat) (H : ∀ j, j < k → ValT mb j) : ValT mb k := by
  intro d ok v w hk hk4 hd
  obtain ⟨p, ds, en⟩ := d
  rw [szD] at hk
  rw [valD, valL_map]
  obtain ⟨sl, rfl, hsl⟩ := hd.inv
  clear hd
  have hlen := szL_len ds
  have HSZ : Hid (∀ i (hi : i < ds.length), szD ds[i] < k) := fun i hi => by have := szL_get ds i hi; omega
  obtain ⟨bb, cap, rfl, hcap⟩ : ∃ b cap, sl = .slice b ds.length cap ∧ ds.length ≤ cap := by
    rcases hsl with ⟨rfl, rfl⟩ | ⟨g, o, cap, c, T, va, vb, vc, rfl, _, _, hn, _⟩
    · exact ⟨none, 0, rfl, Nat.le_refl _⟩
    · exact ⟨_, cap, rfl, hn⟩
  obtain ⟨ti0, xv0, hav⟩ := aV_iface en
  have HEN : Hid (∀ W, RepM mb (fun k => w.heap.size ≤ k) W (.iface ti0 xv0) (.val (.atom en))) := fun W => by rw [← hav]; exact .atom en
  rw [hav]
  clear hav
  have hmk := fun w => run_make_row' (P := Tryz.prog) 85 60 .nilIface 16 Tryz.underlying85 Tryz.info60 rfl .i64 .i64 ds.length (by omega) (by omega) w
  have hF0 : Valuing mb w (w.heap.size + 1) ds.length ds (.cells #[.int .i64 p, .slice bb ds.length cap, .iface ti0 xv0] 62 (0, 0)) 0 ((w.alloc (.cells #[.int .i64 p, .slice bb ds.length cap, .iface ti0 xv0] 62)).alloc (.cells (madeCells #[.nilIface] ds.length) 60)) :=
    ⟨((Below.refl _ w).alloc (Nat.le_refl _) _).alloc (by simp) _, ⟨madeCells #[.nilIface] ds.length, fun _ => undef, by have := at_new (w.alloc (.cells #[.int .i64 p, .slice bb ds.length cap, .iface ti0 xv0] 62)) (.cells (madeCells #[.nilIface] ds.length) 60); simpa using this, by simp [madeCells], fun i hi => absurd hi (Nat.not_lt_zero _), fun i _ hi => absurd hi (Nat.not_lt_zero _)⟩, at_alloc (at_new w _) _⟩
  have HF0 : Hid (Valuing mb w (w.heap.size + 1) ds.length ds (.cells #[.int .i64 p, .slice bb ds.length cap, .iface ti0 xv0] 62 (0, 0)) 0 _) := hF0
  have HSL : Hid (RepS ok w (.slice bb ds.length cap) ds) := hsl
  have HH : Hid (∀ j, j < k → ValT mb j) := H
  clear hF0 hsl H
  go_enter Tryz.func25, Tryz.ntmps25
  go_wp2
  have HW : Hid (w.heap.size + 1 = w.heap.size + 1) := rfl
  generalize hG : w.heap.size + 1 = g at *
  have HG : Hid (w.heap.size + 1 = g) := hG
  clear hG HW
  go_loopg [13] ds.length (fun q i wr => ∃ j : Nat, i = .int .i64 j ∧ j ≤ ds.length ∧ q = ds.length - j ∧ Valuing mb w g ds.length ds (.cells #[.int .i64 p, .slice bb ds.length cap, .iface ti0 xv0] 62 (0, 0)) j wr)
  case atStart => exact ⟨0, rfl, Nat.zero_le _, by omega, HF0.out⟩
  case round =>
    obtain ⟨j, rfl, hj, rfl, hF⟩ := hrel
    have HF : Hid (Valuing mb w g ds.length ds (.cells #[.int .i64 p, .slice bb ds.length cap, .iface ti0 xv0] 62 (0, 0)) j wr) := hF
    obtain ⟨hkept, ⟨c, vf, hrow, hcs, hci, hels⟩, hbox⟩ := hF
    by_cases hlt : j < ds.length
    · obtain ⟨gd, od, cap', pp, po, pn, pc, ti, xv, heq, hgd, _, d0, d1, d2, hrepd⟩ := (HSL.out.mono (below_rep hkept)).cells j hlt
      cases heq
      have HRD : Hid (RepD ok (wr.alloc (.cells #[.int .i64 pp, .slice po pn pc, .iface ti xv] 62)) (.agg #[.int .i64 pp, .slice po pn pc, .iface ti xv]) ds[j]) := hrepd.mono (fun k hk h => ⟨h, Below.heap_alloc _ _ _ hk⟩)
      have HROW : Hid ((wr.alloc (.cells #[.int .i64 pp, .slice po pn pc, .iface ti xv] 62)).heap[g]? = some (.cells c 60 (0, 0))) := at_alloc hrow _
      have HGL : Hid (g < wr.heap.size) := lt_of_at hrow
      clear hkept hrow hci hels hbox hrepd
      rw [Nat.mul_comm 3 j] at d0 d1 d2
      go_wp2_with (go_at_call 25; refine (HH.out (szD ds[j]) (HSZ.out j hlt) ds[j] ok _ _ (Nat.le_refl _) (by have := HSZ.out j hlt; omega) HRD.out).mono ?_; rintro e w1 ⟨fv, rfl, hrepf, hk1⟩; obtain ⟨tf, xf, rfl⟩ := hrepf.iface; have hrow3 : w1.heap[g]? = some (.cells c 60 (0, 0)) := (hk1.block g (by have := HGL.out; simp; omega)).trans HROW.out; have c3 : w1.cell? ⟨g, j, none⟩ = some (c[j]'(by omega)) := (by rw [cell_of_at hrow3 j, Array.getElem?_eq_getElem]); have f3 := free_of_at hrow3 j)
      go_roundg (ds.length - (j + 1))
      case measure => omega
      case rel => exact ⟨j + 1, by go_num, by omega, rfl, HF.out.push (by have := HG.out; omega) hlt rfl hrepf hk1⟩
    · have : j = ds.length := by omega
      subst this
      obtain ⟨c20, c21, c22, _, _, _⟩ := cells3 hbox
      have HV : Hid (RepM mb (fun k => w.heap.size ≤ k) wr (.slice (some ⟨g, 0, none⟩) ds.length ds.length) (.vals (ds.map valD))) := by
        have hl : (ds.map valD).length = ds.length := by simp
        have h := RepM.vals (mb := mb) (ok := fun k => w.heap.size ≤ k) (w := wr) g 0 ds.length c 60 (ds.map valD) vf (by show w.heap.size ≤ g; have := HG.out; omega) hrow (by omega) (by unfold maxLen; omega) (fun i hi => by rw [Nat.zero_add]; exact hci i (by omega)) (fun i hi => by
          have hi' : i < ds.length := by omega
          rw [List.getElem_map]
          exact (hels i hi' hi').mono fun k _ h => ⟨h.1, rfl⟩)
        rw [hl] at h
        exact h
      have HB : Hid (Below w.heap.size w wr) := hkept
      have hsk := hkept.size
      clear hrow hci hels hbox hkept HSL HF0
      go_wp2_with (go_at_call 33; refine (list33e mb (fun k => w.heap.size ≤ k) wr (fun k h => Nat.le_trans HB.out.size h) _ _ HV.out ti0 xv0 (.atom en) (HEN.out _)).mono ?_; rintro e w1 ⟨y, rfl, hrepf, hk1⟩; obtain ⟨tf, xf, rfl⟩ := hrepf.iface)
      go_ret
      exact ⟨_, rfl, hrepf, HB.out.trans (hk1.mono hsk)⟩
theorem value_t (mb : Nat) : ∀ k, ValT mb k := by
  intro k
  induction k using Nat.strongRecOn with
  | _ k ih => exact value_step mb k ih
end Go.Proofs.YtodeeegbajgafaaGreatDoor

namespace Go.Proofs.YtodeeegbajgafaaGreatDoor
open Go.RowKit
open Mc
set_option maxHeartbeats 1000000 in
theorem takes_any (l m n : Int) (w : World) (h0 : l ≤ n) (h1 : n ≤ m) : Calls Tryz.prog 205 #[.agg #[.int .i64 l, .int .i64 m], .int .i64 n] w fun e w' => e = .returned (.bool true) ∧ Below w.heap.size w w' := by
  have hB : Below w.heap.size w (w.alloc (.cells #[.int .i64 l, .int .i64 m] 114)) := (Below.refl _ w).alloc (Nat.le_refl _) _
  go_enter Tryz.func205, Tryz.ntmps205
  go_wp2
  go_ret
  exact ⟨rfl, hB⟩
end Go.Proofs.YtodeeegbajgafaaGreatDoor
