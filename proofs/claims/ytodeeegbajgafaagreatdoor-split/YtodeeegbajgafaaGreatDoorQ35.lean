/- rondokeep's fresh. What Listed calls: pick, Itoa; texts laid together. The maker: raw numbers are used up one by one. Sources that are forms out of raw numbers: which forms they are, and what these come to. The maker's sum: a form out of raw numbers, and what it comes to. A machine beside other memory; sources that come to values. Split's sources, in one and in several. The walk of Sums. Layers out of raw numbers: how they lie in memory, and how they are made. What Split's loops hold on to. The walk of Split. -/
import Derived.Test.YtodeeegbajgafaaGreatDoorQ34
import Derived.Test.YtodeeegbajgafaaGreatDoorQ28
import Derived.Test.YtodeeegbajgafaaGreatDoorQ01
import Derived.Deep.Cut
namespace Go.Proofs.YtodeeegbajgafaaGreatDoor
open Go.RowKit
open Mc

theorem itoa11 : Lib.itoa 11 = [49, 49] := by
  rw [show (11 : Int) = ((11 : Nat) : Int) from rfl, Lib.itoa_nonneg, Lib.decDigits_two (by omega) (by omega)]
  rfl
/-- What is there at the start is not written. -/
def Old (B : Nat) (k : Nat) : Prop := k < B ∧ k ≠ tabBlock

theorem out1 (sh : Value) : outcome st1 (Lib.itoa 11) sh = .agg #[.int .i64 1, .string ⟨#[49, 49]⟩, .int .i64 0, .int .i64 st1.steps, sh] := by
  unfold outcome
  rw [if_pos st1_ctl.2, itoa11]
theorem out2 (sh : Value) : outcome st2 [] sh = .agg #[.int .i64 2, .string ⟨#[]⟩, .int .i64 2, .int .i64 st2.steps, sh] := by
  unfold outcome
  rw [if_neg (by rw [st2_kind.1]; decide), st2_kind.1, st2_kind.2]
  rfl

/-- The two runs of fresh. -/
theorem fresh_run1 (N : Nat → Prop) (B ob : Nat) (g : Gh) (w : World) (hM : Mach N B ob G0 w g) (hBw : B ≤ w.heap.size) (hNt : tabBlock < B) (htab : TabOk w) :
    Calls Tryz.prog 13 #[ptrV ob, .string ⟨src1.toArray⟩] w fun e w' => ∃ g' sa sn sc, e = .returned (.tuple #[.agg #[.int .i64 1, .string ⟨#[49, 49]⟩, .int .i64 0, .int .i64 st1.steps, .slice sa sn sc], .bool true]) ∧ Mach N B ob st1.G w' g' ∧ Below B w w' := by
  refine (run13 shN callN N B ob G0 g src1 (fsOf src1) st1 (Lib.itoa 11) w hM hBw hNt htab (Forms.of isSrc1) (endsAt_ends ends1) src_ne.1 (fun _ v hv => ?_)).mono ?_
  · rw [st1_ctl.1] at hv
    cases hv
    exact ShowsAs.num (by omega) (by omega) (by rw [itoa11]; simp)
  · rintro e w' ⟨g', sa, sn, sc, rfl, h1, h2, h3⟩
    exact ⟨g', sa, sn, sc, by rw [out1], h1, h2.below hBw hM.high⟩
theorem fresh_run2 (N : Nat → Prop) (B ob : Nat) (g : Gh) (w : World) (hM : Mach N B ob st1.G w g) (hBw : B ≤ w.heap.size) (hNt : tabBlock < B) (htab : TabOk w) :
    Calls Tryz.prog 13 #[ptrV ob, .string ⟨src2.toArray⟩] w fun e w' => ∃ sa sn sc, e = .returned (.tuple #[.agg #[.int .i64 2, .string ⟨#[]⟩, .int .i64 2, .int .i64 st2.steps, .slice sa sn sc], .bool true]) ∧ Below B w w' ∧ Kept g.mut w w' := by
  refine (run13 shN callN N B ob st1.G g src2 (fsOf src2) st2 [] w hM hBw hNt htab (Forms.of isSrc2) (endsAt_ends ends2) src_ne.2 (fun hk => ?_)).mono ?_
  · rw [st2_kind.1] at hk
    cases hk
  · rintro e w' ⟨g', sa, sn, sc, rfl, h1, h2, h3⟩
    exact ⟨sa, sn, sc, by rw [out2], h2.below hBw hM.high, h2⟩

set_option maxHeartbeats 8000000 in
set_option maxRecDepth 20000 in
theorem fresh10 (N : Nat → Prop) (w : World) (hN : ∀ k, N k → k < w.heap.size) (hNt : ¬ N tabBlock) (htab : TabOk w) :
    Calls Tryz.prog 10 #[] w fun e w' => ∃ ob g, e = .returned (ptrV ob) ∧ Mach N w.heap.size ob G0 w' g ∧ Below w.heap.size w w' := by
  have H1 : Hid (Calls Tryz.prog 23 #[] w fun e w' => ∃ ob g, e = .returned (.pointer (some ⟨ob, 0, none⟩)) ∧ Mach N w.heap.size ob G0 w' g ∧ Below w.heap.size w w') := new23 N w hN hNt htab
  have H2 : Hid (∀ w1, Below w.heap.size w w1 → Calls Tryz.prog 23 #[] w1 fun e w' => ∃ ob g, e = .returned (.pointer (some ⟨ob, 0, none⟩)) ∧ Mach N w1.heap.size ob G0 w' g ∧ Below w1.heap.size w1 w') := fun w1 hb => new23 N w1 (fun k e => Nat.lt_of_lt_of_le (hN k e) hb.size) hNt (htab.on (hb.block _ htab.lt))
  have tabs : ∀ W, Below w.heap.size w W → TabOk W := fun W hb => htab.on (hb.block _ htab.lt)
  have H3 : Hid (∀ w1 w2 ob g, Below w.heap.size w w1 → Below w1.heap.size w1 w2 → Mach N w1.heap.size ob G0 w2 g → Calls Tryz.prog 13 #[.pointer (some ⟨ob, 0, none⟩), .string ⟨src1.toArray⟩] w2 fun e w' => ∃ g' sa sn sc, e = .returned (.tuple #[.agg #[.int .i64 1, .string ⟨#[49, 49]⟩, .int .i64 0, .int .i64 st1.steps, .slice sa sn sc], .bool true]) ∧ Mach N w1.heap.size ob st1.G w' g' ∧ Below w1.heap.size w1 w') := fun w1 w2 ob g hb1 hb2 hM => (fresh_run1 N w1.heap.size ob g w2 hM hb2.size (Nat.lt_of_lt_of_le htab.lt hb1.size) (tabs _ (hb1.trans (hb2.mono hb1.size)))).mono fun e w' ⟨g', sa, sn, sc, he, h1, h2⟩ => ⟨g', sa, sn, sc, he, h1, hb2.trans h2⟩
  have H4 : Hid (∀ w1 w2 ob g, Below w.heap.size w w1 → Below w1.heap.size w1 w2 → Mach N w1.heap.size ob st1.G w2 g → Calls Tryz.prog 13 #[.pointer (some ⟨ob, 0, none⟩), .string ⟨#[40, 99, 97, 114, 32, 49, 41]⟩] w2 fun e w' => ∃ sa sn sc, e = .returned (.tuple #[.agg #[.int .i64 2, .string ⟨#[]⟩, .int .i64 2, .int .i64 st2.steps, .slice sa sn sc], .bool true]) ∧ Below w1.heap.size w1 w' ∧ Kept g.mut w2 w') := fun w1 w2 ob g hb1 hb2 hM => (fresh_run2 N w1.heap.size ob g w2 hM hb2.size (Nat.lt_of_lt_of_le htab.lt hb1.size) (tabs _ (hb1.trans (hb2.mono hb1.size)))).mono fun e w' ⟨sa, sn, sc, he, h2, h3⟩ => ⟨sa, sn, sc, he, hb2.trans h2, h3⟩
  clear hN tabs htab
  generalize st1.steps = n1 at *
  generalize st2.steps = n2 at *
  go_enter Tryz.func10, Tryz.ntmps10
  go_upto_region 2 with (first | (go_at_call 23; refine H1.out.mono ?_; rintro e1 w1 ⟨ob1, g1, rfl, hM1, hb1⟩; have HM1 := (show Hid _ from hM1); have HB1 := (show Hid _ from hb1); clear hM1 hb1))
  go_upto_region 5 with (first | (go_at_call 23; refine (H2.out _ HB1.out).mono ?_; rintro e2 w2 ⟨ob2, g2, rfl, hM2, hb2⟩; have HM2 := (show Hid _ from hM2); have HB2 := (show Hid _ from hb2); clear hM2 hb2))
  go_upto_region 6 with (first | (go_at_call 13; refine (H3.out _ _ _ _ HB1.out HB2.out HM2.out).mono ?_; rintro e3 w3 ⟨g3, sa3, sn3, sc3, rfl, hM3, hb3⟩; have HM3 : Hid (Mach N w1.heap.size ob2 st1.G (w3.alloc (.cells #[.int .i64 1, .string ⟨#[49, 49]⟩, .int .i64 0, .int .i64 n1, .slice sa3 sn3 sc3] 34)) g3) := hM3.below ((Below.refl _ w3).alloc (Nat.le_refl _) _); have HB3 : Hid (Below w1.heap.size w1 (w3.alloc (.cells #[.int .i64 1, .string ⟨#[49, 49]⟩, .int .i64 0, .int .i64 n1, .slice sa3 sn3 sc3] 34))) := hb3.alloc hb3.size _; have hnm : ¬ g3.mut w3.heap.size := fun e => Nat.lt_irrefl _ (Gh.low hM3.m _ e); clear hM3 hb3))
  have ha3 := at_new w3 (.cells #[.int .i64 1, .string ⟨#[49, 49]⟩, .int .i64 0, .int .i64 n1, .slice sa3 sn3 sc3] 34)
  have HA3 := (show Hid _ from ha3)
  clear ha3
  go_wp2_with (first | (go_at_call 13; refine (H4.out _ _ _ _ HB1.out HB3.out HM3.out).mono ?_; rintro e4 w4 ⟨sa4, sn4, sc4, rfl, hb4, hk4⟩; have hat := hk4.at hnm HA3.out; have hl := lt_of_at hat; have hne : w4.heap.size ≠ w3.heap.size := (by omega); have f0 : w4.cell? ⟨w3.heap.size, 0, none⟩ = some (.int .i64 1) := cell_of_at hat 0; have f1 : w4.cell? ⟨w3.heap.size, 1, none⟩ = some (.string ⟨#[49, 49]⟩) := cell_of_at hat 1; have HB4 := (show Hid _ from hb4); clear hb4 hk4 hat))
  go_ret
  have hbf : Below w1.heap.size w1 (w4.alloc (.cells #[.int .i64 2, .string ⟨#[]⟩, .int .i64 2, .int .i64 n2, .slice sa4 sn4 sc4] 34)) := HB4.out.alloc HB4.out.size _
  exact ⟨ob1, g1, rfl, HM1.out.below hbf, HB1.out.trans (hbf.mono HB1.out.size)⟩
end Go.Proofs.YtodeeegbajgafaaGreatDoor

namespace Go.Proofs.YtodeeegbajgafaaGreatDoor
open Go.RowKit
open Mc

set_option maxHeartbeats 1000000 in
theorem pick14 (c : Int) (n : Nat) (h0 : -9223372036854775808 ≤ c) (h1 : c ≤ 9223372036854775807) (hn : 0 < n) (hn1 : n ≤ 100000) (w : World) : Calls Tryz.prog 14 #[.int .i64 c, .int .i64 n] w fun e w' => e = .returned (.int .i64 (Rd.pickN c n : Nat)) ∧ w' = w := by
  have hlt := Rd.pickN_lt c n hn
  have hn0 : ¬ (n : Int) = 0 := by omega
  by_cases hc : c < 0
  · have hq : (-(c + 1)).tmod (n : Int) = (Rd.pickN c n : Nat) := by
      unfold Rd.pickN
      rw [if_pos hc, Int.tmod_eq_emod_of_nonneg (by omega)]
      have := Int.emod_nonneg (-(c + 1)) (b := (n : Int)) (by omega)
      omega
    have i1 : -9223372036854775808 ≤ c + 1 := by omega
    have i2 : c + 1 ≤ 9223372036854775807 := by omega
    have i3 : -9223372036854775808 ≤ -(c + 1) := by omega
    have i4 : -(c + 1) ≤ 9223372036854775807 := by omega
    have i5 : wrap64 ((Rd.pickN c n : Nat) : Int) = (Rd.pickN c n : Nat) := by unfold wrap64; omega
    generalize Rd.pickN c n = r at *
    go_enter Tryz.func14, Tryz.ntmps14
    go_wp2
    go_ret
    exact ⟨rfl, rfl⟩
  · have hq : c.tmod (n : Int) = (Rd.pickN c n : Nat) := by
      unfold Rd.pickN
      rw [if_neg hc, Int.tmod_eq_emod_of_nonneg (by omega)]
      have := Int.emod_nonneg c (b := (n : Int)) (by omega)
      omega
    have i5 : wrap64 ((Rd.pickN c n : Nat) : Int) = (Rd.pickN c n : Nat) := by unfold wrap64; omega
    generalize Rd.pickN c n = r at *
    go_enter Tryz.func14, Tryz.ntmps14
    go_wp2
    go_ret
    exact ⟨rfl, rfl⟩

theorem below_grow (w : World) (k : Nat) (os : Array Obj) : Below w.heap.size w (Sort.grow (w.drewN k) os) := by
  refine ⟨rfl, rfl, rfl, ?_, fun j hj => ?_⟩
  · show w.heap.size ≤ (w.heap ++ os).size
    simp
  · show (w.heap ++ os)[j]? = w.heap[j]?
    exact Array.getElem?_append_left hj
theorem itoa16 (n : Int) (h0 : -9223372036854775808 ≤ n) (h1 : n ≤ 9223372036854775807) (w : World) (ht : TabOk w) : Calls Tryz.prog 16 #[.int .i64 n] w fun e w' => e = .returned (.string ⟨(Lib.itoa n).toArray⟩) ∧ Below w.heap.size w w' :=
  (Tryz.strconv_Itoa n h0 h1 w ht).mono fun _ _ ⟨he, k, os, hw⟩ => ⟨he, hw ▸ below_grow w k os⟩
theorem cat (a b : List UInt8) : (⟨a.toArray⟩ : ByteArray) ++ ⟨b.toArray⟩ = ⟨(a ++ b).toArray⟩ := by
  apply ByteArray.ext
  simp
theorem sz (a : List UInt8) : (⟨a.toArray⟩ : ByteArray).size = a.length := by show a.toArray.size = _; simp
end Go.Proofs.YtodeeegbajgafaaGreatDoor

namespace Go.Proofs.YtodeeegbajgafaaGreatDoor
open Go.RowKit
open Mc

/-- A maker that has used up i of its numbers. -/
structure MkAt (rs : List Int) (ao : Option Addr) (cap mk i : Nat) (w : World) : Prop where
  blk : ∃ T, w.heap[mk]? = some (.cells #[.slice ao rs.length cap, .int .i64 i] T (0, 0))
  le : i ≤ rs.length
  cells : ∀ j (hj : j < rs.length), ∃ a, ao = some a ∧ a.block ≠ mk ∧ w.cell? (a.add j) = some (.int .i64 rs[j])
  range : ∀ j (hj : j < rs.length), -9223372036854775808 ≤ rs[j] ∧ rs[j] ≤ 9223372036854775807
  small : rs.length ≤ 9223372036854775807
theorem Kept.cellA {M : Nat → Prop} {w w' : World} (h : Kept M w w') {p : Addr} {v : Value} (hp : ¬ M p.block) (hc : w.cell? p = some v) : w'.cell? p = some v := by
  rw [← hc]
  exact World.cell?_of_block (h.block p.block (World.block_lt_of_cell? w p hc) hp)
theorem MkAt.kept {rs : List Int} {ao : Option Addr} {cap mk i : Nat} {w w' : World} (h : MkAt rs ao cap mk i w) {M : Nat → Prop} (hk : Kept M w w') (hm : ¬ M mk) (ha : ∀ a, ao = some a → ¬ M a.block) : MkAt rs ao cap mk i w' := by
  obtain ⟨T, hb⟩ := h.blk
  refine ⟨⟨T, hk.at hm hb⟩, h.le, fun j hj => ?_, h.range, h.small⟩
  obtain ⟨a, e1, e2, e3⟩ := h.cells j hj
  refine ⟨a, e1, e2, hk.cellA ?_ e3⟩
  have : (a.add j).block = a.block := by simp [Addr.add]; split <;> rfl
  rw [this]
  exact ha a e1
def NextR (rs : List Int) (ao : Option Addr) (cap mk i n : Nat) (w : World) : Ending → World → Prop := fun e w' => e = .returned (.int .i64 ((Rd.nextN n (rs.drop i)).1 : Nat)) ∧ ∃ i', MkAt rs ao cap mk i' w' ∧ rs.drop i' = (Rd.nextN n (rs.drop i)).2 ∧ Kept (· = mk) w w'
theorem add_block (a : Addr) (j : Nat) : (a.add j).block = a.block := by simp [Addr.add]; split <;> rfl

set_option maxHeartbeats 4000000 in
set_option maxRecDepth 20000 in
theorem next18 (rs : List Int) (ao : Option Addr) (cap mk i n : Nat) (hn : 0 < n) (hn1 : n ≤ 100000) (w : World) (h : MkAt rs ao cap mk i w) : Calls Tryz.prog 18 #[ptrV mk, .int .i64 n] w (NextR rs ao cap mk i n w) := by
  obtain ⟨T, hb⟩ := h.blk
  obtain ⟨c0, c1, f0, f1⟩ := cells2 hb
  have hsm := h.small
  by_cases hi : i < rs.length
  · obtain ⟨a, rfl, hne, hca⟩ := h.cells i hi
    obtain ⟨zl, zu⟩ := h.range i hi
    have hd : rs.drop i = rs[i] :: rs.drop (i + 1) := List.drop_eq_getElem_cons hi
    have hK : Kept (· = mk) w ((w.setCell ⟨mk, 1, none⟩ (.int .i64 ((i : Int) + 1))).drew.drew) := (((Kept.refl (fun k => k = mk) w).setCell (p := ⟨mk, 1, none⟩) (fun _ => rfl) _).drew).drew
    have hM : MkAt rs (some a) cap mk (i + 1) ((w.setCell ⟨mk, 1, none⟩ (.int .i64 ((i : Int) + 1))).drew.drew) := by
      refine ⟨⟨T, ?_⟩, by omega, fun j hj => ?_, h.range, h.small⟩
      · refine at_drew (at_drew ?_)
        rw [at_setCell hb 1 _]
        simp
      · obtain ⟨a', e1, e2, e3⟩ := h.cells j hj
        cases e1
        exact ⟨a, rfl, hne, hK.cellA (by rw [add_block]; exact hne) e3⟩
    have HF : Hid (NextR rs (some a) cap mk i n w (.returned (.int .i64 (Rd.pickN rs[i] n : Nat))) ((w.setCell ⟨mk, 1, none⟩ (.int .i64 ((i : Int) + 1))).drew.drew)) := by
      unfold NextR
      rw [hd]
      exact ⟨rfl, i + 1, hM, rfl, hK⟩
    have HP : Hid (∀ W, Calls Tryz.prog 14 #[.int .i64 rs[i], .int .i64 n] W fun e w' => e = .returned (.int .i64 (Rd.pickN rs[i] n : Nat)) ∧ w' = W) := fun W => pick14 rs[i] n zl zu hn hn1 W
    generalize rs[i] = z at *
    generalize Rd.pickN z n = r at *
    have i1 : ¬ (rs.length : Int) ≤ (i : Int) := by omega
    have i2 : -9223372036854775808 ≤ (i : Int) + 1 := by omega
    have i3 : (i : Int) + 1 ≤ 9223372036854775807 := by omega
    have i4 : IntKind.i64.wrap (i : Int) = (i : Int) := i64_in _ (by omega) (by omega)
    have i5 : (0 : Int) ≤ (i : Int) := by omega
    have i6 : (i : Int) < (rs.length : Int) := by omega
    have hne2 : (a.add i).block ≠ mk := by rw [add_block]; exact hne
    have hle : decide (rs.length ≤ i) = false := decide_eq_false (by omega)
    have e0 : (w.setCell ⟨mk, 1, none⟩ (.int .i64 ((i : Int) + 1))).cell? ⟨mk, 0, none⟩ = some (.slice (some a) rs.length cap) := by rw [cell_of_at (at_setCell hb 1 _)]; simp
    have e1 : (w.setCell ⟨mk, 1, none⟩ (.int .i64 ((i : Int) + 1))).cell? ⟨mk, 1, none⟩ = some (.int .i64 ((i : Int) + 1)) := by rw [cell_of_at (at_setCell hb 1 _)]; simp
    have e2 : (w.setCell ⟨mk, 1, none⟩ (.int .i64 ((i : Int) + 1))).cell? (a.add i) = some (.int .i64 z) := ((Kept.refl (fun k => k = mk) w).setCell (p := ⟨mk, 1, none⟩) (fun _ => rfl) _).cellA hne2 hca
    clear h hb hM hK hd hi i1
    unfold ptrV
    go_enter Tryz.func18, Tryz.ntmps18
    go_wp2
    go_region
    go_wp2_with fail
    go_region_held3 (fun X => X.cell? ⟨mk, 0, none⟩ = some (.slice (some a) rs.length cap) ∧ X.cell? ⟨mk, 1, none⟩ = some (.int .i64 ((i : Int) + 1)) ∧ X.cell? (a.add i) = some (.int .i64 z)) (go_keep) (first | (go_at_call 14; refine (HP.out _).mono ?_; rintro e2 w2 ⟨rfl, rfl⟩))
    all_goals
      go_wp2
      go_ret
      exact HF.out
  · have hd : rs.drop i = [] := List.drop_eq_nil_of_le (by omega)
    have hK : Kept (· = mk) w w.drew := (Kept.refl _ w).drew
    have hM : MkAt rs ao cap mk i w.drew := h.kept (M := fun _ => False) (Kept.refl _ w).drew id (fun _ _ => id)
    have HF : Hid (NextR rs ao cap mk i n w (.returned (.int .i64 0)) w.drew) := by
      unfold NextR
      rw [hd]
      exact ⟨rfl, i, hM, hd, hK⟩
    have hle : decide (rs.length ≤ i) = true := decide_eq_true (by omega)
    clear h hb hM hK hd hi
    unfold ptrV
    go_enter Tryz.func18, Tryz.ntmps18
    go_wp2
    go_region
    all_goals
      go_wp2
      go_ret
      exact HF.out
end Go.Proofs.YtodeeegbajgafaaGreatDoor

namespace Go.Proofs.YtodeeegbajgafaaGreatDoor
open Go.RowKit
open Mc
namespace Rd
theorem pForm_no_define {f : Nat} {env : List (List Sym)} {p : Nat} {d0 : D} {rest : List D} {x : F} (h : pForm (f + 1) env (.mk p (d0 :: rest) .empty) = some x) : d0.sym ≠ some kwDefine := by
  intro e
  rw [pForm_cons, if_neg (by simp), e] at h
  simp only at h
  rw [if_neg (by decide), if_neg (by decide), if_neg (by decide), if_neg (by decide), if_neg (by decide), if_neg (by decide), if_neg (by decide), if_neg (by decide), if_neg (by decide), if_neg (by decide), if_pos trivial] at h
  cases h
theorem pTop_form {f : Nat} {d : D} {x : F} (h : pForm (f + 1) [] d = some x) : pTop (f + 1) d = some x := by
  match d with
  | .mk p [] a => rw [pTop_leaf]; exact h
  | .mk p (d0 :: rest) .empty => rw [pTop_other (pForm_no_define h)]; exact h
  | .mk p (d0 :: rest) (.num _) => rw [pTop.eq_def]; exact h
  | .mk p (d0 :: rest) (.truth _) => rw [pTop.eq_def]; exact h
  | .mk p (d0 :: rest) (.sym _) => rw [pTop.eq_def]; exact h
/-- A text that is this form of a source. -/
def TT (l : List UInt8) (x : F) (K H : Nat) : Prop := Dt (fun d => ∀ f, K ≤ f → pTop f d = some x) l K H
theorem TT.of {l : List UInt8} {x : F} {K H : Nat} (h : FT Free l x K H) (hK : 1 ≤ K) : TT l x K H :=
  Dt.mono h (fun d hd f hf => by
    obtain ⟨f, rfl⟩ : ∃ g, f = g + 1 := ⟨f - 1, by omega⟩
    exact pTop_form (hd.2 [] Free.nil (f + 1) hf)) (Nat.le_refl _) (Nat.le_refl _)
theorem TT.mono {l : List UInt8} {x : F} {K H K' H' : Nat} (h : TT l x K H) (hk : K ≤ K') (hh : H ≤ H') : TT l x K' H' := Dt.mono h (fun _ hd f hf => hd f (by omega)) hk hh
/-- Texts that are these forms of a source. -/
def TTs (l : List UInt8) (xs : List F) (K H : Nat) : Prop := DtL (fun ds => ds.length = xs.length ∧ ∀ f, K ≤ f → pTops f ds = some xs) l K H
theorem TTs.one {l : List UInt8} {x : F} {K H : Nat} (h : TT l x K H) (hK : 1 ≤ K) : TTs l [x] (K + 1) H :=
  DtL.mono (DtL.one h hK) (by
    rintro ds ⟨d, rfl, hd⟩
    refine ⟨rfl, fun f hf => ?_⟩
    rw [pTops, hd f (by omega)]
    rfl) (Nat.le_refl _) (Nat.le_refl _)
/-- (define x n) -/
def defT (n : Int) : List UInt8 := [40, 100, 101, 102, 105, 110, 101, 32, 120, 32] ++ Lib.itoa n ++ [41]
theorem tt_def {n : Int} (h0 : -100 < n) (h1 : n < 1000) : TT (defT n) (defF' n) 5 1 := by
  have hn := (numW_itoa h0 h1).dt
  have i := Dt.list (DtL.cons dt_define (DtL.more dt_x' (DtL.one hn (Nat.le_refl _)).blank (stops_blank _)) (stops_blank _))
  have e : 40 :: (kwDefine ++ (32 :: (nX' ++ (32 :: Lib.itoa n))) ++ [41]) = defT n := by simp [defT, kwDefine, nX']
  rw [e] at i
  refine Dt.mono i ?_ (by omega) (by omega)
  rintro d ⟨p, ds, rfl, d0, ds', rfl, ⟨p0, rfl⟩, d1, ds'', rfl, ⟨p1, rfl⟩, v, rfl, ⟨p2, rfl⟩⟩ f hf
  obtain ⟨f, rfl⟩ : ∃ g, f = g + 1 := ⟨f - 1, by omega⟩
  rw [pTop.eq_def]
  simp only [D.sym_leaf, if_true]
  show (if keys.contains nX' then none else (pForm (f + 1) [] (.mk p2 [] (.num n))).map (F.define nX' ·)) = _
  rw [pForm_num]
  rfl
end Rd
/-- A source of such forms. -/
theorem Forms.ofTTs {l : List UInt8} {x : Rd.F} {xs : List Rd.F} {K H : Nat} (h : Rd.TTs l (x :: xs) K H) (hl : l.length ≤ 500) (hK : K ≤ 3000) (hH : H ≤ 20) (hx : xs.length ≤ 100) : Forms l (x :: xs) := by
  obtain ⟨ds, m, h1, ⟨h2, h3⟩, h4⟩ := Rd.DtL.reads h l.length
  refine ⟨hl, ds, K, ⟨by rw [sz]; exact hl, K, [], m, by omega, by rw [sz]; exact h1, rfl, by omega⟩, by omega, h3 K (Nat.le_refl _), by rw [h2]; simp; omega, ?_⟩
  rintro rfl
  simp at h2
namespace Mc
/-- A value of a form of a source on a machine. -/
theorem Ev.ends {G : List (Rd.Sym × V)} {sh : Sh} {f : Rd.F} {v : V} {k F : Nat} (h : Ev G [] f [] v k) (hk : k ≤ F) : Mc.Ends F sh (begin_ G) [f] (at_ G [] (.val v) [] [] k) := by
  obtain ⟨n, hn⟩ := h F sh [] [] 0 (by omega)
  rw [Nat.zero_add] at hn
  exact .one (s := begin_ G) hn (Or.inr ⟨⟨_, rfl⟩, rfl, rfl⟩)
/-- With too little fuel. -/
theorem Ev.stops {G : List (Rd.Sym × V)} {sh : Sh} {f : Rd.F} {v : V} {k F : Nat} (h : Ev G [] f [] v k) (hk : F < k) : ∃ u, Mc.Ends F sh (begin_ G) [f] u ∧ u.dry F := by
  obtain ⟨n, hn⟩ := h k sh [] [] 0 (by omega)
  rw [Nat.zero_add] at hn
  obtain ⟨m, u, h1, h2⟩ := Runs.less (f := F) hn (Nat.le_refl _) (Nat.zero_le _) hk
  exact ⟨u, .one (s := begin_ G) h1 (Or.inl (by rw [h2.1]; decide)), h2⟩
def stX (n : Int) : St := { begin_ (Rd.GX n) with ctl := .val (.atom (.sym Rd.nX')), steps := 2 }
theorem ends_def (n : Int) (sh : Sh) : Mc.Ends 20000 sh (begin_ G0) [Rd.defF' n] (stX n) :=
  .one (n := 3) (Runs.of rfl) (Or.inr ⟨⟨_, rfl⟩, rfl, rfl⟩)
end Mc
end Go.Proofs.YtodeeegbajgafaaGreatDoor

namespace Go.Proofs.YtodeeegbajgafaaGreatDoor
open Go.RowKit
open Mc

abbrev bs (l : List UInt8) : ByteArray := ⟨l.toArray⟩
def SumR (rs : List Int) (ao : Option Addr) (cap mk : Nat) (m : List UInt8 × Int × List Int) (w : World) : Ending → World → Prop := fun e w' => e = .returned (.tuple #[.string ⟨m.1.toArray⟩, .int .i64 m.2.1]) ∧ ∃ i', MkAt rs ao cap mk i' w' ∧ rs.drop i' = m.2.2 ∧ Kept (· = mk) w w'
/-- What the sum's text is made of. -/
def opB (c : Nat) (A B : ByteArray) : ByteArray := match c with
  | 0 => ⟨#[40, 45, 32]⟩ ++ A ++ ⟨#[32]⟩ ++ B ++ ⟨#[41]⟩
  | 1 => ⟨#[40, 108, 101, 116, 32, 40, 40, 118, 32]⟩ ++ A ++ ⟨#[41, 41, 32, 40, 43, 32, 118, 32]⟩ ++ B ++ ⟨#[41, 41]⟩
  | 2 => ⟨#[40, 105, 102, 32, 40, 60, 32]⟩ ++ A ++ ⟨#[32]⟩ ++ B ++ ⟨#[41, 32, 49, 32, 48, 41]⟩
  | 3 => ⟨#[40, 98, 101, 103, 105, 110, 32]⟩ ++ A ++ ⟨#[32]⟩ ++ B ++ ⟨#[41]⟩
  | 4 => ⟨#[40, 40, 108, 97, 109, 98, 100, 97, 32, 40, 121, 32, 122, 41, 32, 40, 45, 32, 122, 32, 121, 41, 41, 32]⟩ ++ A ++ ⟨#[32]⟩ ++ B ++ ⟨#[41]⟩
  | 5 => ⟨#[40, 99, 97, 114, 32, 40, 99, 100, 114, 32, 40, 108, 105, 115, 116, 32]⟩ ++ A ++ ⟨#[32]⟩ ++ B ++ ⟨#[41, 41, 41]⟩
  | _ => ⟨#[40, 43, 32]⟩ ++ A ++ ⟨#[32]⟩ ++ B ++ ⟨#[41]⟩
theorem opB_eq (c : Nat) (a b : List UInt8) : (⟨(Rd.opT c a b).toArray⟩ : ByteArray) = opB c ⟨a.toArray⟩ ⟨b.toArray⟩ := by
  apply ByteArray.ext
  unfold opB Rd.opT Rd.lamT
  split <;> simp
theorem mkSum_lim {x L : Int} (h0 : -L ≤ x) (h1 : x ≤ L) (hL : 100 ≤ L) (hL' : L ≤ 100000) (d : Nat) (raw : List Int) (hd : d ≤ 2) : -400000 ≤ (Rd.mkSum x d raw).2.1 ∧ (Rd.mkSum x d raw).2.1 ≤ 400000 ∧ (Rd.mkSum x d raw).1.length ≤ 200 := by
  obtain ⟨F, k, _, _, _, i4, i5, i6⟩ := Rd.mkSum_big (Rd.GX_has x) (Rd.GX_x x) h0 h1 hL hL' d raw hd
  have : d = 0 ∨ d = 1 ∨ d = 2 := by omega
  rcases this with rfl | rfl | rfl <;> simp at i4 i5 i6 <;> omega

set_option maxHeartbeats 8000000 in
set_option maxRecDepth 20000 in
theorem sum15_0 (rs : List Int) (ao : Option Addr) (cap mk : Nat) (x : Int) (hmt : mk ≠ tabBlock) (i : Nat) (w : World) (h : MkAt rs ao cap mk i w) (ht : TabOk w) :
    Calls Tryz.prog 15 #[ptrV mk, .int .i64 0, .int .i64 x] w (SumR rs ao cap mk (Rd.mkSum x 0 (rs.drop i)) w) := by
  have hn := Rd.nextN_lt 3 (rs.drop i) (by omega)
  have HN : Hid (Calls Tryz.prog 18 #[.pointer (some ⟨mk, 0, none⟩), .int .i64 3] w (NextR rs ao cap mk i 3 w)) := next18 rs ao cap mk i 3 (by omega) (by omega) w h
  have HN2 : Hid (∀ j w', MkAt rs ao cap mk j w' → Calls Tryz.prog 18 #[.pointer (some ⟨mk, 0, none⟩), .int .i64 19] w' (NextR rs ao cap mk j 19 w')) := fun j w' hj => next18 rs ao cap mk j 19 (by omega) (by omega) w' hj
  rw [Rd.mkSum]
  unfold NextR at HN
  have HT : Hid (TabOk w) := ht
  clear h ht
  generalize hnx : Rd.nextN 3 (rs.drop i) = nx at *
  obtain ⟨r, r1⟩ := nx
  simp only at *
  unfold ptrV
  cases r with
  | zero =>
    simp only
    go_enter Tryz.func15, Tryz.ntmps15
    go_wp2_with (first | (go_at_call 18; refine HN.out.mono ?_; rintro e2 w2 ⟨rfl, i2, hM2, hd2, hk2⟩; have HM2 := (show Hid _ from hM2); have HD2 := (show Hid _ from hd2); have HK2 := (show Hid _ from hk2); clear hM2 hd2 hk2))
    go_ret2
    exact ⟨rfl, i2, HM2.out, HD2.out, HK2.out⟩
  | succ r =>
    simp only
    have hr0 : ¬ ((r + 1 : Nat) : Int) = 0 := by omega
    have hb := Rd.nextN_lt 19 r1 (by omega)
    generalize hnx2 : Rd.nextN 19 r1 = nx2 at *
    obtain ⟨b, r2⟩ := nx2
    simp only at *
    have HN3 : Hid (∀ j w', MkAt rs ao cap mk j w' → rs.drop j = r1 → Calls Tryz.prog 18 #[.pointer (some ⟨mk, 0, none⟩), .int .i64 19] w' fun e w'' => e = .returned (.int .i64 (b : Nat)) ∧ ∃ i', MkAt rs ao cap mk i' w'' ∧ rs.drop i' = r2 ∧ Kept (· = mk) w' w'') := fun j w' hj e => by
      have := HN2.out j w' hj
      unfold NextR at this
      rw [e, hnx2] at this
      exact this
    have j1 : -9223372036854775808 ≤ (b : Int) - 9 := by omega
    have j2 : (b : Int) - 9 ≤ 9223372036854775807 := by omega
    have HI : Hid (∀ w', Kept (· = mk) w w' → Calls Tryz.prog 16 #[.int .i64 ((b : Int) - 9)] w' fun e w'' => e = .returned (.string ⟨(Lib.itoa ((b : Int) - 9)).toArray⟩) ∧ Below w'.heap.size w' w'') := fun w' hk => itoa16 _ j1 j2 w' (HT.out.kept hk (fun e => hmt e.symm))
    clear HN2 hnx hnx2
    generalize Lib.itoa ((b : Int) - 9) = T at *
    go_enter Tryz.func15, Tryz.ntmps15
    go_upto_region 4 with (first | (go_at_call 18; refine HN.out.mono ?_; rintro e2 w2 ⟨rfl, i2, hM2, hd2, hk2⟩; have HM2 := (show Hid _ from hM2); have HD2 := (show Hid _ from hd2); have HK2 := (show Hid _ from hk2); clear hM2 hd2 hk2))
    go_upto_region 5 with (first | (go_at_call 18; refine (HN3.out _ _ HM2.out HD2.out).mono ?_; rintro e3 w3 ⟨rfl, i3, hM3, hd3, hk3⟩; have HM3 := (show Hid _ from hM3); have HD3 := (show Hid _ from hd3); have HK3 := (show Hid _ from HK2.out.trans hk3); clear hM3 hd3 hk3))
    go_wp2_with (first | (go_at_call 16; refine (HI.out _ HK3.out).mono ?_; rintro e4 w4 ⟨rfl, hb4⟩; have HB4 := (show Hid _ from hb4); clear hb4))
    go_ret2
    have hk4 : Kept (fun k => k = mk) w3 w4 := Kept.of_below HB4.out _
    exact ⟨rfl, i3, HM3.out.kept (M := fun _ => False) (Kept.of_below HB4.out _) id (fun _ _ => id), HD3.out, HK3.out.trans hk4⟩

/-- What is known behind the three calls of a sum. -/
def Behind (rs : List Int) (ao : Option Addr) (cap mk : Nat) (r3 : List Int) (w w' : World) : Prop := ∃ i', MkAt rs ao cap mk i' w' ∧ rs.drop i' = r3 ∧ Kept (· = mk) w w'
set_option maxHeartbeats 8000000 in
set_option maxRecDepth 20000 in
theorem sum15_1 (rs : List Int) (ao : Option Addr) (cap mk : Nat) (x : Int) (d : Nat) (hd : d ≤ 1) (w : World) (A B : ByteArray) (hA : A.size ≤ 200) (hB : B.size ≤ 200) (p q : Int) (hp0 : -400000 ≤ p) (hp1 : p ≤ 400000) (hq0 : -400000 ≤ q) (hq1 : q ≤ 400000) (c : Nat) (hc : c < 8) (r1 r2 r3 : List Int)
    (H1 : Hid (Calls Tryz.prog 15 #[.pointer (some ⟨mk, 0, none⟩), .int .i64 d, .int .i64 x] w fun e w' => e = .returned (.tuple #[.string A, .int .i64 p]) ∧ Behind rs ao cap mk r1 w w'))
    (H2 : Hid (∀ w', Behind rs ao cap mk r1 w w' → Calls Tryz.prog 15 #[.pointer (some ⟨mk, 0, none⟩), .int .i64 d, .int .i64 x] w' fun e w'' => e = .returned (.tuple #[.string B, .int .i64 q]) ∧ Behind rs ao cap mk r2 w w''))
    (H3 : Hid (∀ w', Behind rs ao cap mk r2 w w' → Calls Tryz.prog 18 #[.pointer (some ⟨mk, 0, none⟩), .int .i64 8] w' fun e w'' => e = .returned (.int .i64 c) ∧ Behind rs ao cap mk r3 w w'')) :
    Calls Tryz.prog 15 #[.pointer (some ⟨mk, 0, none⟩), .int .i64 ((d + 1 : Nat) : Int), .int .i64 x] w fun e w' => e = .returned (.tuple #[.string (opB c A B), .int .i64 (Rd.opV c p q)]) ∧ Behind rs ao cap mk r3 w w' := by
  have d0 : ¬ ((d + 1 : Nat) : Int) = 0 := by omega
  have d1 : ((d + 1 : Nat) : Int) - 1 = d := by omega
  have d2 : -9223372036854775808 ≤ (d : Int) := by omega
  have d3 : (d : Int) ≤ 9223372036854775807 := by omega
  generalize ((d + 1 : Nat) : Int) = D at *
  generalize (d : Int) = d' at *
  clear hd
  generalize hX : opB c A B = X
  generalize hV : Rd.opV c p q = V
  go_enter Tryz.func15, Tryz.ntmps15
  go_upto_region 7 with (first | (go_at_call 15; refine H1.out.mono ?_; rintro e2 w2 ⟨rfl, hh2⟩; have HH2 := (show Hid _ from hh2); clear hh2))
  go_upto_region 8 with (first | (go_at_call 15; refine (H2.out _ HH2.out).mono ?_; rintro e3 w3 ⟨rfl, hh3⟩; have HH3 := (show Hid _ from hh3); clear hh3))
  have hcc : c = 0 ∨ c = 1 ∨ c = 2 ∨ c = 3 ∨ c = 4 ∨ c = 5 ∨ 6 ≤ c := by omega
  rcases hcc with rfl | rfl | rfl | rfl | rfl | rfl | hc6
  · skip
    have HX := (show Hid _ from hX)
    have HV := (show Hid _ from hV)
    clear hX hV
    have s1 : ¬ 9223372036854775807 < 3 + A.size := by omega
    have s2 : ¬ 9223372036854775807 < 3 + A.size + 1 := by omega
    have s3 : ¬ 9223372036854775807 < 3 + A.size + 1 + B.size := by omega
    have s4 : ¬ 9223372036854775807 < 3 + A.size + 1 + B.size + 1 := by omega
    have v1 : -9223372036854775808 ≤ p - q := by omega
    have v2 : p - q ≤ 9223372036854775807 := by omega
    go_wp2_with (first | (go_at_call 18; refine (H3.out _ HH3.out).mono ?_; rintro e4 w4 ⟨rfl, hh4⟩; have HH4 := (show Hid _ from hh4); clear hh4))
    go_ret2
    exact ⟨by rw [← HV.out, ← HX.out]; rfl, HH4.out⟩
  · skip
    have HX := (show Hid _ from hX)
    have HV := (show Hid _ from hV)
    clear hX hV
    have s1 : ¬ 9223372036854775807 < 9 + A.size := by omega
    have s2 : ¬ 9223372036854775807 < 9 + A.size + 8 := by omega
    have s3 : ¬ 9223372036854775807 < 9 + A.size + 8 + B.size := by omega
    have s4 : ¬ 9223372036854775807 < 9 + A.size + 8 + B.size + 2 := by omega
    have v1 : -9223372036854775808 ≤ p + q := by omega
    have v2 : p + q ≤ 9223372036854775807 := by omega
    go_wp2_with (first | (go_at_call 18; refine (H3.out _ HH3.out).mono ?_; rintro e4 w4 ⟨rfl, hh4⟩; have HH4 := (show Hid _ from hh4); clear hh4))
    go_ret2
    exact ⟨by rw [← HV.out, ← HX.out]; rfl, HH4.out⟩
  · skip
    have HX := (show Hid _ from hX)
    have s1 : ¬ 9223372036854775807 < 7 + A.size := by omega
    have s2 : ¬ 9223372036854775807 < 7 + A.size + 1 := by omega
    have s3 : ¬ 9223372036854775807 < 7 + A.size + 1 + B.size := by omega
    have s4 : ¬ 9223372036854775807 < 7 + A.size + 1 + B.size + 6 := by omega
    by_cases hpq : p < q
    · have ev : Rd.opV 2 p q = 1 := if_pos hpq
      have HV : Hid (V = 1) := hV.symm.trans ev
      clear ev hX hV
      go_wp2_with (first | (go_at_call 18; refine (H3.out _ HH3.out).mono ?_; rintro e4 w4 ⟨rfl, hh4⟩; have HH4 := (show Hid _ from hh4); clear hh4))
      go_ret2
      exact ⟨by rw [HV.out, ← HX.out]; rfl, HH4.out⟩
    · have ev : Rd.opV 2 p q = 0 := if_neg hpq
      have HV : Hid (V = 0) := hV.symm.trans ev
      clear ev hX hV
      go_wp2_with (first | (go_at_call 18; refine (H3.out _ HH3.out).mono ?_; rintro e4 w4 ⟨rfl, hh4⟩; have HH4 := (show Hid _ from hh4); clear hh4))
      go_ret2
      exact ⟨by rw [HV.out, ← HX.out]; rfl, HH4.out⟩
  · skip
    have HX := (show Hid _ from hX)
    have HV := (show Hid _ from hV)
    clear hX hV
    have s1 : ¬ 9223372036854775807 < 7 + A.size := by omega
    have s2 : ¬ 9223372036854775807 < 7 + A.size + 1 := by omega
    have s3 : ¬ 9223372036854775807 < 7 + A.size + 1 + B.size := by omega
    have s4 : ¬ 9223372036854775807 < 7 + A.size + 1 + B.size + 1 := by omega
    go_wp2_with (first | (go_at_call 18; refine (H3.out _ HH3.out).mono ?_; rintro e4 w4 ⟨rfl, hh4⟩; have HH4 := (show Hid _ from hh4); clear hh4))
    go_ret2
    exact ⟨by rw [← HV.out, ← HX.out]; rfl, HH4.out⟩
  · skip
    have HX := (show Hid _ from hX)
    have HV := (show Hid _ from hV)
    clear hX hV
    have s1 : ¬ 9223372036854775807 < 24 + A.size := by omega
    have s2 : ¬ 9223372036854775807 < 24 + A.size + 1 := by omega
    have s3 : ¬ 9223372036854775807 < 24 + A.size + 1 + B.size := by omega
    have s4 : ¬ 9223372036854775807 < 24 + A.size + 1 + B.size + 1 := by omega
    have v1 : -9223372036854775808 ≤ q - p := by omega
    have v2 : q - p ≤ 9223372036854775807 := by omega
    go_wp2_with (first | (go_at_call 18; refine (H3.out _ HH3.out).mono ?_; rintro e4 w4 ⟨rfl, hh4⟩; have HH4 := (show Hid _ from hh4); clear hh4))
    go_ret2
    exact ⟨by rw [← HV.out, ← HX.out]; rfl, HH4.out⟩
  · skip
    have HX := (show Hid _ from hX)
    have HV := (show Hid _ from hV)
    clear hX hV
    have s1 : ¬ 9223372036854775807 < 16 + A.size := by omega
    have s2 : ¬ 9223372036854775807 < 16 + A.size + 1 := by omega
    have s3 : ¬ 9223372036854775807 < 16 + A.size + 1 + B.size := by omega
    have s4 : ¬ 9223372036854775807 < 16 + A.size + 1 + B.size + 3 := by omega
    go_wp2_with (first | (go_at_call 18; refine (H3.out _ HH3.out).mono ?_; rintro e4 w4 ⟨rfl, hh4⟩; have HH4 := (show Hid _ from hh4); clear hh4))
    go_ret2
    exact ⟨by rw [← HV.out, ← HX.out]; rfl, HH4.out⟩
  · skip
    have n0 : ¬ (c : Int) = 0 := by omega
    have n1 : ¬ (c : Int) = 1 := by omega
    have n2 : ¬ (c : Int) = 2 := by omega
    have n3 : ¬ (c : Int) = 3 := by omega
    have n4 : ¬ (c : Int) = 4 := by omega
    have n5 : ¬ (c : Int) = 5 := by omega
    obtain ⟨c', rfl⟩ : ∃ c', c = c' + 6 := ⟨c - 6, by omega⟩
    have e1 : opB (c' + 6) A B = ⟨#[40, 43, 32]⟩ ++ A ++ ⟨#[32]⟩ ++ B ++ ⟨#[41]⟩ := rfl
    have e2 : Rd.opV (c' + 6) p q = p + q := rfl
    rw [e1] at hX
    rw [e2] at hV
    clear e1 e2
    generalize ((c' + 6 : Nat) : Int) = cc at *
    have HX := (show Hid _ from hX)
    have HV := (show Hid _ from hV)
    clear hX hV
    have s1 : ¬ 9223372036854775807 < 3 + A.size := by omega
    have s2 : ¬ 9223372036854775807 < 3 + A.size + 1 := by omega
    have s3 : ¬ 9223372036854775807 < 3 + A.size + 1 + B.size := by omega
    have s4 : ¬ 9223372036854775807 < 3 + A.size + 1 + B.size + 1 := by omega
    have v1 : -9223372036854775808 ≤ p + q := by omega
    have v2 : p + q ≤ 9223372036854775807 := by omega
    go_wp2_with (first | (go_at_call 18; refine (H3.out _ HH3.out).mono ?_; rintro e4 w4 ⟨rfl, hh4⟩; have HH4 := (show Hid _ from hh4); clear hh4))
    go_ret2
    exact ⟨by rw [← HV.out, ← HX.out]; rfl, HH4.out⟩

theorem sum15 (rs : List Int) (ao : Option Addr) (cap mk : Nat) (x L : Int) (h0 : -L ≤ x) (h1 : x ≤ L) (hL : 100 ≤ L) (hL' : L ≤ 100000) (hmt : mk ≠ tabBlock) : ∀ (d : Nat), d ≤ 2 → ∀ (i : Nat) (w : World), MkAt rs ao cap mk i w → TabOk w →
    Calls Tryz.prog 15 #[ptrV mk, .int .i64 d, .int .i64 x] w (SumR rs ao cap mk (Rd.mkSum x d (rs.drop i)) w)
  | 0, _, i, w, h, ht => sum15_0 rs ao cap mk x hmt i w h ht
  | d + 1, hd, i, w, h, ht => by
    have ih := sum15 rs ao cap mk x L h0 h1 hL hL' hmt d (by omega)
    have l1 := mkSum_lim h0 h1 hL hL' d (rs.drop i) (by omega)
    have l2 := mkSum_lim h0 h1 hL hL' d (Rd.mkSum x d (rs.drop i)).2.2 (by omega)
    have i1 := ih i w h ht
    have i2 : ∀ w', Behind rs ao cap mk (Rd.mkSum x d (rs.drop i)).2.2 w w' → Calls Tryz.prog 15 #[ptrV mk, .int .i64 d, .int .i64 x] w' fun e w'' => e = .returned (.tuple #[.string ⟨(Rd.mkSum x d (Rd.mkSum x d (rs.drop i)).2.2).1.toArray⟩, .int .i64 (Rd.mkSum x d (Rd.mkSum x d (rs.drop i)).2.2).2.1]) ∧ Behind rs ao cap mk (Rd.mkSum x d (Rd.mkSum x d (rs.drop i)).2.2).2.2 w w'' := by
      rintro w' ⟨j, hj, hdj, hk⟩
      have := ih j w' hj (ht.kept hk (fun e => hmt e.symm))
      rw [hdj] at this
      exact this.mono fun e w'' ⟨he, j', a, b, c⟩ => ⟨he, j', a, b, hk.trans c⟩
    have i3 : ∀ r w', Behind rs ao cap mk r w w' → Calls Tryz.prog 18 #[ptrV mk, .int .i64 8] w' fun e w'' => e = .returned (.int .i64 ((Rd.nextN 8 r).1 : Nat)) ∧ Behind rs ao cap mk (Rd.nextN 8 r).2 w w'' := by
      rintro r w' ⟨j, hj, rfl, hk⟩
      exact (next18 rs ao cap mk j 8 (by omega) (by omega) w' hj).mono fun e w'' ⟨he, j', a, b, c⟩ => ⟨he, j', a, b, hk.trans c⟩
    unfold SumR at i1 ⊢
    rw [Rd.mkSum]
    generalize Rd.mkSum x d (rs.drop i) = m1 at *
    obtain ⟨a, p, r1⟩ := m1
    simp only at *
    generalize Rd.mkSum x d r1 = m2 at *
    obtain ⟨b, q, r2⟩ := m2
    simp only at *
    have hc := Rd.nextN_lt 8 r2 (by omega)
    have i4 := i3 r2
    generalize Rd.nextN 8 r2 = m3 at *
    obtain ⟨c, r3⟩ := m3
    simp only at *
    rw [opB_eq]
    exact sum15_1 rs ao cap mk x d (by omega) w ⟨a.toArray⟩ ⟨b.toArray⟩ (by rw [sz]; exact l1.2.2) (by rw [sz]; exact l2.2.2) p q l1.1 l1.2.1 l2.1 l2.2.1 c hc r1 r2 r3 i1 i2 i4
end Go.Proofs.YtodeeegbajgafaaGreatDoor

namespace Go.Proofs.YtodeeegbajgafaaGreatDoor
open Go.RowKit
open Mc

theorem Mach.aside {N : Nat → Prop} {B ob : Nat} {G : List (Rd.Sym × V)} {w : World} {g : Gh} (h : Mach N B ob G w g) (o : Obj) : Mach (fun k => N k ∨ k = w.heap.size) B ob G (w.alloc o) g := ⟨at_alloc h.box _, h.low, h.fix, h.m.aside o, h.high⟩
/-- What is not the machine's may change. -/
theorem Mach.other {N M : Nat → Prop} {B ob : Nat} {G : List (Rd.Sym × V)} {w w' : World} {g : Gh} (h : Mach N B ob G w g) (hk : Kept M w w') (hM : ∀ k, M k → N k) (ho : ¬ M ob) : Mach N B ob G w' g :=
  ⟨hk.at ho h.box, h.low, h.fix, h.m.other hk.size (fun k hk' hn => hk.block k hk' (fun e => hn (hM k e))) (fun _ e => e), h.high⟩
theorem Mach.alloc {N : Nat → Prop} {B ob : Nat} {G : List (Rd.Sym × V)} {w : World} {g : Gh} (h : Mach N B ob G w g) (o : Obj) : Mach N B ob G (w.alloc o) g := h.below ((Below.refl _ w).alloc (Nat.le_refl _) _)
theorem Mach.lt {N : Nat → Prop} {B ob : Nat} {G : List (Rd.Sym × V)} {w : World} {g : Gh} (h : Mach N B ob G w g) : ob < w.heap.size := lt_of_at h.box
theorem Mach.new {N : Nat → Prop} {B ob : Nat} {G : List (Rd.Sym × V)} {w : World} {g : Gh} (h : Mach N B ob G w g) {k : Nat} (hk : w.heap.size ≤ k) : ¬ g.mut k := fun e => by have := Gh.low h.m k e; omega

/-- What a run that came to a value gives. -/
def ValR (N : Nat → Prop) (B ob : Nat) (g : Gh) (G' : List (Rd.Sym × V)) (txt : List UInt8) (k : Nat) (w : World) : Ending → World → Prop := fun e w' => ∃ g' sa sn sc, e = .returned (.tuple #[.agg #[.int .i64 1, .string ⟨txt.toArray⟩, .int .i64 0, .int .i64 k, .slice sa sn sc], .bool true]) ∧ Mach N B ob G' w' g' ∧ Below B w w' ∧ Kept g.mut w w'
theorem run_val {sh : V → Option (List UInt8)} (HC : CallC sh) {N : Nat → Prop} {B ob : Nat} {G G' : List (Rd.Sym × V)} {g : Gh} {s : List UInt8} {f : Rd.F} {v : V} {txt : List UInt8} {k : Nat} {sn : List (List UInt8)} {w : World} (hM : Mach N B ob G w g) (hBw : B ≤ w.heap.size) (hNt : tabBlock < B) (htab : TabOk w) (hs : Forms s [f]) (hx : Mc.Ends 20000 sh (begin_ G) [f] (at_ G' sn (.val v) [] [] k)) (hshow : ShowsAs v txt) :
    Calls Tryz.prog 13 #[.pointer (some ⟨ob, 0, none⟩), .string ⟨s.toArray⟩] w (ValR N B ob g G' txt k w) := by
  refine (run13 sh HC N B ob G g s [f] _ txt w hM hBw hNt htab hs hx (by simp) (fun _ u hu => ?_)).mono ?_
  · cases hu
    exact hshow
  · rintro e w' ⟨g', sa, sn', sc, rfl, h1, h2, h3⟩
    exact ⟨g', sa, sn', sc, rfl, h1, h2.below hBw hM.high, h2⟩
theorem itoa_ne (n : Int) : Lib.itoa n ≠ [] := by
  by_cases hn : 0 ≤ n
  · obtain ⟨i, rfl⟩ := Int.eq_ofNat_of_zero_le hn
    show Lib.itoa (i : Int) ≠ []
    rw [Lib.itoa_nonneg, Lib.decDigits]
    split <;> simp
  · obtain ⟨i, hi⟩ := Int.eq_ofNat_of_zero_le (a := -n) (by omega)
    obtain rfl : n = -(i : Int) := by omega
    rw [Lib.itoa_neg i (by omega)]
    simp
theorem shows_num {n : Int} (h0 : -1000000000 ≤ n) (h1 : n ≤ 1000000000) : ShowsAs (Rd.num n) (Lib.itoa n) := ShowsAs.num (by omega) (by omega) (itoa_ne n)
theorem shows_x : ShowsAs (.atom (.sym Rd.nX')) Rd.nX' := ShowsAs.sym (by decide) (by decide)
theorem forms_def {n : Int} (h0 : -100 < n) (h1 : n < 1000) : Forms (Rd.defT n) [Rd.defF' n] := by
  refine Forms.ofTTs (Rd.TTs.one (Rd.tt_def h0 h1) (by omega)) ?_ (by omega) (by omega) (by simp)
  have := (Rd.numW_itoa h0 h1).short
  simp [Rd.defT]
  omega
theorem ends_def' (n : Int) (sh : Sh) : Mc.Ends 20000 sh (begin_ G0) [Rd.defF' n] (at_ (Rd.GX n) [] (.val (.atom (.sym Rd.nX'))) [] [] 2) := ends_def n sh
theorem forms_ft {l : List UInt8} {x : Rd.F} {K H : Nat} (h : Rd.FT Rd.Free l x K H) (hl : l.length ≤ 500) (hK : K ≤ 2000) (hK1 : 1 ≤ K) (hH : H ≤ 20) : Forms l [x] :=
  Forms.ofTTs (Rd.TTs.one (Rd.TT.of h hK1) hK1) hl (by omega) hH (by simp)
theorem defT_bytes (n : Int) : (⟨(Rd.defT n).toArray⟩ : ByteArray) = ⟨#[40, 100, 101, 102, 105, 110, 101, 32, 120, 32]⟩ ++ ⟨(Lib.itoa n).toArray⟩ ++ ⟨#[41]⟩ := by
  apply ByteArray.ext
  simp [Rd.defT]
/-- An evaluation with less fuel than it takes. -/
theorem outcome_dry {t : St} {F : Nat} (h : t.dry F) (txt : List UInt8) (sh : Value) : outcome t txt sh = .agg #[.int .i64 3, .string ⟨#[]⟩, .int .i64 t.why, .int .i64 F, sh] := by
  unfold outcome
  rw [if_neg (by rw [h.1]; decide), h.1, h.2]
  rfl
end Go.Proofs.YtodeeegbajgafaaGreatDoor

namespace Go.Proofs.YtodeeegbajgafaaGreatDoor
open Go.RowKit
open Mc
namespace Rd
theorem TTs.more {a l : List UInt8} {x : F} {xs : List F} {K H K' H' : Nat} (h : TT a x K H) (h' : TTs l xs K' H') (hs : stops l) : TTs (a ++ l) (x :: xs) (max K K' + 1) (max H H') := by
  refine DtL.mono (DtL.cons h h' hs) ?_ (Nat.le_refl _) (Nat.le_refl _)
  rintro ds ⟨d, ds', rfl, hd, hl, hds⟩
  refine ⟨by simp [hl], fun f hf => ?_⟩
  rw [pTops, hd f (by omega), hds f (by omega)]
theorem TTs.nil : TTs [] [] 1 0 := DtL.mono DtL.nil (fun ds e => by subst e; exact ⟨rfl, fun f _ => by rw [pTops]⟩) (Nat.le_refl _) (Nat.le_refl _)
theorem TTs.mono {l : List UInt8} {xs : List F} {K H K' H' : Nat} (h : TTs l xs K H) (hk : K ≤ K') (hh : H ≤ H') : TTs l xs K' H' := DtL.mono h (fun _ hd => ⟨hd.1, fun f hf => hd.2 f (by omega)⟩) hk hh
/-- Texts, a blank ahead of each. -/
def joinL (l : List (List UInt8)) : List UInt8 := l.flatMap fun t => 32 :: t
theorem joinL_snoc (l : List (List UInt8)) (t : List UInt8) : joinL (l ++ [t]) = joinL l ++ 32 :: t := by simp [joinL]
theorem tts_join : ∀ (ps : List Pc), (∀ p ∈ ps, TT p.txt p.f 31 9) → TTs (joinL (ps.map (·.txt))) (ps.map (·.f)) (32 + ps.length) 9 ∧ stops (joinL (ps.map (·.txt))) ∧ (∀ M, (∀ p ∈ ps, p.txt.length ≤ M) → (joinL (ps.map (·.txt))).length ≤ (M + 1) * ps.length)
  | [], _ => ⟨TTs.nil.mono (by omega) (by omega), trivial, fun M _ => by simp [joinL]⟩
  | p :: ps, h => by
    obtain ⟨h1, h2, h3⟩ := tts_join ps fun q hq => h q (List.mem_cons_of_mem _ hq)
    have e : joinL ((p :: ps).map (·.txt)) = 32 :: (p.txt ++ joinL (ps.map (·.txt))) := by simp [joinL]
    rw [e]
    refine ⟨?_, stops_blank _, fun M hM => ?_⟩
    · have := DtL.blank (TTs.more (h p (List.mem_cons_self ..)) h1 h2)
      exact TTs.mono this (by simp; omega) (by omega)
    · have := h3 M fun q hq => hM q (List.mem_cons_of_mem _ hq)
      have := hM p (List.mem_cons_self ..)
      simp only [List.length_cons, List.length_append, Nat.mul_succ]
      omega
def lastP (m : Int) : Pc := ⟨lastT, lastF, GX m, [], num m, Lib.itoa m, 4⟩
def defP (n : Int) : Pc := ⟨defT n, defF' n, GX n, [], .atom (.sym nX'), nX', 2⟩
theorem vOf_snoc (m : Int) : ∀ (ps : List Pc) (v : V), vOf (ps ++ [lastP m]) v = num m
  | [], _ => rfl
  | _ :: ps, _ => vOf_snoc m ps _
theorem outOf_snoc (m : Int) : ∀ (ps : List Pc) (v : List UInt8), outOf (ps ++ [lastP m]) v = Lib.itoa m
  | [], _ => rfl
  | _ :: ps, _ => outOf_snoc m ps _
end Rd
open Rd (Pc Chain stepsOf shownOf outOf vOf gOf mkForms joinL defP lastP)
/-- What there is to know of Split's forms. -/
structure SplOk (n : Int) (texts : List (List UInt8)) (m : Int) (Ps : List Pc) : Prop where
  txts : Ps.map (·.txt) = Rd.defT n :: (texts ++ [Rd.lastT])
  chain : Chain G0 Ps
  all : Forms (Rd.defT n ++ joinL (texts ++ [Rd.lastT])) (Ps.map (·.f))
  each : ∀ p ∈ Ps, Forms p.txt [p.f] ∧ ShowsAs p.v p.out ∧ p.k ≤ 40 ∧ p.sh.length ≤ 1
  steps : stepsOf Ps ≤ 1000
  shown : (shownOf Ps).length ≤ 10
  out : ∀ a, outOf Ps a = Lib.itoa m
  val : ∀ v, vOf Ps v = Rd.num m
  few : Ps.length ≤ 7
  lim : -10000 ≤ m ∧ m ≤ 10000
  len : ∀ t ∈ Rd.defT n :: (texts ++ [Rd.lastT]), t.length ≤ 60
  ne : Ps ≠ []
theorem steps_le : ∀ (Ps : List Pc), (∀ p ∈ Ps, p.k ≤ 40 ∧ p.sh.length ≤ 1) → stepsOf Ps ≤ 40 * Ps.length ∧ (shownOf Ps).length ≤ Ps.length
  | [], _ => by simp [stepsOf, shownOf]
  | p :: Ps, h => by
    obtain ⟨h1, h2⟩ := steps_le Ps fun q hq => h q (List.mem_cons_of_mem _ hq)
    obtain ⟨h3, h4⟩ := h p (List.mem_cons_self ..)
    have e1 : stepsOf (p :: Ps) = p.k + stepsOf Ps := by simp [stepsOf]
    have e2 : shownOf (p :: Ps) = p.sh ++ shownOf Ps := by simp [shownOf]
    rw [e1, e2]
    simp only [List.length_cons, List.length_append]
    omega
theorem split_ok (n : Int) (h0 : 0 ≤ n) (h1 : n < 100) (k : Nat) (hk : k ≤ 5) (raw : List Int) : ∃ Ps, SplOk n (mkForms k n raw).1 (mkForms k n raw).2 Ps ∧ Ps.length = k + 2 := by
  have hp : (100 : Int) * 2 ^ k ≤ 3200 := by
    have : k = 0 ∨ k = 1 ∨ k = 2 ∨ k = 3 ∨ k = 4 ∨ k = 5 := by omega
    rcases this with rfl | rfl | rfl | rfl | rfl | rfl <;> decide
  obtain ⟨ps, i1, i2, i3, m, i4, i5, i6, i7⟩ := Rd.mkForms_ok k n raw 100 hk (by omega) (by omega) (by omega) (by omega)
  rw [← i4]
  have hw := (Rd.numW_itoa (n := n) (by omega) (by omega)).short
  have hd : (Rd.defT n).length ≤ 60 := by simp [Rd.defT]; omega
  have hall : ∀ p ∈ defP n :: (ps ++ [lastP m]), Forms p.txt [p.f] ∧ ShowsAs p.v p.out ∧ p.k ≤ 40 ∧ p.sh.length ≤ 1 ∧ p.txt.length ≤ 60 := by
    intro p hp
    rcases List.mem_cons.1 hp with rfl | hp
    · exact ⟨forms_def (by omega) (by omega), shows_x, by simp [defP], by simp [defP], hd⟩
    · rcases List.mem_append.1 hp with hp | hp
      · obtain ⟨j1, j2, j3, j4, j5⟩ := i3 p hp
        refine ⟨forms_ft j1 (by omega) (by omega) (by omega) (by omega), ?_, j4, j5, j2⟩
        rcases j3 with ⟨e1, e2⟩ | ⟨q, q0, q1, e1, e2⟩
        · rw [e1, e2]; exact ShowsAs.empty
        · rw [e1, e2]; exact shows_num (by omega) (by omega)
      · simp only [List.mem_singleton] at hp
        subst hp
        exact ⟨forms_ft Rd.ft_last (by simp [lastP, Rd.lastT]) (by omega) (by omega) (by omega), shows_num (by omega) (by omega), by simp [lastP], by simp [lastP], by simp [lastP, Rd.lastT]⟩
  have htt : ∀ p ∈ ps ++ [lastP m], Rd.TT p.txt p.f 31 9 := by
    intro p hp
    rcases List.mem_append.1 hp with hp | hp
    · exact Rd.TT.of (i3 p hp).1 (by omega)
    · simp only [List.mem_singleton] at hp
      subst hp
      exact (Rd.TT.of Rd.ft_last (by omega)).mono (by omega) (by omega)
  obtain ⟨t1, t2, t3⟩ := Rd.tts_join (ps ++ [lastP m]) htt
  have et : (ps ++ [lastP m]).map (·.txt) = (mkForms k n raw).1 ++ [Rd.lastT] := by simp [i1, lastP]
  have hlen : (ps ++ [lastP m]).length = k + 1 := by simp [i2]
  have hs := steps_le (defP n :: (ps ++ [lastP m])) fun p hp => ⟨(hall p hp).2.2.1, (hall p hp).2.2.2.1⟩
  have hl2 : (defP n :: (ps ++ [lastP m])).length = k + 2 := by simp [i2]
  rw [hl2] at hs
  have htx : (defP n :: (ps ++ [lastP m])).map (·.txt) = Rd.defT n :: ((mkForms k n raw).1 ++ [Rd.lastT]) := by rw [List.map_cons, et]; rfl
  refine ⟨defP n :: (ps ++ [lastP m]), ⟨htx, .cons (Rd.does_def n) i7, ?_, fun p hp => ⟨(hall p hp).1, (hall p hp).2.1, (hall p hp).2.2.1, (hall p hp).2.2.2.1⟩, by omega, by omega, fun a => Rd.outOf_snoc m (defP n :: ps) a, fun v => Rd.vOf_snoc m (defP n :: ps) v, by rw [hl2]; omega, by omega, ?_, by simp⟩, hl2⟩
  · rw [← et]
    have := Rd.TTs.more (Rd.tt_def (n := n) (by omega) (by omega)) t1 t2
    have h3 := t3 60 fun p hp => (hall p (List.mem_cons_of_mem _ hp)).2.2.2.2
    refine Forms.ofTTs this ?_ (by omega) (by omega) (by rw [List.length_map]; omega)
    simp only [List.length_append]
    rw [hlen] at h3
    have : (60 + 1) * (k + 1) ≤ 366 := by omega
    have hd2 : (Rd.defT n).length ≤ 20 := by simp [Rd.defT]; omega
    omega
  · rw [← htx]
    intro t ht
    obtain ⟨p, hp, rfl⟩ := List.mem_map.1 ht
    exact (hall p hp).2.2.2.2
end Go.Proofs.YtodeeegbajgafaaGreatDoor

namespace Go.Proofs.YtodeeegbajgafaaGreatDoor
open Go.RowKit
open Mc

/-- A maker of numbers that came in. -/
theorem mk_new {W w1 : World} {ao : Option Addr} {cap : Nat} {rs : List Int} (hcell : ∀ i (hi : i < rs.length), ∃ a, ao = some a ∧ W.cell? (a.add i) = some (.int .i64 rs[i])) (hz : ∀ i (hi : i < rs.length), -9223372036854775808 ≤ rs[i] ∧ rs[i] ≤ 9223372036854775807) (hl : rs.length ≤ 9223372036854775807) (hb : Below W.heap.size W w1) (T : TypeId) :
    MkAt rs ao cap w1.heap.size 0 (w1.alloc (.cells #[.slice ao rs.length cap, .int .i64 0] T)) := by
  refine ⟨⟨T, at_new w1 _⟩, Nat.zero_le _, fun j hj => ?_, hz, hl⟩
  obtain ⟨a, rfl, hc⟩ := hcell j hj
  have hab := World.block_lt_of_cell? W _ hc
  rw [add_block] at hab
  have hs := hb.size
  have hk : Kept (fun _ => False) W (w1.alloc (.cells #[.slice (some a) rs.length cap, .int .i64 0] T)) := ⟨hb.os, hb.tape, hb.output, by simp; omega, fun k hk _ => by rw [Below.heap_alloc _ _ _ (by omega)]; exact hb.block k hk⟩
  exact ⟨a, rfl, by omega, hk.cellA id hc⟩

/-- The form that Sums makes, cut where it is too long. -/
theorem sums_form (rs : List Int) (n : Int) (h0 : -50 ≤ n) (h1 : n ≤ 50) : ∃ (T : List UInt8) (v : Int) (F : Rd.F) (k : Nat), Forms T [F] ∧ (∀ sn e, Ev (Rd.GX n) sn F e (Rd.num v) k) ∧ k ≤ 100 ∧ -400000 ≤ v ∧ v ≤ 400000 ∧
    ((¬ 400 < (Rd.mkSum n 2 rs).1.length ∧ T = (Rd.mkSum n 2 rs).1 ∧ v = (Rd.mkSum n 2 rs).2.1) ∨ (400 < (Rd.mkSum n 2 rs).1.length ∧ T = [120] ∧ v = n)) := by
  obtain ⟨F, k, i1, i2, i3, i4, i5, i6⟩ := Rd.mkSum_big (L := 100) (Rd.GX_has n) (Rd.GX_x n) (by omega) (by omega) (by omega) (by omega) 2 rs (by omega)
  by_cases hl : 400 < (Rd.mkSum n 2 rs).1.length
  · exact ⟨[120], n, _, 1, forms_ft Rd.ft_x (by decide) (by omega) (by omega) (by omega), fun sn e => .global (Rd.GX_x n) e, by omega, by omega, by omega, Or.inr ⟨hl, rfl, rfl⟩⟩
  · refine ⟨_, _, F, k, forms_ft i1 (by omega) (by omega) (by omega) (by omega), i3, by omega, ?_, ?_, Or.inl ⟨hl, rfl, rfl⟩⟩
    · simp at i4; omega
    · simp at i5; omega

def LessR (B : Nat) (g : Gh) (K : Nat) (T : ByteArray) (st : Nat) (w : World) : Ending → World → Prop := fun e w' => ∃ (y : Int) (sa : Option Addr) (sn sc : Nat), e = .returned (.tuple #[.agg #[.int .i64 K, .string T, .int .i64 y, .int .i64 st, .slice sa sn sc], .int .i64 0, .int .i64 0]) ∧ Below B w w' ∧ Kept g.mut w w'
theorem eval_less {N : Nat → Prop} {B ob : Nat} {G : List (Rd.Sym × V)} {g : Gh} {s : List UInt8} {F : Rd.F} {v : Int} {k f : Nat} {w : World} (hM : Mach N B ob G w g) (hBw : B ≤ w.heap.size) (hNt : tabBlock < B) (htab : TabOk w) (hs : Forms s [F]) (hx : ∀ sn e, Ev G sn F e (Rd.num v) k) (hf : f ≤ 100) (h0 : -1000000 ≤ v) (h1 : v ≤ 1000000) :
    Calls Tryz.prog 17 #[.pointer (some ⟨ob, 0, none⟩), .string ⟨s.toArray⟩, .int .i64 f] w (LessR B g (if f < k then 3 else 1) (if f < k then ⟨#[]⟩ else ⟨(Lib.itoa v).toArray⟩) (if f < k then f else k) w) := by
  by_cases hfk : f < k
  · rw [if_pos hfk, if_pos hfk, if_pos hfk]
    obtain ⟨u, hu, hd⟩ := Ev.stops (sh := shN) (hx [] []) hfk
    refine (eval17 shN callN N B ob G g f (by omega) s [F] u [] w hM hBw hNt htab hs hu (by simp) (fun hk => by rw [hd.1] at hk; cases hk)).mono ?_
    rintro e w' ⟨g', sa, sn, sc, rfl, h1, h2, h3⟩
    exact ⟨_, sa, sn, sc, by rw [outcome_dry hd]; rfl, h2.below hBw hM.high, h2⟩
  · rw [if_neg hfk, if_neg hfk, if_neg hfk]
    refine (eval17 shN callN N B ob G g f (by omega) s [F] _ (Lib.itoa v) w hM hBw hNt htab hs (Ev.ends (hx [] []) (by omega)) (by simp) (fun hk u hu => ?_)).mono ?_
    · cases hu
      exact shows_num (by omega) (by omega)
    rintro e w' ⟨g', sa, sn, sc, rfl, h1, h2, h3⟩
    exact ⟨0, sa, sn, sc, rfl, h2.below hBw hM.high, h2⟩

set_option maxHeartbeats 16000000 in
set_option maxRecDepth 20000 in
theorem sums4 (W : World) (ao : Option Addr) (cap : Nat) (rs : List Int) (hl : rs.length ≤ cap) (hcap : cap ≤ maxLen) (hcell : ∀ i (hi : i < rs.length), ∃ a, ao = some a ∧ W.cell? (a.add i) = some (.int .i64 rs[i])) (hz : ∀ i (hi : i < rs.length), -9223372036854775808 ≤ rs[i] ∧ rs[i] ≤ 9223372036854775807) (x fuel : Int) (hx0 : -9223372036854775808 ≤ x) (hx1 : x ≤ 9223372036854775807) (hf0 : -9223372036854775808 ≤ fuel) (hf1 : fuel ≤ 9223372036854775807) (htab : TabOk W) :
    Calls Tryz.prog 4 #[.slice ao rs.length cap, .int .i64 x, .int .i64 fuel] W fun e w' => e = .returned (.bool true) ∧ Below W.heap.size W w' := by
  have hlt := htab.lt
  have hm : rs.length ≤ 9223372036854775807 := by unfold maxLen at hcap; omega
  have HF : Hid (Calls Tryz.prog 10 #[] W fun e w' => ∃ ob g, e = .returned (.pointer (some ⟨ob, 0, none⟩)) ∧ Mach (Old W.heap.size) W.heap.size ob G0 w' g ∧ Below W.heap.size W w') := fresh10 (Old W.heap.size) W (fun _ h => h.1) (fun h => h.2 rfl) htab
  have HT : Hid (∀ w', Below W.heap.size W w' → TabOk w') := fun w' hb => htab.on (hb.block _ hlt)
  have HP : Hid (∀ w, Calls Tryz.prog 14 #[.int .i64 x, .int .i64 100] w fun e w' => e = .returned (.int .i64 (Rd.pickN x 100 : Nat)) ∧ w' = w) := fun w => pick14 x 100 hx0 hx1 (by omega) (by omega) w
  have HP2 : Hid (∀ w, Calls Tryz.prog 14 #[.int .i64 fuel, .int .i64 100] w fun e w' => e = .returned (.int .i64 (Rd.pickN fuel 100 : Nat)) ∧ w' = w) := fun w => pick14 fuel 100 hf0 hf1 (by omega) (by omega) w
  have hr := Rd.pickN_lt x 100 (by omega)
  have hf := Rd.pickN_lt fuel 100 (by omega)
  generalize Rd.pickN x 100 = r at *
  generalize Rd.pickN fuel 100 = f at *
  have n0 : -9223372036854775808 ≤ (r : Int) - 50 := by omega
  have n1 : (r : Int) - 50 ≤ 9223372036854775807 := by omega
  have m0 : -50 ≤ (r : Int) - 50 := by omega
  have m1 : (r : Int) - 50 ≤ 50 := by omega
  generalize hn : (r : Int) - 50 = n at *
  obtain ⟨T, v, F, k, hT1, hT2, hk, v0, v1, hT3⟩ := sums_form rs n m0 m1
  have hlim := mkSum_lim (L := 100) (x := n) (by omega) (by omega) (by omega) (by omega) 2 rs (by omega)
  have HS : Hid (∀ w1, Below W.heap.size W w1 → Calls Tryz.prog 15 #[.pointer (some ⟨w1.heap.size, 0, none⟩), .int .i64 2, .int .i64 n] (w1.alloc (.cells #[.slice ao rs.length cap, .int .i64 0] 27)) fun e w' => e = .returned (.tuple #[.string ⟨(Rd.mkSum n 2 rs).1.toArray⟩, .int .i64 (Rd.mkSum n 2 rs).2.1]) ∧ Kept (· = w1.heap.size) (w1.alloc (.cells #[.slice ao rs.length cap, .int .i64 0] 27)) w') := fun w1 hb => by
    have hs := hb.size
    have := sum15 rs ao cap w1.heap.size n 100 (by omega) (by omega) (by omega) (by omega) (by omega) 2 (by omega) 0 _ (mk_new hcell hz hm hb 27) ((HT.out _ hb).on (Below.heap_alloc _ _ _ (by omega)))
    exact this.mono fun e w' ⟨he, i', _, _, h3⟩ => ⟨he, h3⟩
  have HI : Hid (∀ w', Below W.heap.size W w' → Calls Tryz.prog 16 #[.int .i64 n] w' fun e w'' => e = .returned (.string ⟨(Lib.itoa n).toArray⟩) ∧ Below w'.heap.size w' w'') := fun w' hb => itoa16 n n0 n1 w' (HT.out _ hb)
  have HIV : Hid (∀ w', Below W.heap.size W w' → Calls Tryz.prog 16 #[.int .i64 v] w' fun e w'' => e = .returned (.string ⟨(Lib.itoa v).toArray⟩) ∧ Below w'.heap.size w' w'') := fun w' hb => itoa16 v (by omega) (by omega) w' (HT.out _ hb)
  have HR1 : Hid (∀ N ob g w, tabBlock < W.heap.size → Mach N W.heap.size ob G0 w g → Below W.heap.size W w → Calls Tryz.prog 13 #[.pointer (some ⟨ob, 0, none⟩), .string (⟨#[40, 100, 101, 102, 105, 110, 101, 32, 120, 32]⟩ ++ ⟨(Lib.itoa n).toArray⟩ ++ ⟨#[41]⟩)] w fun e w' => ∃ g' sa sn sc, e = .returned (.tuple #[.agg #[.int .i64 1, .string ⟨#[120]⟩, .int .i64 0, .int .i64 2, .slice sa sn sc], .bool true]) ∧ Mach N W.heap.size ob (Rd.GX n) w' g' ∧ Below W.heap.size w w' ∧ Kept g.mut w w') := fun N ob g w hN hM hb => by
    rw [← defT_bytes]
    exact run_val callN hM hb.size hN (HT.out _ hb) (forms_def (by omega) (by omega)) (ends_def' n shN) shows_x
  have HR2 : Hid (∀ N ob g w, tabBlock < W.heap.size → Mach N W.heap.size ob (Rd.GX n) w g → Below W.heap.size W w → Calls Tryz.prog 13 #[.pointer (some ⟨ob, 0, none⟩), .string ⟨T.toArray⟩] w fun e w' => ∃ g' sa sn sc, e = .returned (.tuple #[.agg #[.int .i64 1, .string ⟨(Lib.itoa v).toArray⟩, .int .i64 0, .int .i64 k, .slice sa sn sc], .bool true]) ∧ Mach N W.heap.size ob (Rd.GX n) w' g' ∧ Below W.heap.size w w' ∧ Kept g.mut w w') := fun N ob g w hN hM hb => run_val callN hM hb.size hN (HT.out _ hb) hT1 (Ev.ends (hT2 [] []) (by omega)) (shows_num (by omega) (by omega))
  have HE : Hid (∀ N ob g w, tabBlock < W.heap.size → Mach N W.heap.size ob (Rd.GX n) w g → Below W.heap.size W w → Calls Tryz.prog 17 #[.pointer (some ⟨ob, 0, none⟩), .string ⟨T.toArray⟩, .int .i64 f] w (LessR W.heap.size g (if f < k then 3 else 1) (if f < k then ⟨#[]⟩ else ⟨(Lib.itoa v).toArray⟩) (if f < k then f else k) w)) := fun N ob g w hN hM hb => eval_less hM hb.size hN (HT.out _ hb) hT1 hT2 (by omega) (by omega) (by omega)
  have hsz := sz (Rd.mkSum n 2 rs).1
  have hnl := (Rd.numW_itoa (n := n) (by omega) (by omega)).short
  have hsn := sz (Lib.itoa n)
  have HTL : Hid (tabBlock < W.heap.size) := hlt
  generalize (⟨(Lib.itoa n).toArray⟩ : ByteArray) = SN at *
  generalize (⟨(Lib.itoa v).toArray⟩ : ByteArray) = SV at *
  have s1 : ¬ 9223372036854775807 < 10 + SN.size := by omega
  have s2 : ¬ 9223372036854775807 < 10 + SN.size + 1 := by omega
  have u1 : ¬ (100 : Int) < 50 := by omega
  clear hcell hz htab hT1 hT2 hlt hnl hsn u1
  obtain ⟨_, rfl, rfl⟩ | ⟨h400, _⟩ := hT3
  rotate_left
  · omega
  generalize (Rd.mkSum n 2 rs).2.1 = v at *
  have hl4 : ¬ (400 : Int) < ((Rd.mkSum n 2 rs).1.length : Int) := by omega
  rw [← hsz] at hl4
  generalize (⟨(Rd.mkSum n 2 rs).1.toArray⟩ : ByteArray) = S at *
  clear hlim hsz
  go_enter Tryz.func4, Tryz.ntmps4
  go_upto_region 5 with (first | (go_at_call 10; refine HF.out.mono ?_; rintro e1 w1 ⟨ob, g1, rfl, hM1, hb1⟩; have HM1 := (show Hid _ from hM1); have HB1 : Hid (Below W.heap.size W w1) := hb1; clear hM1 hb1))
  have HM2 : Hid (Mach (fun k => Old W.heap.size k ∨ k = w1.heap.size) W.heap.size ob G0 (w1.alloc (.cells #[.slice ao rs.length cap, .int .i64 0] 27)) g1) := HM1.out.aside _
  have HB2 : Hid (Below W.heap.size W (w1.alloc (.cells #[.slice ao rs.length cap, .int .i64 0] 27))) := HB1.out.alloc HB1.out.size _
  have HOB : Hid (ob ≠ w1.heap.size) := Nat.ne_of_lt HM1.out.lt
  have HL1 : Hid (W.heap.size ≤ w1.heap.size) := HB1.out.size
  have HN1 : Hid ((fun k => Old W.heap.size k ∨ k = w1.heap.size) w1.heap.size) := Or.inr rfl
  have HNT : Hid (tabBlock < W.heap.size) := HTL.out
  generalize (fun k => Old W.heap.size k ∨ k = w1.heap.size) = N1 at *
  go_upto_region 10 with (first | (go_at_call 14; refine (HP.out _).mono ?_; rintro e2 w2 ⟨rfl, rfl⟩) | (go_at_call 15; refine (HS.out _ HB1.out).mono ?_; rintro e3 w3 ⟨rfl, hk3⟩; have HK3 := (show Hid _ from hk3); clear hk3))
  have HM3 : Hid (Mach N1 W.heap.size ob G0 w3 g1) := HM2.out.other HK3.out (fun k e => e ▸ HN1.out) HOB.out
  have HB3 : Hid (Below W.heap.size W w3) := HB2.out.trans (HK3.out.below HB2.out.size (fun k e => e ▸ HL1.out))
  go_upto_region 13 with (first | (go_at_call 16; refine (HI.out _ HB3.out).mono ?_; rintro e4 w4 ⟨rfl, hb4⟩; have HM4 : Hid (Mach N1 W.heap.size ob G0 w4 g1) := HM3.out.below hb4; have HB4 : Hid (Below W.heap.size W w4) := HB3.out.trans (hb4.mono HB3.out.size); clear hb4) | (go_at_call 13; refine (HR1.out _ _ _ _ HNT.out HM4.out HB4.out).mono ?_; rintro e5 w5 ⟨g5, sa5, sn5, sc5, rfl, hM5, hb5, hk5⟩; have HM5 : Hid (Mach N1 W.heap.size ob (Rd.GX n) (w5.alloc (.cells #[.int .i64 1, .string ⟨#[120]⟩, .int .i64 0, .int .i64 2, .slice sa5 sn5 sc5] 34)) g5) := hM5.alloc _; have HB5 : Hid (Below W.heap.size W (w5.alloc (.cells #[.int .i64 1, .string ⟨#[120]⟩, .int .i64 0, .int .i64 2, .slice sa5 sn5 sc5] 34))) := (HB4.out.trans hb5).alloc (HB4.out.trans hb5).size _; clear hM5 hb5 hk5))
  go_upto_region 14 with (first | (go_at_call 13; refine (HR2.out _ _ _ _ HNT.out HM5.out HB5.out).mono ?_; rintro e6 w6 ⟨g6, sa6, sn6, sc6, rfl, hM6, hb6, hk6⟩; have HM6 : Hid (Mach N1 W.heap.size ob (Rd.GX n) (w6.alloc (.cells #[.int .i64 1, .string SV, .int .i64 0, .int .i64 k, .slice sa6 sn6 sc6] 34)) g6) := hM6.alloc _; have HB6 : Hid (Below W.heap.size W (w6.alloc (.cells #[.int .i64 1, .string SV, .int .i64 0, .int .i64 k, .slice sa6 sn6 sc6] 34))) := (HB5.out.trans hb6).alloc (HB5.out.trans hb6).size _; have HM7 : Hid (¬ g6.mut w6.heap.size) := hM6.new (Nat.le_refl _); clear hM6 hb6 hk6))
  have hat6 := at_new w6 (.cells #[.int .i64 1, .string SV, .int .i64 0, .int .i64 k, .slice sa6 sn6 sc6] 34)
  have hl7 : w6.heap.size < (w6.alloc (.cells #[.int .i64 1, .string SV, .int .i64 0, .int .i64 k, .slice sa6 sn6 sc6] 34)).heap.size := by simp
  have hnm : ¬ g6.mut w6.heap.size := HM7.out
  generalize w6.alloc (.cells #[.int .i64 1, .string SV, .int .i64 0, .int .i64 k, .slice sa6 sn6 sc6] 34) = w7 at *
  have q0 : w7.cell? ⟨w6.heap.size, 0, none⟩ = some (.int .i64 1) := cell_of_at hat6 0
  have q1 : w7.cell? ⟨w6.heap.size, 1, none⟩ = some (.string SV) := cell_of_at hat6 1
  have q3 : w7.cell? ⟨w6.heap.size, 3, none⟩ = some (.int .i64 k) := cell_of_at hat6 3
  have HAT := (show Hid _ from hat6)
  clear hat6
  go_region_held3 (fun X => X.cell? ⟨w6.heap.size, 0, none⟩ = some (.int .i64 1) ∧ X.cell? ⟨w6.heap.size, 1, none⟩ = some (.string SV)) (go_keep) (first | (go_at_call 16; refine (HIV.out _ HB6.out.drew).mono ?_; rintro e8 w8 ⟨rfl, hb8⟩; have z0 := (Kept.of_below hb8 (fun _ => False)).cell id q0; have z1 := (Kept.of_below hb8 (fun _ => False)).cell id q1))
  have hb78 : Below w7.heap.size w7 w8 := ((Below.refl _ w7).drew).trans hb8
  have HM8 : Hid (Mach N1 W.heap.size ob (Rd.GX n) w8 g6) := HM6.out.below hb78
  have HB8 : Hid (Below W.heap.size W w8) := HB6.out.trans (hb78.mono HB6.out.size)
  have hat8 := Below.at hb78 HAT.out
  have HAT8 := (show Hid _ from hat8)
  clear hb8 hb78 hat8 q0 q1 q3 z0 z1
  by_cases hfk : f < k
  · have hfk' : (f : Int) < (k : Int) := by omega
    have HE1 : Hid (Calls Tryz.prog 17 #[.pointer (some ⟨ob, 0, none⟩), .string S, .int .i64 f] w8 fun e w' => ∃ (y : Int) (sa : Option Addr) (sn sc : Nat), e = .returned (.tuple #[.agg #[.int .i64 3, .string ⟨#[]⟩, .int .i64 y, .int .i64 f, .slice sa sn sc], .int .i64 0, .int .i64 0]) ∧ Below W.heap.size w8 w' ∧ Kept g6.mut w8 w') := by
      have := HE.out _ _ _ _ HNT.out HM8.out HB8.out
      rw [if_pos hfk, if_pos hfk, if_pos hfk] at this
      exact this
    clear HE hfk
    go_wp2_with (first | (go_at_call 14; refine (HP2.out _).mono ?_; rintro e9 w9 ⟨rfl, rfl⟩) | (go_at_call 17; refine HE1.out.mono ?_; rintro e10 w10 ⟨y, sa10, sn10, sc10, rfl, hb10, hk10⟩; have hat10 := hk10.at hnm HAT8.out; have hl10 := lt_of_at hat10; have hne10 : w10.heap.size ≠ w6.heap.size := (by omega); have y0 : w10.cell? ⟨w6.heap.size, 0, none⟩ = some (.int .i64 1) := cell_of_at hat10 0; have y1 : w10.cell? ⟨w6.heap.size, 1, none⟩ = some (.string SV) := cell_of_at hat10 1; have y3 : w10.cell? ⟨w6.heap.size, 3, none⟩ = some (.int .i64 k) := cell_of_at hat10 3; have HB10 : Hid (Below W.heap.size W w10) := HB8.out.trans hb10; clear hb10 hk10 hat10))
    go_ret
    exact ⟨rfl, HB10.out.alloc HB10.out.size _⟩
  · have hfk' : ¬ (f : Int) < (k : Int) := by omega
    have HE1 : Hid (Calls Tryz.prog 17 #[.pointer (some ⟨ob, 0, none⟩), .string S, .int .i64 f] w8 fun e w' => ∃ (y : Int) (sa : Option Addr) (sn sc : Nat), e = .returned (.tuple #[.agg #[.int .i64 1, .string SV, .int .i64 y, .int .i64 k, .slice sa sn sc], .int .i64 0, .int .i64 0]) ∧ Below W.heap.size w8 w' ∧ Kept g6.mut w8 w') := by
      have := HE.out _ _ _ _ HNT.out HM8.out HB8.out
      rw [if_neg hfk, if_neg hfk, if_neg hfk] at this
      exact this
    clear HE hfk
    go_wp2_with (first | (go_at_call 14; refine (HP2.out _).mono ?_; rintro e9 w9 ⟨rfl, rfl⟩) | (go_at_call 17; refine HE1.out.mono ?_; rintro e10 w10 ⟨y, sa10, sn10, sc10, rfl, hb10, hk10⟩; have hat10 := hk10.at hnm HAT8.out; have hl10 := lt_of_at hat10; have hne10 : w10.heap.size ≠ w6.heap.size := (by omega); have y0 : w10.cell? ⟨w6.heap.size, 0, none⟩ = some (.int .i64 1) := cell_of_at hat10 0; have y1 : w10.cell? ⟨w6.heap.size, 1, none⟩ = some (.string SV) := cell_of_at hat10 1; have y3 : w10.cell? ⟨w6.heap.size, 3, none⟩ = some (.int .i64 k) := cell_of_at hat10 3; have HB10 : Hid (Below W.heap.size W w10) := HB8.out.trans hb10; clear hb10 hk10 hat10))
    go_ret
    exact ⟨rfl, HB10.out.alloc HB10.out.size _⟩
end Go.Proofs.YtodeeegbajgafaaGreatDoor

namespace Go.Proofs.YtodeeegbajgafaaGreatDoor
open Go.RowKit
open Mc
open Rd (Lay layOf mkLays laysOf)

def layCells (l : Lay) : List Value := [.string ⟨l.left.toArray⟩, .string ⟨l.right.toArray⟩, .int .i64 l.times, .int .i64 l.more]
def laysCells (ls : List Lay) : List Value := ls.flatMap layCells
def layB (c : Nat) (n : Nat) (I : ByteArray) : List Value := match c with
  | 0 => [.string ⟨#[40, 45, 32]⟩, .string (⟨#[32]⟩ ++ I ++ ⟨#[41]⟩), .int .i64 1, .int .i64 (-(n : Int))]
  | 1 => [.string (⟨#[40, 45, 32]⟩ ++ I ++ ⟨#[32]⟩), .string ⟨#[41]⟩, .int .i64 (-1), .int .i64 n]
  | 2 => [.string ⟨#[40, 108, 101, 116, 32, 40, 40, 118, 32]⟩, .string (⟨#[41, 41, 32, 40, 43, 32, 118, 32]⟩ ++ I ++ ⟨#[41, 41]⟩), .int .i64 1, .int .i64 n]
  | 3 => [.string ⟨#[40, 42, 32, 51, 32]⟩, .string ⟨#[41]⟩, .int .i64 3, .int .i64 0]
  | 4 => [.string ⟨#[40, 98, 101, 103, 105, 110, 32, 40, 111, 114, 32, 35, 102, 32, 40, 45, 32]⟩, .string (⟨#[32]⟩ ++ I ++ ⟨#[41, 41, 41]⟩), .int .i64 1, .int .i64 (-(n : Int))]
  | 5 => [.string ⟨#[40, 40, 108, 97, 109, 98, 100, 97, 32, 40, 121, 41, 32, 40, 43, 32, 121, 32, 121, 41, 41, 32]⟩, .string ⟨#[41]⟩, .int .i64 2, .int .i64 0]
  | _ => [.string (⟨#[40, 43, 32]⟩ ++ I ++ ⟨#[32]⟩), .string ⟨#[41]⟩, .int .i64 1, .int .i64 n]
theorem bytes3 (a b c : List UInt8) : (⟨(a ++ b ++ c).toArray⟩ : ByteArray) = ⟨a.toArray⟩ ++ ⟨b.toArray⟩ ++ ⟨c.toArray⟩ := by
  rw [cat, cat]
theorem layB_eq (c n : Nat) : layCells (layOf c n) = layB c n ⟨(Lib.itoa n).toArray⟩ := by
  unfold layCells layOf layB Rd.lamYT
  split <;> simp only [bytes3] <;> rfl
theorem cell_four_new (w : World) (a b c d : Value) (T : TypeId) : ∀ j u, [a, b, c, d][j]? = some u → (w.alloc (.cells #[a, b, c, d] T)).cell? ((⟨w.heap.size, 0, none⟩ : Addr).add j) = some u := by
  intro j u hj
  have hat := at_new w (.cells #[a, b, c, d] T)
  match j, hj with
  | 0, hj => rw [show ((⟨w.heap.size, 0, none⟩ : Addr).add 0) = ⟨w.heap.size, 0, none⟩ from rfl, cell_of_at hat 0]; simpa using hj
  | 1, hj => rw [show ((⟨w.heap.size, 0, none⟩ : Addr).add 1) = ⟨w.heap.size, 1, none⟩ from rfl, cell_of_at hat 1]; simpa using hj
  | 2, hj => rw [show ((⟨w.heap.size, 0, none⟩ : Addr).add 2) = ⟨w.heap.size, 2, none⟩ from rfl, cell_of_at hat 2]; simpa using hj
  | 3, hj => rw [show ((⟨w.heap.size, 0, none⟩ : Addr).add 3) = ⟨w.heap.size, 3, none⟩ from rfl, cell_of_at hat 3]; simpa using hj
  | j + 4, hj => simp at hj
theorem MkAt.kept2 {rs : List Int} {ao : Option Addr} {cap mk i : Nat} {w w' : World} (h : MkAt rs ao cap mk i w) {M : Nat → Prop} (hk : Kept M w w') (hm : ¬ M mk) (ha : ∀ a, 0 < rs.length → ao = some a → ¬ M a.block) : MkAt rs ao cap mk i w' := by
  obtain ⟨T, hb⟩ := h.blk
  refine ⟨⟨T, hk.at hm hb⟩, h.le, fun j hj => ?_, h.range, h.small⟩
  obtain ⟨a, e1, e2, e3⟩ := h.cells j hj
  refine ⟨a, e1, e2, hk.cellA ?_ e3⟩
  rw [add_block]
  exact ha a (by omega) e1
theorem Tryz.info73 : (Tryz.prog.info? 73).map (fun i => (i.zero, i.size, i.bytes)) = some (some (.agg #[.string ⟨#[]⟩, .string ⟨#[]⟩, .int .i64 0, .int .i64 0]), 4, 48) := by kernel_rfl
theorem own_kept {M : Nat → Prop} {B e z n : Nat} {v : Value} {xs : List Value} {w w' : World} (h : w.ownsRow B e z v n xs) (hk : Kept M w w') (hM : ∀ k, B ≤ k → ¬ M k) : w'.ownsRow B e z v n xs := by
  obtain ⟨a, b | ⟨gb, cap, cur, hv, hB, hh, r⟩⟩ := h
  · exact ⟨a, Or.inl b⟩
  · exact ⟨a, Or.inr ⟨gb, cap, cur, hv, hB, hk.at (hM gb hB) hh, r⟩⟩
/-- Where the loop stands. -/
structure LayG (rs : List Int) (ao : Option Addr) (cap : Nat) (w0 : World) (gk : Nat) (v4 v5 : Value) (wr : World) (i : Nat) (done : List Lay) : Prop where
  cnt : v5 = .int .i64 (gk : Nat)
  mkr : MkAt rs ao cap w0.heap.size i wr
  sum : done ++ mkLays gk (rs.drop i) = laysOf rs
  own : wr.ownsRow (w0.heap.size + 1) 73 4 v4 done.length (laysCells done)
  below : Below w0.heap.size w0 wr
  few : done.length + gk ≤ 3
def LaysR (rs : List Int) (w : World) : Ending → World → Prop := fun e w' => ∃ v, e = .returned v ∧ w'.ownsRow w.heap.size 73 4 v (laysOf rs).length (laysCells (laysOf rs)) ∧ Below w.heap.size w w'
theorem own_mono {B B' e z n : Nat} {v : Value} {xs : List Value} {w : World} (h : w.ownsRow B e z v n xs) (hb : B' ≤ B) : w.ownsRow B' e z v n xs := by
  obtain ⟨a, b | ⟨gb, cap, cur, hv, hB, r⟩⟩ := h
  · exact ⟨a, Or.inl b⟩
  · exact ⟨a, Or.inr ⟨gb, cap, cur, hv, Nat.le_trans hb hB, r⟩⟩

set_option maxHeartbeats 16000000 in
set_option maxRecDepth 20000 in
theorem layers19 (rs : List Int) (ao : Option Addr) (cap : Nat) (W : World) (hl : rs.length ≤ cap) (hcap : cap ≤ maxLen) (w0 : World) (hb0 : Below W.heap.size W w0) (hcell : ∀ i (hi : i < rs.length), ∃ a, ao = some a ∧ W.cell? (a.add i) = some (.int .i64 rs[i])) (hz : ∀ i (hi : i < rs.length), -9223372036854775808 ≤ rs[i] ∧ rs[i] ≤ 9223372036854775807) (htab : TabOk W) :
    Calls Tryz.prog 19 #[.slice ao rs.length cap] w0 (LaysR rs w0) := by
  obtain ⟨i0, hi, hz0, hz1, hz2⟩ := info_parts Tryz.info73
  have hm : rs.length ≤ 9223372036854775807 := by unfold maxLen at hcap; omega
  have hlt := htab.lt
  have hs0 := hb0.size
  have hmk0 := mk_new (cap := cap) hcell hz hm hb0 27
  have HAB : Hid (∀ a, 0 < rs.length → ao = some a → a.block < w0.heap.size) := fun a h0 e => by
    obtain ⟨a', e', hc⟩ := hcell 0 h0
    cases e'.symm.trans e
    have := World.block_lt_of_cell? W _ hc
    rw [add_block] at this
    omega
  have HT : Hid (∀ w', Below w0.heap.size w0 w' → TabOk w') := fun w' hb => htab.on ((hb0.trans (hb.mono hs0)).block _ hlt)
  have HN : Hid (∀ (m i : Nat) (w : World), 0 < m → m ≤ 100 → MkAt rs ao cap w0.heap.size i w → Calls Tryz.prog 18 #[.pointer (some ⟨w0.heap.size, 0, none⟩), .int .i64 m] w (NextR rs ao cap w0.heap.size i m w)) := fun m i w h0 h1 h => next18 rs ao cap w0.heap.size i m h0 (Nat.le_trans h1 (by decide)) w h
  have hB1 : Below w0.heap.size w0 (w0.alloc (.cells #[.slice ao rs.length cap, .int .i64 0] 27)) := (Below.refl _ w0).alloc (Nat.le_refl _) _
  have HN4 := next18 rs ao cap w0.heap.size 0 4 (by omega) (by omega) _ hmk0
  have h4 := Rd.nextN_lt 4 rs (by omega)
  unfold NextR at HN4
  rw [List.drop_zero] at HN4
  have hlays : laysOf rs = mkLays (Rd.nextN 4 rs).1 (Rd.nextN 4 rs).2 := rfl
  obtain ⟨kk, r0, hkk⟩ : ∃ kk r0, Rd.nextN 4 rs = (kk, r0) := ⟨_, _, rfl⟩
  simp only [hkk] at HN4 h4 hlays
  have HN4' : Hid (Calls Tryz.prog 18 #[.pointer (some ⟨w0.heap.size, 0, none⟩), .int .i64 4] (w0.alloc (.cells #[.slice ao rs.length cap, .int .i64 0] 27)) fun e w' => e = .returned (.int .i64 (kk : Nat)) ∧ ∃ i', MkAt rs ao cap w0.heap.size i' w' ∧ rs.drop i' = r0 ∧ Below w0.heap.size w0 w') := HN4.mono fun e w' ⟨he, i', h1, h2, h3⟩ => ⟨he, i', h1, h2, hB1.trans (h3.below hB1.size (fun k e => by omega))⟩
  have HLY := (show Hid _ from hlays)
  clear HN4 hlays hcell hz hmk0 hB1 htab hb0
  go_enter Tryz.func19, Tryz.ntmps19
  go_upto_region 4 with (first | (go_at_call 18; refine HN4'.out.mono ?_; rintro e1 w1 ⟨rfl, i1, hM1, hd1, hb1⟩; have HM1 := (show Hid _ from hM1); have HD1 := (show Hid _ from hd1); have HB1 := (show Hid _ from hb1); clear hM1 hd1 hb1))
  go_loopg [4, 5] kk (fun gk v4 v5 wr => ∃ i done, LayG rs ao cap w0 gk v4 v5 wr i done)
  case atStart => exact ⟨i1, [], rfl, HM1.out, by rw [HD1.out, HLY.out]; rfl, ⟨rfl, Or.inl ⟨rfl, rfl⟩⟩, HB1.out, by simp; omega⟩
  case round =>
    obtain ⟨i, done, hG⟩ := hrel
    obtain rfl := hG.cnt
    obtain ⟨la, ln, lc, rfl⟩ := owns_slice hG.own
    cases gk with
    | zero =>
      have hF : LaysR rs w0 (.returned (.slice la ln lc)) wr := by
        have hs := hG.sum
        simp only [mkLays, List.append_nil] at hs
        have ho := own_mono (B' := w0.heap.size) hG.own (by omega)
        rw [hs] at ho
        exact ⟨_, rfl, ho, hG.below⟩
      have HF := (show Hid _ from hF)
      clear hF hG
      go_wp2
      go_ret
      exact HF.out
    | succ k =>
      have hsum := hG.sum
      rw [mkLays] at hsum
      have HN9 := HN.out 9 i wr (by omega) (by omega) hG.mkr
      unfold NextR at HN9
      have h9 := Rd.nextN_lt 9 (rs.drop i) (by omega)
      obtain ⟨n, r1, hnr⟩ : ∃ n r1, Rd.nextN 9 (rs.drop i) = (n, r1) := ⟨_, _, rfl⟩
      simp only [hnr] at HN9 h9 hsum
      have h7 := Rd.nextN_lt 7 r1 (by omega)
      obtain ⟨c, r2, hnx7⟩ : ∃ c r2, Rd.nextN 7 r1 = (c, r2) := ⟨_, _, rfl⟩
      simp only [hnx7] at h7 hsum
      have HN7 : Hid (∀ j w, MkAt rs ao cap w0.heap.size j w → rs.drop j = r1 → Calls Tryz.prog 18 #[.pointer (some ⟨w0.heap.size, 0, none⟩), .int .i64 7] w fun e w' => e = .returned (.int .i64 (c : Nat)) ∧ ∃ i', MkAt rs ao cap w0.heap.size i' w' ∧ rs.drop i' = r2 ∧ Kept (· = w0.heap.size) w w') := fun j w hj e => by
        have := HN.out 7 j w (by omega) (by omega) hj
        unfold NextR at this
        rw [e, hnx7] at this
        exact this
      have HI : Hid (∀ w', Below w0.heap.size w0 w' → Calls Tryz.prog 16 #[.int .i64 (n : Nat)] w' fun e w'' => e = .returned (.string ⟨(Lib.itoa (n : Nat)).toArray⟩) ∧ Below w'.heap.size w' w'') := fun w' hb => itoa16 _ (by omega) (by omega) w' (HT.out _ hb)
      have hIl := (Rd.numW_itoa (n := (n : Int)) (by omega) (by omega)).short
      have hIs := sz (Lib.itoa (n : Int))
      have hown := hG.own
      have hbel := hG.below
      have hfew := hG.few
      have hln : ln = done.length := by
        obtain ⟨_, ⟨e, h0⟩ | ⟨gb, cp, cur, e, _⟩⟩ := hown
        · cases e; exact h0.symm
        · cases e; rfl
      subst hln
      have hR : ∀ w' v' j, w'.ownsRow (w0.heap.size + 1) 73 4 v' (done.length + 1) (laysCells done ++ layB c n ⟨(Lib.itoa (n : Nat)).toArray⟩) → MkAt rs ao cap w0.heap.size j w' → rs.drop j = r2 → Below w0.heap.size w0 w' → ∃ i done, LayG rs ao cap w0 k v' (.int .i64 (k : Nat)) w' i done := fun w' v' j ho hj hd hb => by
        refine ⟨j, done ++ [layOf c n], rfl, hj, by rw [hd, ← hsum]; simp, ?_, hb, by simp; omega⟩
        rw [← layB_eq] at ho
        simpa [laysCells] using ho
      have HR := (show Hid _ from hR)
      have HOW : Hid (wr.ownsRow (w0.heap.size + 1) 73 4 (.slice la done.length lc) done.length (laysCells done)) := hown
      have HBE : Hid (Below w0.heap.size w0 wr) := hbel
      have h1k : ((k + 1 : Nat) : Int) - 1 = (k : Nat) := by omega
      have hk0 : (0 : Int) < ((k + 1 : Nat) : Int) := by omega
      have hk1 : -9223372036854775808 ≤ ((k : Nat) : Int) := by omega
      have hk2 : ((k : Nat) : Int) ≤ 9223372036854775807 := by omega
      have HG1 : Hid (∀ w w', w.ownsRow (w0.heap.size + 1) 73 4 (.slice la done.length lc) done.length (laysCells done) → w0.heap.size + 1 ≤ w.heap.size → w.grownBy w' (Value.slice la done.length lc).ownBlock → Below (w0.heap.size + 1) w w') := fun w w' ho hs hg => own_grown ho hs hg
      clear hG hR hsum hown hbel hnx7
      generalize (⟨(Lib.itoa (n : Nat)).toArray⟩ : ByteArray) = I at *
      generalize ((k + 1 : Nat) : Int) = K1 at *
      have hn1 : -9223372036854775808 ≤ -(n : Int) := by omega
      have hn2 : -(n : Int) ≤ 9223372036854775807 := by omega
      go_upto_region 7 with (first | (go_at_call 18; refine HN9.mono ?_; rintro e2 w2 ⟨rfl, i2, hM2, hd2, hk2⟩; have HM2 := (show Hid _ from hM2); have HD2 := (show Hid _ from hd2); have HK2 := (show Hid _ from hk2); clear hM2 hd2 hk2))
      have hk12 : Kept (fun x => x = w0.heap.size) wr w2 := HK2.out
      have HO2 : Hid (w2.ownsRow (w0.heap.size + 1) 73 4 (.slice la done.length lc) done.length (laysCells done)) := own_kept HOW.out hk12 (fun k h e => by omega)
      have HB2 : Hid (Below w0.heap.size w0 w2) := HBE.out.trans (hk12.below HBE.out.size (fun k e => by omega))
      clear hk12 HK2
      go_upto_region 10 with (first | (go_at_call 16; refine (HI.out _ HB2.out).mono ?_; rintro e3 w3 ⟨rfl, hb3⟩; have HO3 : Hid (w3.ownsRow (w0.heap.size + 1) 73 4 (.slice la done.length lc) done.length (laysCells done)) := own_kept HO2.out (Kept.of_below hb3 (fun _ => False)) (fun _ _ => id); have HB3 : Hid (Below w0.heap.size w0 w3) := HB2.out.trans (hb3.mono HB2.out.size); have HM3 : Hid (MkAt rs ao cap w0.heap.size i2 w3) := HM2.out.kept2 (M := fun _ => False) (Kept.of_below hb3 _) id (fun _ _ _ => id); clear hb3) | (go_at_call 18; refine (HN7.out _ _ HM3.out HD2.out).mono ?_; rintro e4 w4 ⟨rfl, i4, hM4, hd4, hk4⟩; have HM4 : Hid (MkAt rs ao cap w0.heap.size i4 w4) := hM4; have HD4 : Hid (rs.drop i4 = r2) := hd4; have HO4 : Hid (w4.ownsRow (w0.heap.size + 1) 73 4 (.slice la done.length lc) done.length (laysCells done)) := own_kept HO3.out hk4 (fun k h e => by omega); have HB4 : Hid (Below w0.heap.size w0 w4) := HB3.out.trans (hk4.below HB3.out.size (fun k e => by omega)); clear hM4 hd4 hk4))
      have HS4 : Hid (w0.heap.size < w4.heap.size) := (by obtain ⟨T, hb⟩ := HM4.out.blk; exact lt_of_at hb)
      have HFIN : Hid (∀ cells w9 v9, w9.ownsRow (w0.heap.size + 1) 73 4 v9 (done.length + 1) (laysCells done ++ layB c n I) → (w4.alloc (.cells cells 73)).grownBy w9 (Value.slice la done.length lc).ownBlock → ∃ i done, LayG rs ao cap w0 k v9 (.int .i64 (k : Nat)) w9 i done) := fun cells w9 v9 ho hg => by
        have hs := HS4.out
        have hb9 := HG1.out _ _ (HO4.out.alloc (.cells cells 73)) (by simp; omega) hg
        have hk9 : Kept (fun k => w0.heap.size < k) w4 w9 := ⟨hb9.os, hb9.tape, hb9.output, by have := hb9.size; simp at this; omega, fun k hk hm => (hb9.block k (by omega)).trans (Below.heap_alloc _ _ _ hk)⟩
        exact HR.out w9 v9 i4 ho (HM4.out.kept2 hk9 (Nat.lt_irrefl _) (fun a h0 e => by have := HAB.out a h0 e; omega)) HD4.out (HB4.out.trans ⟨hk9.os, hk9.tape, hk9.output, hk9.size, fun j hj => hk9.block j (by omega) (by omega)⟩)
      have HO4A : Hid (∀ cells, (w4.alloc (.cells cells 73)).ownsRow (w0.heap.size + 1) 73 4 (.slice la done.length lc) done.length (laysCells done)) := fun cells => HO4.out.alloc _
      have hs4 := HS4.out
      have hcc : c = 0 ∨ c = 1 ∨ c = 2 ∨ c = 3 ∨ c = 4 ∨ c = 5 ∨ c = 6 := by omega
      rcases hcc with rfl | rfl | rfl | rfl | rfl | rfl | rfl
      · skip
        have s1 : ¬ 9223372036854775807 < 1 + I.size := by omega
        have s2 : ¬ 9223372036854775807 < 1 + I.size + 1 := by omega
        go_wp2_with (at_builtin; refine wpList_append_own_at _ rfl _ _ 47 rfl (w0.heap.size + 1) 73 i0 (.agg #[.string ⟨#[]⟩, .string ⟨#[]⟩, .int .i64 0, .int .i64 0]) 4 48 Tryz.underlying47 hi hz0 hz1 hz2 rfl (by decide) (.slice la done.length lc) done.length (laysCells done) rfl ?h1 ⟨w4.heap.size, 0, none⟩ 1 1 [.string ⟨#[40, 45, 32]⟩, .string (⟨#[32]⟩ ++ I ++ ⟨#[41]⟩), .int .i64 1, .int .i64 (-(n : Int))] rfl rfl ?h2 ?h3 ?h4 ?h5 ?h6 ?_)
        case h1 => exact HO4A.out _
        case h4 => unfold maxLen; omega
        case h5 => omega
        case h6 => first | omega | (simp; omega)
        case h3 => intro u hu; simp at hu; rcases hu with rfl | rfl | rfl | rfl <;> rfl
        case h2 => exact cell_four_new _ _ _ _ _ _
        intro v9 w9 ho9 hg9 _ _
        have HL9 := (show Hid _ from HFIN.out _ _ _ ho9 hg9)
        obtain ⟨a9, k9, c9, rfl⟩ := owns_slice ho9
        clear ho9 hg9
        go_wp2
        go_roundg k
        case measure => omega
        case rel => exact HL9.out
      · skip
        have s1 : ¬ 9223372036854775807 < 3 + I.size := by omega
        have s2 : ¬ 9223372036854775807 < 3 + I.size + 1 := by omega
        go_wp2_with (at_builtin; refine wpList_append_own_at _ rfl _ _ 47 rfl (w0.heap.size + 1) 73 i0 (.agg #[.string ⟨#[]⟩, .string ⟨#[]⟩, .int .i64 0, .int .i64 0]) 4 48 Tryz.underlying47 hi hz0 hz1 hz2 rfl (by decide) (.slice la done.length lc) done.length (laysCells done) rfl ?h1 ⟨w4.heap.size, 0, none⟩ 1 1 [.string (⟨#[40, 45, 32]⟩ ++ I ++ ⟨#[32]⟩), .string ⟨#[41]⟩, .int .i64 (-1), .int .i64 n] rfl rfl ?h2 ?h3 ?h4 ?h5 ?h6 ?_)
        case h1 => exact HO4A.out _
        case h4 => unfold maxLen; omega
        case h5 => omega
        case h6 => first | omega | (simp; omega)
        case h3 => intro u hu; simp at hu; rcases hu with rfl | rfl | rfl | rfl <;> rfl
        case h2 => exact cell_four_new _ _ _ _ _ _
        intro v9 w9 ho9 hg9 _ _
        have HL9 := (show Hid _ from HFIN.out _ _ _ ho9 hg9)
        obtain ⟨a9, k9, c9, rfl⟩ := owns_slice ho9
        clear ho9 hg9
        go_wp2
        go_roundg k
        case measure => omega
        case rel => exact HL9.out
      · skip
        have s1 : ¬ 9223372036854775807 < 8 + I.size := by omega
        have s2 : ¬ 9223372036854775807 < 8 + I.size + 2 := by omega
        go_wp2_with (at_builtin; refine wpList_append_own_at _ rfl _ _ 47 rfl (w0.heap.size + 1) 73 i0 (.agg #[.string ⟨#[]⟩, .string ⟨#[]⟩, .int .i64 0, .int .i64 0]) 4 48 Tryz.underlying47 hi hz0 hz1 hz2 rfl (by decide) (.slice la done.length lc) done.length (laysCells done) rfl ?h1 ⟨w4.heap.size, 0, none⟩ 1 1 [.string ⟨#[40, 108, 101, 116, 32, 40, 40, 118, 32]⟩, .string (⟨#[41, 41, 32, 40, 43, 32, 118, 32]⟩ ++ I ++ ⟨#[41, 41]⟩), .int .i64 1, .int .i64 n] rfl rfl ?h2 ?h3 ?h4 ?h5 ?h6 ?_)
        case h1 => exact HO4A.out _
        case h4 => unfold maxLen; omega
        case h5 => omega
        case h6 => first | omega | (simp; omega)
        case h3 => intro u hu; simp at hu; rcases hu with rfl | rfl | rfl | rfl <;> rfl
        case h2 => exact cell_four_new _ _ _ _ _ _
        intro v9 w9 ho9 hg9 _ _
        have HL9 := (show Hid _ from HFIN.out _ _ _ ho9 hg9)
        obtain ⟨a9, k9, c9, rfl⟩ := owns_slice ho9
        clear ho9 hg9
        go_wp2
        go_roundg k
        case measure => omega
        case rel => exact HL9.out
      · skip
        go_wp2_with (at_builtin; refine wpList_append_own_at _ rfl _ _ 47 rfl (w0.heap.size + 1) 73 i0 (.agg #[.string ⟨#[]⟩, .string ⟨#[]⟩, .int .i64 0, .int .i64 0]) 4 48 Tryz.underlying47 hi hz0 hz1 hz2 rfl (by decide) (.slice la done.length lc) done.length (laysCells done) rfl ?h1 ⟨w4.heap.size, 0, none⟩ 1 1 [.string ⟨#[40, 42, 32, 51, 32]⟩, .string ⟨#[41]⟩, .int .i64 3, .int .i64 0] rfl rfl ?h2 ?h3 ?h4 ?h5 ?h6 ?_)
        case h1 => exact HO4A.out _
        case h4 => unfold maxLen; omega
        case h5 => omega
        case h6 => first | omega | (simp; omega)
        case h3 => intro u hu; simp at hu; rcases hu with rfl | rfl | rfl | rfl <;> rfl
        case h2 => exact cell_four_new _ _ _ _ _ _
        intro v9 w9 ho9 hg9 _ _
        have HL9 := (show Hid _ from HFIN.out _ _ _ ho9 hg9)
        obtain ⟨a9, k9, c9, rfl⟩ := owns_slice ho9
        clear ho9 hg9
        go_wp2
        go_roundg k
        case measure => omega
        case rel => exact HL9.out
      · skip
        have s1 : ¬ 9223372036854775807 < 1 + I.size := by omega
        have s2 : ¬ 9223372036854775807 < 1 + I.size + 3 := by omega
        go_wp2_with (at_builtin; refine wpList_append_own_at _ rfl _ _ 47 rfl (w0.heap.size + 1) 73 i0 (.agg #[.string ⟨#[]⟩, .string ⟨#[]⟩, .int .i64 0, .int .i64 0]) 4 48 Tryz.underlying47 hi hz0 hz1 hz2 rfl (by decide) (.slice la done.length lc) done.length (laysCells done) rfl ?h1 ⟨w4.heap.size, 0, none⟩ 1 1 [.string ⟨#[40, 98, 101, 103, 105, 110, 32, 40, 111, 114, 32, 35, 102, 32, 40, 45, 32]⟩, .string (⟨#[32]⟩ ++ I ++ ⟨#[41, 41, 41]⟩), .int .i64 1, .int .i64 (-(n : Int))] rfl rfl ?h2 ?h3 ?h4 ?h5 ?h6 ?_)
        case h1 => exact HO4A.out _
        case h4 => unfold maxLen; omega
        case h5 => omega
        case h6 => first | omega | (simp; omega)
        case h3 => intro u hu; simp at hu; rcases hu with rfl | rfl | rfl | rfl <;> rfl
        case h2 => exact cell_four_new _ _ _ _ _ _
        intro v9 w9 ho9 hg9 _ _
        have HL9 := (show Hid _ from HFIN.out _ _ _ ho9 hg9)
        obtain ⟨a9, k9, c9, rfl⟩ := owns_slice ho9
        clear ho9 hg9
        go_wp2
        go_roundg k
        case measure => omega
        case rel => exact HL9.out
      · skip
        go_wp2_with (at_builtin; refine wpList_append_own_at _ rfl _ _ 47 rfl (w0.heap.size + 1) 73 i0 (.agg #[.string ⟨#[]⟩, .string ⟨#[]⟩, .int .i64 0, .int .i64 0]) 4 48 Tryz.underlying47 hi hz0 hz1 hz2 rfl (by decide) (.slice la done.length lc) done.length (laysCells done) rfl ?h1 ⟨w4.heap.size, 0, none⟩ 1 1 [.string ⟨#[40, 40, 108, 97, 109, 98, 100, 97, 32, 40, 121, 41, 32, 40, 43, 32, 121, 32, 121, 41, 41, 32]⟩, .string ⟨#[41]⟩, .int .i64 2, .int .i64 0] rfl rfl ?h2 ?h3 ?h4 ?h5 ?h6 ?_)
        case h1 => exact HO4A.out _
        case h4 => unfold maxLen; omega
        case h5 => omega
        case h6 => first | omega | (simp; omega)
        case h3 => intro u hu; simp at hu; rcases hu with rfl | rfl | rfl | rfl <;> rfl
        case h2 => exact cell_four_new _ _ _ _ _ _
        intro v9 w9 ho9 hg9 _ _
        have HL9 := (show Hid _ from HFIN.out _ _ _ ho9 hg9)
        obtain ⟨a9, k9, c9, rfl⟩ := owns_slice ho9
        clear ho9 hg9
        go_wp2
        go_roundg k
        case measure => omega
        case rel => exact HL9.out
      · skip
        have s1 : ¬ 9223372036854775807 < 3 + I.size := by omega
        have s2 : ¬ 9223372036854775807 < 3 + I.size + 1 := by omega
        go_wp2_with (at_builtin; refine wpList_append_own_at _ rfl _ _ 47 rfl (w0.heap.size + 1) 73 i0 (.agg #[.string ⟨#[]⟩, .string ⟨#[]⟩, .int .i64 0, .int .i64 0]) 4 48 Tryz.underlying47 hi hz0 hz1 hz2 rfl (by decide) (.slice la done.length lc) done.length (laysCells done) rfl ?h1 ⟨w4.heap.size, 0, none⟩ 1 1 [.string (⟨#[40, 43, 32]⟩ ++ I ++ ⟨#[32]⟩), .string ⟨#[41]⟩, .int .i64 1, .int .i64 n] rfl rfl ?h2 ?h3 ?h4 ?h5 ?h6 ?_)
        case h1 => exact HO4A.out _
        case h4 => unfold maxLen; omega
        case h5 => omega
        case h6 => first | omega | (simp; omega)
        case h3 => intro u hu; simp at hu; rcases hu with rfl | rfl | rfl | rfl <;> rfl
        case h2 => exact cell_four_new _ _ _ _ _ _
        intro v9 w9 ho9 hg9 _ _
        have HL9 := (show Hid _ from HFIN.out _ _ _ ho9 hg9)
        obtain ⟨a9, k9, c9, rfl⟩ := owns_slice ho9
        clear ho9 hg9
        go_wp2
        go_roundg k
        case measure => omega
        case rel => exact HL9.out
end Go.Proofs.YtodeeegbajgafaaGreatDoor

namespace Go.Proofs.YtodeeegbajgafaaGreatDoor
open Go.RowKit
open Mc
open Rd (Pc Chain Does stepsOf shownOf outOf vOf gOf mkForms joinL defP lastP)

theorem Chain.at_ : ∀ {Ps : List Pc} {G : List (Rd.Sym × V)}, Chain G Ps → ∀ i (hi : i < Ps.length), Does Ps[i].f (gOf (Ps.take i) G) Ps[i].G' Ps[i].sh Ps[i].v Ps[i].k
  | [], _, _, i, hi => by cases hi
  | p :: Ps, G, h, i, hi => by
    cases h with
    | cons h h' =>
    cases i with
    | zero => exact h
    | succ i =>
      have := Chain.at_ h' i (by simpa using hi)
      simpa [gOf] using this
theorem gOf_snoc : ∀ (Ps : List Pc) (G : List (Rd.Sym × V)) i (hi : i < Ps.length), gOf (Ps.take (i + 1)) G = Ps[i].G'
  | p :: Ps, G, 0, _ => rfl
  | p :: Ps, G, i + 1, hi => by
    have := gOf_snoc Ps p.G' i (by simpa using hi)
    simpa [gOf] using this
theorem outOf_snoc' : ∀ (Ps : List Pc) (a : List UInt8) i (hi : i < Ps.length), outOf (Ps.take (i + 1)) a = Ps[i].out
  | p :: Ps, a, 0, _ => rfl
  | p :: Ps, a, i + 1, hi => by
    have := outOf_snoc' Ps p.out i (by simpa using hi)
    simpa [outOf] using this
theorem take_snoc {α : Type} (l : List α) (i : Nat) (hi : i < l.length) : l.take (i + 1) = l.take i ++ [l[i]] := by simp
theorem stepsOf_snoc (Ps : List Pc) (i : Nat) (hi : i < Ps.length) : stepsOf (Ps.take (i + 1)) = stepsOf (Ps.take i) + Ps[i].k := by
  rw [take_snoc Ps i hi]
  unfold stepsOf
  rw [List.map_append, List.sum_append]
  rfl
theorem shownOf_snoc (Ps : List Pc) (i : Nat) (hi : i < Ps.length) : shownOf (Ps.take (i + 1)) = shownOf (Ps.take i) ++ Ps[i].sh := by
  rw [take_snoc Ps i hi]
  unfold shownOf
  rw [List.flatMap_append]
  exact congrArg _ (List.append_nil _)
theorem shownOf_split (Ps : List Pc) (i : Nat) : shownOf Ps = shownOf (Ps.take i) ++ shownOf (Ps.drop i) := by
  have : Ps = Ps.take i ++ Ps.drop i := by simp
  unfold shownOf
  rw [← List.flatMap_append, ← this]
theorem shown_at (Ps : List Pc) (i j : Nat) (hi : i < Ps.length) (hj : j < Ps[i].sh.length) : (shownOf Ps)[(shownOf (Ps.take i)).length + j]? = some Ps[i].sh[j] := by
  rw [shownOf_split Ps (i + 1), shownOf_snoc Ps i hi, List.append_assoc, List.getElem?_append_right (by omega), Nat.add_sub_cancel_left, List.getElem?_append_left hj, List.getElem?_eq_getElem hj]
/-- What was shown, in memory. -/
theorem shown_cells {w : World} {v : Value} {sh : List (List UInt8)} (h : ∃ B, w.ownsRow B 9 1 v sh.length (sh.map strV)) : ∃ a cap, v = .slice a sh.length cap ∧ ∀ j (hj : j < sh.length), ∃ g, a = some ⟨g, 0, none⟩ ∧ v.ownBlock = some g ∧ w.cell? ⟨g, j, none⟩ = some (strV sh[j]) := by
  obtain ⟨B, hx, h | ⟨g, cap, cur, rfl, hg, hh, hn, hcap, hcs, htk⟩⟩ := h
  · obtain ⟨rfl, h0⟩ := h
    exact ⟨none, 0, by rw [h0], fun j hj => by omega⟩
  · refine ⟨_, cap, rfl, fun j hj => ⟨g, rfl, rfl, ?_⟩⟩
    have h1 : (cur.toList.take (sh.length * 1))[j]? = (sh.map strV)[j]? := by rw [htk]
    rw [List.getElem?_take, if_pos (by omega)] at h1
    rw [cell_of_at hh, ← Array.getElem?_toList, h1]
    simp [hj]
/-- A piece is run. -/
def PieceR (N : Nat → Prop) (B ob : Nat) (g : Gh) (p : Pc) (w : World) : Ending → World → Prop := fun e w' => ∃ g' sa sn sc, e = .returned (.tuple #[.agg #[.int .i64 1, .string ⟨p.out.toArray⟩, .int .i64 0, .int .i64 p.k, .slice sa sn sc], .bool true]) ∧ Mach N B ob p.G' w' g' ∧ Below B w w' ∧ Kept g.mut w w' ∧ ∃ B', w'.ownsRow B' 9 1 (.slice sa sn sc) p.sh.length (p.sh.map strV)
theorem piece_run {N : Nat → Prop} {B ob : Nat} {G : List (Rd.Sym × V)} {g : Gh} {p : Pc} {w : World} (hM : Mach N B ob G w g) (hBw : B ≤ w.heap.size) (hNt : tabBlock < B) (htab : TabOk w) (hs : Forms p.txt [p.f]) (hd : Does p.f G p.G' p.sh p.v p.k) (hk : p.k ≤ 20000) (hshow : ShowsAs p.v p.out) :
    Calls Tryz.prog 13 #[.pointer (some ⟨ob, 0, none⟩), .string ⟨p.txt.toArray⟩] w (PieceR N B ob g p w) := by
  obtain ⟨n, hn⟩ := hd 20000 [] 0 (by omega) (by simp)
  have hx : Mc.Ends 20000 Rd.shI (begin_ G) [p.f] (at_ p.G' ([] ++ p.sh) (.val p.v) [] [] (0 + p.k)) := .one (s := begin_ G) hn (Or.inr ⟨⟨_, rfl⟩, rfl, rfl⟩)
  rw [List.nil_append, Nat.zero_add] at hx
  refine (run13 Rd.shI callI N B ob G g p.txt [p.f] _ p.out w hM hBw hNt htab hs hx (by simp) (fun _ u hu => ?_)).mono ?_
  · cases hu
    exact hshow
  · rintro e w' ⟨g', sa, sn', sc, rfl, h1, h2, h3, h4⟩
    exact ⟨g', sa, sn', sc, rfl, h1, h2.below hBw hM.high, h2, h4.1⟩
/-- All are run. -/
def AllR' (N : Nat → Prop) (B : Nat) (g : Gh) (Ps : List Pc) (m : Int) (w : World) : Ending → World → Prop := fun e w' => ∃ sa sn sc, e = .returned (.tuple #[.agg #[.int .i64 1, .string ⟨(Lib.itoa m).toArray⟩, .int .i64 0, .int .i64 (stepsOf Ps), .slice sa sn sc], .bool true]) ∧ Below B w w' ∧ Kept g.mut w w' ∧ (∃ B', w'.ownsRow B' 9 1 (.slice sa sn sc) (shownOf Ps).length ((shownOf Ps).map strV)) ∧ ∀ k, (Value.slice sa sn sc).ownBlock = some k → ¬ N k
theorem all_run {N : Nat → Prop} {B ob : Nat} {g : Gh} {n : Int} {texts : List (List UInt8)} {m : Int} {Ps : List Pc} {w : World} (h : SplOk n texts m Ps) (hM : Mach N B ob G0 w g) (hBw : B ≤ w.heap.size) (hNt : tabBlock < B) (htab : TabOk w) :
    Calls Tryz.prog 13 #[.pointer (some ⟨ob, 0, none⟩), .string ⟨(Rd.defT n ++ joinL (texts ++ [Rd.lastT])).toArray⟩] w (AllR' N B g Ps m w) := by
  obtain ⟨p, ps, rfl⟩ : ∃ p ps, Ps = p :: ps := by
    cases Ps with
    | nil => exact absurd rfl h.ne
    | cons p ps => exact ⟨p, ps, rfl⟩
  have hst := h.steps
  have hsh := h.shown
  have hx := Rd.Chain.ends (F := 20000) (sn := []) (c := 0) (v0 := .atom .empty) h.chain (by omega) (by simp; omega)
  rw [List.nil_append, Nat.zero_add, h.val] at hx
  refine (run13 Rd.shI callI N B ob G0 g _ _ _ (Lib.itoa m) w hM hBw hNt htab h.all hx (by simp) (fun _ u hu => ?_)).mono ?_
  · cases hu
    have := h.lim
    exact shows_num (by omega) (by omega)
  · rintro e w' ⟨g', sa, sn', sc, rfl, h1, h2, h3, h4⟩
    exact ⟨sa, sn', sc, rfl, h2.below hBw hM.high, h2, h4⟩
/-- The first loop. -/
structure SplG (rs : List Int) (ao : Option Addr) (cap : Nat) (w2 : World) (n0 : Int) (texts : List (List UInt8)) (m : Int) (kk gk : Nat) (v8 v9 v10 v11 : Value) (wr : World) (i : Nat) (done : List (List UInt8)) (n : Int) : Prop where
  cnt : v11 = .int .i64 (gk : Nat)
  num : v10 = .int .i64 n
  txt : v8 = .string ⟨(Rd.defT n0 ++ joinL done).toArray⟩
  own : wr.ownsRow (w2.heap.size + 1) 9 1 v9 (done.length + 1) ((Rd.defT n0 :: done).map strV)
  mkr : MkAt rs ao cap w2.heap.size i wr
  sum : done ++ (mkForms gk n (rs.drop i)).1 = texts
  fin : (mkForms gk n (rs.drop i)).2 = m
  below : Below w2.heap.size w2 wr
  lim : ∃ L : Int, -L ≤ n ∧ n ≤ L ∧ 100 ≤ L ∧ L * 2 ^ gk ≤ 3200
  few : done.length + gk = kk
/-- Blocks that are kept while the second machine runs. -/
def Kp (w1 w2 w3 wr : World) : Prop := w3.heap.size ≤ wr.heap.size ∧ ∀ k, k < w3.heap.size → ¬ (w1.heap.size ≤ k ∧ k < w2.heap.size) → wr.heap[k]? = w3.heap[k]?
theorem Kp.cell {w1 w2 w3 wr : World} (h : Kp w1 w2 w3 wr) {p : Addr} {v : Value} (hp : ¬ (w1.heap.size ≤ p.block ∧ p.block < w2.heap.size)) (hc : w3.cell? p = some v) : wr.cell? p = some v := by
  rw [← hc]
  exact World.cell?_of_block (h.2 p.block (World.block_lt_of_cell? w3 p hc) hp)
/-- The second machine behind what the first one did. -/
theorem Mach.fenceK {N M : Nat → Prop} {B ob : Nat} {G : List (Rd.Sym × V)} {w w' : World} {g : Gh} (h : Mach N B ob G w g) (hk : Kept M w w') (hM : ∀ k, M k → N k) (ho : ¬ M ob) : Mach (fun k => N k ∨ w.heap.size ≤ k ∧ k < w'.heap.size) B ob G w' g := by
  refine ⟨hk.at ho h.box, h.low, h.fix, ?_, h.high⟩
  refine h.m.kept (fun k hm => hk.block k (Gh.low h.m k hm) (fun e => h.m.disj k hm (hM k e))) (fun k hk' ho' => ⟨⟨fun e => by rcases e with e | e; exact ho'.1 e; omega, ho'.2⟩, hk.block k hk' (fun e => ho'.1 (hM k e))⟩) ?_ ?_
  · rintro k (e | e)
    · have := h.m.low k e; have := hk.size; omega
    · exact e.2
  · rintro k hm (e | e)
    · exact h.m.disj k hm e
    · have := Gh.low h.m k hm; omega
/-- The second loop. -/
structure Sp2 (W w1 w2 w3 : World) (N : Nat → Prop) (ob : Nat) (Ps : List Pc) (gk : Nat) (v17 v18 v19 v20 : Value) (wr : World) (i : Nat) : Prop where
  sum : i + gk = Ps.length
  stp : v17 = .int .i64 (stepsOf (Ps.take i))
  shn : v18 = .int .i64 ((shownOf (Ps.take i)).length : Nat)
  txt : v19 = .string ⟨(outOf (Ps.take i) []).toArray⟩
  idx : v20 = .int .i64 (i : Nat)
  mach : ∃ g, Mach N w1.heap.size ob (gOf (Ps.take i) G0) wr g
  kp : Kp w1 w2 w3 wr
  below : Below W.heap.size W wr
theorem Kp.run {w1 w2 w3 wr w' : World} {N : Nat → Prop} {ob : Nat} {G : List (Rd.Sym × V)} {g : Gh} (h : Kp w1 w2 w3 wr) (hM : Mach N w1.heap.size ob G wr g) (hN : ∀ k, w2.heap.size ≤ k ∧ k < w3.heap.size → N k) (hk : Kept g.mut wr w') : Kp w1 w2 w3 w' := by
  refine ⟨Nat.le_trans h.1 hk.size, fun k hk' hn => ?_⟩
  rw [hk.block k (Nat.lt_of_lt_of_le hk' h.1) (fun e => ?_)]
  · exact h.2 k hk' hn
  · have h1 := hM.high k e
    by_cases hw : k < w2.heap.size
    · exact hn ⟨h1, hw⟩
    · exact hM.m.disj k e (hN k ⟨by omega, hk'⟩)
theorem Kp.below {w1 w2 w3 wr w' : World} (h : Kp w1 w2 w3 wr) (hb : Below wr.heap.size wr w') : Kp w1 w2 w3 w' := ⟨Nat.le_trans h.1 hb.size, fun k hk hn => (hb.block k (Nat.lt_of_lt_of_le hk h.1)).trans (h.2 k hk hn)⟩
theorem all_bytes (d : List UInt8) (l : List (List UInt8)) : (⟨(d ++ joinL (l ++ [Rd.lastT])).toArray⟩ : ByteArray) = ⟨(d ++ joinL l).toArray⟩ ++ ⟨#[32, 40, 43, 32, 120, 32, 48, 41]⟩ := by
  rw [Rd.joinL_snoc, ← List.append_assoc]
  apply ByteArray.ext
  simp [Rd.lastT]
end Go.Proofs.YtodeeegbajgafaaGreatDoor

namespace Go.Proofs.YtodeeegbajgafaaGreatDoor
open Go.RowKit
open Mc
open Rd (Pc Chain Does stepsOf shownOf outOf vOf gOf mkForms joinL defP lastP)

theorem dispT_bytes (s : List UInt8) : (⟨(Rd.dispT s).toArray⟩ : ByteArray) = ⟨#[40, 100, 105, 115, 112, 108, 97, 121, 32]⟩ ++ ⟨s.toArray⟩ ++ ⟨#[41]⟩ := by
  rw [Rd.dispT, bytes3]
theorem setT_bytes (s : List UInt8) : (⟨(Rd.setT s).toArray⟩ : ByteArray) = ⟨#[40, 115, 101, 116, 33, 32, 120, 32]⟩ ++ ⟨s.toArray⟩ ++ ⟨#[41]⟩ := by
  rw [Rd.setT, bytes3]
theorem join_bytes (d : List UInt8) (l : List (List UInt8)) (t : List UInt8) : (⟨(d ++ joinL (l ++ [t])).toArray⟩ : ByteArray) = ⟨(d ++ joinL l).toArray⟩ ++ ⟨#[32]⟩ ++ ⟨t.toArray⟩ := by
  rw [Rd.joinL_snoc, ← List.append_assoc, show (32 : UInt8) :: t = [32] ++ t from rfl, ← List.append_assoc, bytes3]
theorem join_len (l : List (List UInt8)) (h : ∀ t ∈ l, t.length ≤ 60) : (joinL l).length ≤ 61 * l.length := by
  induction l with
  | nil => simp [joinL]
  | cons t l ih =>
    have := ih fun u hu => h u (List.mem_cons_of_mem _ hu)
    have := h t (List.mem_cons_self ..)
    have e : joinL (t :: l) = 32 :: (t ++ joinL l) := by simp [joinL]
    rw [e]
    simp only [List.length_cons, List.length_append]
    omega
/-- One round of the first loop, as to the numbers. -/
theorem mkForms_next (k : Nat) (n : Int) (raw : List Int) : ∃ s p r1 c r2, Rd.mkSum n 1 raw = (s, p, r1) ∧ Rd.nextN 3 r1 = (c, r2) ∧ mkForms (k + 1) n raw = (if c = 0 then (Rd.setT s :: (mkForms k p r2).1, (mkForms k p r2).2) else (Rd.dispT s :: (mkForms k n r2).1, (mkForms k n r2).2)) := by
  obtain ⟨s, p, r1, h1⟩ : ∃ s p r1, Rd.mkSum n 1 raw = (s, p, r1) := ⟨_, _, _, rfl⟩
  obtain ⟨c, r2, h2⟩ : ∃ c r2, Rd.nextN 3 r1 = (c, r2) := ⟨_, _, rfl⟩
  refine ⟨s, p, r1, c, r2, h1, h2, ?_⟩
  rw [mkForms, h1]
  simp only [h2]
  cases c with
  | zero => rfl
  | succ c => rfl
theorem own_new {B : Nat} {w : World} {T : TypeId} {v : Value} (hB : B ≤ w.heap.size) : (w.alloc (.cells #[v] T)).ownsRow B T 1 (.slice (some ⟨w.heap.size, 0, none⟩) 1 1) 1 [v] :=
  ⟨rfl, Or.inr ⟨w.heap.size, 1, #[v], rfl, hB, at_new w _, by omega, by unfold maxLen; omega, rfl, rfl⟩⟩

theorem SplG.next {rs : List Int} {ao : Option Addr} {cap : Nat} {w2 : World} {n0 : Int} {texts : List (List UInt8)} {m : Int} {kk k : Nat} {v8 v9 v10 v11 : Value} {wr : World} {i : Nat} {done : List (List UInt8)} {n : Int} (h : SplG rs ao cap w2 n0 texts m kk (k + 1) v8 v9 v10 v11 wr i done n) {form : List UInt8} {n' : Int} {i8 : Nat} {w9 : World} {v9' : Value} {r2 : List Int}
    (hform : mkForms (k + 1) n (rs.drop i) = (form :: (mkForms k n' r2).1, (mkForms k n' r2).2)) (hd : rs.drop i8 = r2) (hown : w9.ownsRow (w2.heap.size + 1) 9 1 v9' (done.length + 1 + 1) ((Rd.defT n0 :: done).map strV ++ [.string ⟨form.toArray⟩])) (hmk : MkAt rs ao cap w2.heap.size i8 w9) (hb : Below w2.heap.size w2 w9) (hlim : ∃ L : Int, -L ≤ n' ∧ n' ≤ L ∧ 100 ≤ L ∧ L * 2 ^ k ≤ 3200) :
    SplG rs ao cap w2 n0 texts m kk k (.string (⟨(Rd.defT n0 ++ joinL done).toArray⟩ ++ ⟨#[32]⟩ ++ ⟨form.toArray⟩)) v9' (.int .i64 n') (.int .i64 (k : Nat)) w9 i8 (done ++ [form]) n' := by
  have hs := h.sum
  have hf := h.fin
  rw [hform] at hs hf
  refine ⟨rfl, rfl, by rw [join_bytes], ?_, hmk, by rw [hd, ← hs]; simp, by rw [hd]; exact hf, hb, hlim, by have := h.few; simp; omega⟩
  simpa [strV] using hown

set_option maxHeartbeats 16000000 in
set_option maxRecDepth 20000 in
theorem split6 (W : World) (ao : Option Addr) (cap : Nat) (rs : List Int) (hl : rs.length ≤ cap) (hcap : cap ≤ maxLen) (hcell : ∀ i (hi : i < rs.length), ∃ a, ao = some a ∧ W.cell? (a.add i) = some (.int .i64 rs[i])) (hz : ∀ i (hi : i < rs.length), -9223372036854775808 ≤ rs[i] ∧ rs[i] ≤ 9223372036854775807) (x : Int) (hx0 : -9223372036854775808 ≤ x) (hx1 : x ≤ 9223372036854775807) (htab : TabOk W) :
    Calls Tryz.prog 6 #[.slice ao rs.length cap, .int .i64 x] W fun e w' => e = .returned (.bool true) ∧ Below W.heap.size W w' := by
  obtain ⟨i0, hi, hz0, hz1, hz2⟩ := info_parts Tryz.info9
  have hlt := htab.lt
  have hm : rs.length ≤ 9223372036854775807 := by unfold maxLen at hcap; omega
  have HF : Hid (Calls Tryz.prog 10 #[] W fun e w' => ∃ ob g, e = .returned (.pointer (some ⟨ob, 0, none⟩)) ∧ Mach (Old W.heap.size) W.heap.size ob G0 w' g ∧ Below W.heap.size W w') := fresh10 (Old W.heap.size) W (fun _ h => h.1) (fun h => h.2 rfl) htab
  have HT : Hid (∀ w', Below W.heap.size W w' → TabOk w') := fun w' hb => htab.on (hb.block _ hlt)
  have HF2 : Hid (∀ w1, Below W.heap.size W w1 → Calls Tryz.prog 10 #[] w1 fun e w' => ∃ ob g, e = .returned (.pointer (some ⟨ob, 0, none⟩)) ∧ Mach (Old w1.heap.size) w1.heap.size ob G0 w' g ∧ Below w1.heap.size w1 w') := fun w1 hb => fresh10 (Old w1.heap.size) w1 (fun _ h => h.1) (fun h => h.2 rfl) (HT.out _ hb)
  have HP : Hid (∀ w, Calls Tryz.prog 14 #[.int .i64 x, .int .i64 100] w fun e w' => e = .returned (.int .i64 (Rd.pickN x 100 : Nat)) ∧ w' = w) := fun w => pick14 x 100 hx0 hx1 (by omega) (by omega) w
  have hr := Rd.pickN_lt x 100 (by omega)
  generalize Rd.pickN x 100 = r at *
  have hk6 := Rd.nextN_lt 6 rs (by omega)
  obtain ⟨kk, r0, hkk⟩ : ∃ kk r0, Rd.nextN 6 rs = (kk, r0) := ⟨_, _, rfl⟩
  simp only [hkk] at hk6
  obtain ⟨Ps, hok, hPl⟩ := split_ok (r : Int) (by omega) (by omega) kk (by omega) r0
  obtain ⟨texts, m, htm⟩ : ∃ texts m, mkForms kk (r : Int) r0 = (texts, m) := ⟨_, _, rfl⟩
  rw [htm] at hok
  simp only at hok
  have HI : Hid (∀ w', Below W.heap.size W w' → Calls Tryz.prog 16 #[.int .i64 (r : Nat)] w' fun e w'' => e = .returned (.string ⟨(Lib.itoa (r : Nat)).toArray⟩) ∧ Below w'.heap.size w' w'') := fun w' hb => itoa16 _ (by omega) (by omega) w' (HT.out _ hb)
  have HIM : Hid (∀ w', Below W.heap.size W w' → Calls Tryz.prog 16 #[.int .i64 m] w' fun e w'' => e = .returned (.string ⟨(Lib.itoa m).toArray⟩) ∧ Below w'.heap.size w' w'') := fun w' hb => itoa16 _ (by have := hok.lim; omega) (by have := hok.lim; omega) w' (HT.out _ hb)
  have HD : Hid ((⟨(Rd.defT (r : Int)).toArray⟩ : ByteArray) = ⟨#[40, 100, 101, 102, 105, 110, 101, 32, 120, 32]⟩ ++ ⟨(Lib.itoa (r : Nat)).toArray⟩ ++ ⟨#[41]⟩) := defT_bytes r
  have hIl := (Rd.numW_itoa (n := (r : Int)) (by omega) (by omega)).short
  have hIs := sz (Lib.itoa (r : Int))
  generalize (⟨(Lib.itoa (r : Nat)).toArray⟩ : ByteArray) = I at *
  have s1 : ¬ 9223372036854775807 < 10 + I.size := by omega
  have s2 : ¬ 9223372036854775807 < 10 + I.size + 1 := by omega
  have HMK : Hid (∀ w2, Below W.heap.size W w2 → MkAt rs ao cap w2.heap.size 0 (w2.alloc (.cells #[.slice ao rs.length cap, .int .i64 0] 27))) := fun w2 hb => mk_new hcell hz hm hb 27
  have HAB : Hid (∀ a, 0 < rs.length → ao = some a → a.block < W.heap.size) := fun a h0 e => by
    obtain ⟨a', e', hc⟩ := hcell 0 h0
    cases e'.symm.trans e
    have := World.block_lt_of_cell? W _ hc
    rwa [add_block] at this
  have HOK := (show Hid _ from hok)
  have HTM := (show Hid _ from htm)
  have HKK := (show Hid _ from hkk)
  have HTL : Hid (tabBlock < W.heap.size) := hlt
  clear hcell hz htab hok htm hkk hlt hIl hIs
  go_enter Tryz.func6, Tryz.ntmps6
  go_upto_region 5 with (first | (go_at_call 10; first | (refine HF.out.mono ?_; rintro e1 w1 ⟨oba, ga, rfl, hMa, hb1⟩; have HMA := (show Hid _ from hMa); have HB1 : Hid (Below W.heap.size W w1) := hb1; clear hMa hb1) | (refine (HF2.out _ HB1.out).mono ?_; rintro e2 w2 ⟨obb, gb, rfl, hMb, hb2⟩; have HMB := (show Hid _ from hMb); have HB2 : Hid (Below w1.heap.size w1 w2) := hb2; clear hMb hb2)))
  have HPL := (show Hid _ from hPl)
  clear hPl
  have HBW2 : Hid (Below W.heap.size W w2) := HB1.out.trans (HB2.out.mono HB1.out.size)
  have HM3 : Hid (MkAt rs ao cap w2.heap.size 0 (w2.alloc (.cells #[.slice ao rs.length cap, .int .i64 0] 27))) := HMK.out _ HBW2.out
  have HBW3 : Hid (Below W.heap.size W (w2.alloc (.cells #[.slice ao rs.length cap, .int .i64 0] 27))) := HBW2.out.alloc HBW2.out.size _
  have HB23 : Hid (Below w2.heap.size w2 (w2.alloc (.cells #[.slice ao rs.length cap, .int .i64 0] 27))) := (Below.refl _ w2).alloc (Nat.le_refl _) _
  have HN6 : Hid (∀ w, MkAt rs ao cap w2.heap.size 0 w → Calls Tryz.prog 18 #[.pointer (some ⟨w2.heap.size, 0, none⟩), .int .i64 6] w fun e w' => e = .returned (.int .i64 (kk : Nat)) ∧ ∃ i', MkAt rs ao cap w2.heap.size i' w' ∧ rs.drop i' = r0 ∧ Kept (· = w2.heap.size) w w') := fun w h => by
    have := next18 rs ao cap w2.heap.size 0 6 (by omega) (by omega) w h
    unfold NextR at this
    rw [List.drop_zero, HKK.out] at this
    exact this
  have HN3 : Hid (∀ (j c : Nat) (r1 r2 : List Int) (w : World), MkAt rs ao cap w2.heap.size j w → rs.drop j = r1 → Rd.nextN 3 r1 = (c, r2) → Calls Tryz.prog 18 #[.pointer (some ⟨w2.heap.size, 0, none⟩), .int .i64 3] w fun e w' => e = .returned (.int .i64 (c : Nat)) ∧ ∃ i', MkAt rs ao cap w2.heap.size i' w' ∧ rs.drop i' = r2 ∧ Kept (· = w2.heap.size) w w') := fun j c r1 r2 w h e1 e2 => by
    have := next18 rs ao cap w2.heap.size j 3 (by omega) (by omega) w h
    unfold NextR at this
    rw [e1, e2] at this
    exact this
  have HSUM : Hid (∀ (n L : Int) (j : Nat) (s : List UInt8) (p : Int) (r1 : List Int) (w : World), -L ≤ n → n ≤ L → 100 ≤ L → L ≤ 100000 → MkAt rs ao cap w2.heap.size j w → Below w2.heap.size w2 w → Rd.mkSum n 1 (rs.drop j) = (s, p, r1) → Calls Tryz.prog 15 #[.pointer (some ⟨w2.heap.size, 0, none⟩), .int .i64 1, .int .i64 n] w fun e w' => e = .returned (.tuple #[.string ⟨s.toArray⟩, .int .i64 p]) ∧ ∃ i', MkAt rs ao cap w2.heap.size i' w' ∧ rs.drop i' = r1 ∧ Kept (· = w2.heap.size) w w') := fun n L j s p r1 w h0 h1 h2 h3 hj hb e => by
    have hs := HBW2.out.size
    have htl := HTL.out
    have := sum15 rs ao cap w2.heap.size n L h0 h1 h2 h3 (by omega) 1 (by omega) j w hj (HT.out _ (HBW2.out.trans (hb.mono hs)))
    unfold SumR at this
    rw [e] at this
    exact this
  go_upto_region 7 with (first | (go_at_call 14; refine (HP.out _).mono ?_; rintro e3 w3 ⟨rfl, rfl⟩) | (go_at_call 16; go_loud (refine (HI.out _ HBW3.out).mono ?_; rintro e4 w4 ⟨rfl, hb4⟩; have HB4 : Hid (Below w2.heap.size w2 w4) := HB23.out.trans (hb4.mono HB23.out.size); have HM4 : Hid (MkAt rs ao cap w2.heap.size 0 (w4.alloc (.cells #[.string ⟨(Rd.defT (r : Int)).toArray⟩] 9))) := HM3.out.kept2 (M := fun _ => False) ((Kept.of_below hb4 _).alloc _) id (fun _ _ _ => id); have hs4 : w2.heap.size + 1 ≤ w4.heap.size := (by have := hb4.size; simp at this; omega); have HS4 : Hid (w2.heap.size + 1 ≤ w4.heap.size) := hs4; clear hs4; clear hb4)))
  rw [← HD.out]
  go_upto_region 10 with (first | (go_at_call 14; refine (HP.out _).mono ?_; rintro e5 w5 ⟨rfl, rfl⟩) | (go_at_call 18; refine (HN6.out _ HM4.out).mono ?_; rintro e6 w6 ⟨rfl, i6, hM6, hd6, hk6⟩; have HM6 := (show Hid _ from hM6); have HD6 : Hid (rs.drop i6 = r0) := hd6; have HK6 : Hid (Kept (· = w2.heap.size) (w4.alloc (.cells #[.string ⟨(Rd.defT (r : Int)).toArray⟩] 9)) w6) := hk6; clear hM6 hd6 hk6))
  have HO6 : Hid (w6.ownsRow (w2.heap.size + 1) 9 1 (.slice (some ⟨w4.heap.size, 0, none⟩) 1 1) 1 [.string ⟨(Rd.defT (r : Int)).toArray⟩]) := own_kept (own_new HS4.out) HK6.out (fun k h e => by omega)
  have HB6 : Hid (Below w2.heap.size w2 w6) := (HB4.out.alloc HB4.out.size _).trans (HK6.out.below (by have := HS4.out; simp; omega) (fun k e => by omega))
  have HBIG : Hid (∀ done : List (List UInt8), (∃ l, done ++ l = texts) → done.length ≤ 5 → (Rd.defT (r : Int) ++ joinL done).length ≤ 400) := fun done ⟨l, e⟩ hd => by
    have h1 := HOK.out.len (Rd.defT r) (List.mem_cons_self ..)
    have h2 := join_len done fun t ht => HOK.out.len t (List.mem_cons_of_mem _ (List.mem_append_left _ (by rw [← e]; exact List.mem_append_left _ ht)))
    simp only [List.length_append]
    omega
  go_loopg [8, 9, 10, 11] kk (fun gk v8 v9 v10 v11 wr => ∃ i done n, SplG rs ao cap w2 (r : Int) texts m kk gk v8 v9 v10 v11 wr i done n)
  case atStart => exact ⟨i6, [], r, rfl, rfl, by simp [joinL], HO6.out, HM6.out, by rw [HD6.out, HTM.out]; rfl, by rw [HD6.out, HTM.out], HB6.out, ⟨100, by omega, by omega, by omega, by
    have : kk = 0 ∨ kk = 1 ∨ kk = 2 ∨ kk = 3 ∨ kk = 4 ∨ kk = 5 := by omega
    rcases this with rfl | rfl | rfl | rfl | rfl | rfl <;> decide⟩, by simp⟩
  case round =>
    obtain ⟨i, done, n, hG⟩ := hrel
    obtain rfl := hG.cnt
    obtain rfl := hG.num
    obtain rfl := hG.txt
    obtain ⟨la, ln, lc, rfl⟩ := owns_slice hG.own
    have HG := (show Hid _ from hG)
    clear hG
    cases gk with
    | zero =>
      have htx : texts = done := by
        have := HG.out.sum
        simpa [mkForms] using this.symm
      have hmn : m = n := by
        have := HG.out.fin
        simpa [mkForms] using this.symm
      subst htx
      subst hmn
      have hfew := HG.out.few
      have hT8 := HBIG.out texts ⟨[], by simp⟩ (by omega)
      have zT := sz (Rd.defT (r : Int) ++ joinL texts)
      have HAB8 : Hid ((⟨(Rd.defT (r : Int) ++ joinL (texts ++ [Rd.lastT])).toArray⟩ : ByteArray) = ⟨(Rd.defT (r : Int) ++ joinL texts).toArray⟩ ++ ⟨#[32, 40, 43, 32, 120, 32, 48, 41]⟩) := all_bytes _ _
      generalize (⟨(Rd.defT (r : Int) ++ joinL texts).toArray⟩ : ByteArray) = T8 at *
      have s3 : ¬ 9223372036854775807 < T8.size + 8 := by omega
      have hOwr : wr.ownsRow (w2.heap.size + 1) 9 1 (.slice la ln lc) (texts.length + 1) ((Rd.defT (r : Int) :: texts).map strV) := HG.out.own
      have hBwr : Below w2.heap.size w2 wr := HG.out.below
      have hswr : w2.heap.size < wr.heap.size := (by obtain ⟨T, hb⟩ := HG.out.mkr.blk; exact lt_of_at hb)
      have hdl : texts.length ≤ 5 := by omega
      have HOA : Hid (∀ cells, (wr.alloc (.cells cells 9)).ownsRow (w2.heap.size + 1) 9 1 (.slice la ln lc) (texts.length + 1) ((Rd.defT (r : Int) :: texts).map strV)) := fun cells => hOwr.alloc _
      have HGR : Hid (∀ cells w9, (wr.alloc (.cells cells 9)).grownBy w9 (Value.slice la ln lc).ownBlock → Below w2.heap.size w2 w9) := fun cells w9 hg => by
        have hb9 := own_grown (hOwr.alloc (.cells cells 9)) (by simp; omega) hg
        exact hBwr.trans ⟨hb9.os, hb9.tape, hb9.output, by have := hb9.size; simp at this; omega, fun j hj => (hb9.block j (by omega)).trans (Below.heap_alloc _ _ _ (by omega))⟩
      clear hfew hT8 zT hOwr hBwr HSUM HN3 HN6 HMK HM6 HM4 HM3 HO6 HK6 HBIG
      go_upto_region 21 with (at_builtin; refine wpList_append_own_at _ rfl _ _ 32 rfl (w2.heap.size + 1) 9 i0 (.string ⟨#[]⟩) 1 16 Tryz.underlying32 hi hz0 hz1 hz2 rfl (by decide) (.slice la ln lc) (texts.length + 1) ((Rd.defT (r : Int) :: texts).map strV) rfl ?h1 ⟨wr.heap.size, 0, none⟩ 1 1 [.string ⟨#[40, 43, 32, 120, 32, 48, 41]⟩] rfl rfl ?h2 ?h3 ?h4 ?h5 ?h6 ?_)
      case h1 => exact HOA.out _
      case h4 => unfold maxLen; omega
      case h5 => omega
      case h6 => first | omega | (simp; omega)
      case h3 => intro u hu; simp at hu; subst hu; rfl
      case h2 => exact cell_one_new _ _ _
      intro v9 w9 ho9 hg9 _ _
      have hB9 := HGR.out _ _ hg9
      have hPt : strV (Rd.defT (r : Int)) :: (texts.map strV ++ [.string ⟨#[40, 43, 32, 120, 32, 48, 41]⟩]) = (Ps.map (·.txt)).map strV := by
        rw [HOK.out.txts]
        simp [strV, Rd.lastT]
      have hPn : texts.length + 1 + 1 = (Ps.map (·.txt)).length := by
        rw [HOK.out.txts]
        simp
      rw [hPt, hPn] at ho9
      obtain ⟨fa, fc, rfl, hfc⟩ := shown_cells ⟨_, ho9⟩
      have hfb : ∀ g, (Value.slice fa (Ps.map (·.txt)).length fc).ownBlock = some g → w2.heap.size ≤ g := fun g e => by
        have := (ownBlock_of ho9 g e).1
        omega
      have HB9 : Hid (Below w2.heap.size w2 w9) := hB9
      have hB19 : Below w1.heap.size w1 w9 := HB2.out.trans (hB9.mono HB2.out.size)
      have hBW9 : Below W.heap.size W w9 := HBW2.out.trans (hB9.mono HBW2.out.size)
      have hMa9 := HMA.out.fenceK (Kept.of_below hB19 (fun _ => False)) (fun _ e => e.elim) id
      have HRA : Hid (Calls Tryz.prog 13 #[.pointer (some ⟨oba, 0, none⟩), .string (T8 ++ ⟨#[32, 40, 43, 32, 120, 32, 48, 41]⟩)] w9 (AllR' (fun k => Old W.heap.size k ∨ w1.heap.size ≤ k ∧ k < w9.heap.size) W.heap.size ga Ps m w9)) := by
        rw [← HAB8.out]
        exact all_run HOK.out hMa9 hBW9.size HTL.out (HT.out _ hBW9)
      have HGA : Hid (∀ k, ga.mut k → k < w1.heap.size ∧ k ≠ tabBlock) := fun k e => ⟨Gh.low HMA.out.m k e, fun e' => by have := HMA.out.high k e; have := HTL.out; omega⟩
      have HFC9 : Hid (∀ j (hj : j < Ps.length), ∃ g, fa = some ⟨g, 0, none⟩ ∧ w2.heap.size ≤ g ∧ w9.cell? ⟨g, j, none⟩ = some (.string ⟨Ps[j].txt.toArray⟩)) := fun j hj => by
        obtain ⟨g, e1, e2, e3⟩ := hfc j (by rw [List.length_map]; exact hj)
        refine ⟨g, e1, hfb g e2, ?_⟩
        rw [e3]
        simp [strV]
      have HBW9 := (show Hid _ from hBW9)
      have hs9 : w2.heap.size ≤ w9.heap.size := hB9.size
      have hfew := HOK.out.few
      rw [List.length_map]
      clear ho9 hg9 hB9 hPt hPn hfc hfb hB19 hMa9 hBW9 HOA HGR hswr hdl HAB8
      unfold AllR' at HRA
      generalize hIM : (⟨(Lib.itoa m).toArray⟩ : ByteArray) = SM at *
      have HSM := (show Hid _ from hIM)
      clear hIM
      go_upto_region 22 with (first | (go_at_call 13; refine HRA.out.mono ?_; rintro e10 w10 ⟨sa, sn, sc, rfl, hb10, hk10, hsh10, hno10⟩; have HB10 := (show Hid _ from hb10); have HK10 := (show Hid _ from hk10); have HSH10 := (show Hid _ from hsh10); have HNO10 := (show Hid _ from hno10); clear hb10 hk10 hsh10 hno10))
      obtain ⟨sa', sc', hse, hsc⟩ := shown_cells HSH10.out
      obtain ⟨rfl, rfl, rfl⟩ : sa = sa' ∧ sn = (shownOf Ps).length ∧ sc = sc' := by
        injection hse with e1 e2 e3
        exact ⟨e1, e2, e3⟩
      have hs10 : w9.heap.size ≤ w10.heap.size := HK10.out.size
      have hk211 : Kept ga.mut w2 (w10.alloc (.cells #[.int .i64 1, .string SM, .int .i64 0, .int .i64 (stepsOf Ps), .slice sa (shownOf Ps).length sc] 34)) := ((Kept.of_below HB9.out ga.mut).trans HK10.out).alloc _
      have hMb11 := HMB.out.fenceK hk211 (fun k e => HGA.out k e) (fun e => by have := (HGA.out _ e).1; have := HMB.out.low; omega)
      have hk911 : Kept ga.mut w9 (w10.alloc (.cells #[.int .i64 1, .string SM, .int .i64 0, .int .i64 (stepsOf Ps), .slice sa (shownOf Ps).length sc] 34)) := HK10.out.alloc _
      have hfc11 : ∀ j (hj : j < Ps.length), ∃ g, fa = some ⟨g, 0, none⟩ ∧ w2.heap.size ≤ g ∧ (w10.alloc (.cells #[.int .i64 1, .string SM, .int .i64 0, .int .i64 (stepsOf Ps), .slice sa (shownOf Ps).length sc] 34)).cell? ⟨g, j, none⟩ = some (.string ⟨Ps[j].txt.toArray⟩) := fun j hj => by
        obtain ⟨g, e1, e2, e3⟩ := HFC9.out j hj
        exact ⟨g, e1, e2, hk911.cellA (fun e => by have h1 : g < w1.heap.size := (HGA.out g e).1; have h2 := HB2.out.size; omega) e3⟩
      have hsc11 : ∀ j (hj : j < (shownOf Ps).length), ∃ g, sa = some ⟨g, 0, none⟩ ∧ ¬ (w1.heap.size ≤ g ∧ g < w2.heap.size) ∧ (w10.alloc (.cells #[.int .i64 1, .string SM, .int .i64 0, .int .i64 (stepsOf Ps), .slice sa (shownOf Ps).length sc] 34)).cell? ⟨g, j, none⟩ = some (.string ⟨(shownOf Ps)[j].toArray⟩) := fun j hj => by
        obtain ⟨g, e1, e2, e3⟩ := hsc j hj
        refine ⟨g, e1, fun e => HNO10.out g e2 (Or.inr ⟨e.1, by omega⟩), ?_⟩
        have := (Kept.refl (fun _ => False) w10).alloc (.cells #[.int .i64 1, .string SM, .int .i64 0, .int .i64 (stepsOf Ps), .slice sa (shownOf Ps).length sc] 34)
        exact this.cellA id e3
      have hB11 : Below W.heap.size W (w10.alloc (.cells #[.int .i64 1, .string SM, .int .i64 0, .int .i64 (stepsOf Ps), .slice sa (shownOf Ps).length sc] 34)) := (HBW9.out.trans HB10.out).alloc (HBW9.out.trans HB10.out).size _
      have hat11 := at_new w10 (.cells #[.int .i64 1, .string SM, .int .i64 0, .int .i64 (stepsOf Ps), .slice sa (shownOf Ps).length sc] 34)
      have hsz11 : (w10.alloc (.cells #[.int .i64 1, .string SM, .int .i64 0, .int .i64 (stepsOf Ps), .slice sa (shownOf Ps).length sc] 34)).heap.size = w10.heap.size + 1 := by simp
      generalize w10.alloc (.cells #[.int .i64 1, .string SM, .int .i64 0, .int .i64 (stepsOf Ps), .slice sa (shownOf Ps).length sc] 34) = w11 at *
      have HN2 : Hid (∀ k, w2.heap.size ≤ k ∧ k < w11.heap.size → (fun k => Old w1.heap.size k ∨ w2.heap.size ≤ k ∧ k < w11.heap.size) k) := fun k e => Or.inr e
      generalize (fun k => Old w1.heap.size k ∨ w2.heap.size ≤ k ∧ k < w11.heap.size) = N at *
      have HMB11 := (show Hid _ from hMb11)
      have HFC := (show Hid _ from hfc11)
      have HSC := (show Hid _ from hsc11)
      have HB11 := (show Hid _ from hB11)
      have HO0 : Hid (∀ wr, Kp w1 w2 w11 wr → wr.cell? ⟨w10.heap.size, 0, none⟩ = some (.int .i64 1) ∧ wr.cell? ⟨w10.heap.size, 1, none⟩ = some (.string SM) ∧ wr.cell? ⟨w10.heap.size, 3, none⟩ = some (.int .i64 (stepsOf Ps)) ∧ wr.cell? ⟨w10.heap.size, 4, none⟩ = some (.slice sa (shownOf Ps).length sc)) := fun wr hk => by
        have hn : ¬ (w1.heap.size ≤ w10.heap.size ∧ w10.heap.size < w2.heap.size) := by omega
        exact ⟨hk.cell hn (cell_of_at hat11 0), hk.cell hn (cell_of_at hat11 1), hk.cell hn (cell_of_at hat11 3), hk.cell hn (cell_of_at hat11 4)⟩
      have hst := HOK.out.steps
      have hsw := HOK.out.shown
      clear hMb11 hk211 hk911 hfc11 hsc11 hB11 hat11 hsc hse HSH10 HNO10 HFC9 HRA
      go_upto_region 26 with fail
      go_loopg [17, 18, 19, 20] Ps.length (fun gk v17 v18 v19 v20 wr => ∃ i, Sp2 W w1 w2 w11 N obb Ps gk v17 v18 v19 v20 wr i)
      case atStart => exact ⟨0, by omega, rfl, rfl, rfl, rfl, ⟨gb, HMB11.out⟩, ⟨Nat.le_refl _, fun _ _ _ => rfl⟩, HB11.out⟩
      case round =>
        obtain ⟨i, hG2⟩ := hrel
        obtain rfl := hG2.stp
        obtain rfl := hG2.shn
        obtain rfl := hG2.txt
        obtain rfl := hG2.idx
        have HG2 := (show Hid _ from hG2)
        obtain ⟨o0, o1, o3, o4⟩ := HO0.out _ hG2.kp
        clear hG2
        cases gk with
        | zero =>
          obtain rfl : i = Ps.length := by have := HG2.out.sum; omega
          have hBr : Below W.heap.size W _ := HG2.out.below
          rw [List.take_length, HOK.out.out []]
          rw [HSM.out]
          have k1 : ¬ (Ps.length : Int) < (Ps.length : Int) := by omega
          have HBR := (show Hid _ from hBr)
          clear hBr
          go_wp2_with (first | (go_at_call 16; refine (HIM.out _ HBR.out).mono ?_; rintro e20 w20 ⟨rfl, hb20⟩; have z3 := (Kept.of_below hb20 (fun _ => False)).cell id o3; have z4 := (Kept.of_below hb20 (fun _ => False)).cell id o4; have HB20 : Hid (Below W.heap.size W w20) := HBR.out.trans (hb20.mono HBR.out.size); clear hb20))
          go_ret
          exact ⟨rfl, HB20.out⟩
        | succ k2 =>
          have hil : i < Ps.length := by have := HG2.out.sum; omega
          obtain ⟨q1, q2, q3, q4⟩ := HOK.out.each Ps[i] (List.getElem_mem hil)
          obtain ⟨g2, hM2⟩ := HG2.out.mach
          have hBr : Below W.heap.size W _ := HG2.out.below
          have hkp : Kp w1 w2 w11 _ := HG2.out.kp
          have hw1r : w1.heap.size ≤ _ := Nat.le_trans (Nat.le_trans HB2.out.size (by omega : w2.heap.size ≤ w11.heap.size)) hkp.1
          have htw1 : tabBlock < w1.heap.size := Nat.lt_of_lt_of_le HTL.out HB1.out.size
          have HPR := piece_run hM2 hw1r htw1 (HT.out _ hBr) q1 (Chain.at_ HOK.out.chain i hil) (by omega) q2
          obtain ⟨gf, hfa, hgf, hcf⟩ := HFC.out i hil
          have hcr := hkp.cell (p := ⟨gf, i, none⟩) (by simp only; omega) hcf
          have e17 := stepsOf_snoc Ps i hil
          have e18 := shownOf_snoc Ps i hil
          have e19 := outOf_snoc' Ps [] i hil
          have e20 := gOf_snoc Ps G0 i hil
          have hsat := fun j hj => shown_at Ps i j hil hj
          have hAft : Calls Tryz.prog 13 #[.pointer (some ⟨obb, 0, none⟩), .string ⟨Ps[i].txt.toArray⟩] wr fun e w12 => ∃ sa3 sc3, e = .returned (.tuple #[.agg #[.int .i64 1, .string ⟨Ps[i].out.toArray⟩, .int .i64 0, .int .i64 Ps[i].k, .slice sa3 Ps[i].sh.length sc3], .bool true]) ∧ ∀ cells, (∃ g, Mach N w1.heap.size obb Ps[i].G' (w12.alloc (.cells cells 34)) g) ∧ Kp w1 w2 w11 (w12.alloc (.cells cells 34)) ∧ Below W.heap.size W (w12.alloc (.cells cells 34)) ∧ ∀ j (hj : j < Ps[i].sh.length), ∃ g, sa3 = some ⟨g, 0, none⟩ ∧ (w12.alloc (.cells cells 34)).cell? ⟨g, j, none⟩ = some (.string ⟨Ps[i].sh[j].toArray⟩) := by
            refine HPR.mono ?_
            rintro e w12 ⟨g3, sa3, sn3, sc3, rfl, m1, m2, m3, m4⟩
            obtain ⟨sa4, sc4, he4, hc4⟩ := shown_cells m4
            injection he4 with h1 h2 h3
            subst h1
            subst h2
            subst h3
            refine ⟨sa3, sc3, rfl, fun cells => ⟨⟨g3, m1.alloc _⟩, (hkp.run hM2 HN2.out m3).below ((Below.refl _ w12).alloc (Nat.le_refl _) _), ?_, fun j hj => ?_⟩⟩
            · have hbb : Below W.heap.size wr w12 := m2.mono HB1.out.size
              exact (hBr.trans hbb).alloc (hBr.trans hbb).size _
            · obtain ⟨g, e1, e2, e3⟩ := hc4 j hj
              exact ⟨g, e1, ((Kept.refl (fun _ => False) w12).alloc (.cells cells 34)).cellA id e3⟩
          have HAFT : Hid (Calls Tryz.prog 13 #[.pointer (some ⟨obb, 0, none⟩), .string ⟨Ps[i].txt.toArray⟩] wr fun e w12 => ∃ sa3 sc3, e = .returned (.tuple #[.agg #[.int .i64 1, .string ⟨Ps[i].out.toArray⟩, .int .i64 0, .int .i64 Ps[i].k, .slice sa3 Ps[i].sh.length sc3], .bool true]) ∧ ∀ cells, (∃ g, Mach N w1.heap.size obb Ps[i].G' (w12.alloc (.cells cells 34)) g) ∧ Kp w1 w2 w11 (w12.alloc (.cells cells 34)) ∧ Below W.heap.size W (w12.alloc (.cells cells 34)) ∧ ∀ j (hj : j < Ps[i].sh.length), ∃ g, sa3 = some ⟨g, 0, none⟩ ∧ (w12.alloc (.cells cells 34)).cell? ⟨g, j, none⟩ = some (.string ⟨Ps[i].sh[j].toArray⟩)) := hAft
          have hRR : ∀ w, (∃ g, Mach N w1.heap.size obb Ps[i].G' w g) → Kp w1 w2 w11 w → Below W.heap.size W w → ∃ i', Sp2 W w1 w2 w11 N obb Ps k2 (.int .i64 ((stepsOf (Ps.take i) : Int) + (Ps[i].k : Int))) (.int .i64 (((shownOf (Ps.take i)).length + Ps[i].sh.length : Nat) : Int)) (.string ⟨Ps[i].out.toArray⟩) (.int .i64 ((i : Int) + 1)) w i' := fun w m1 m2 m3 => by
            refine ⟨i + 1, by have := HG2.out.sum; omega, ?_, ?_, ?_, by simp, ?_, m2, m3⟩
            · rw [e17]; simp
            · rw [e18]; simp
            · rw [e19]
            · rw [e20]; exact m1
          have hlen2 : (shownOf (Ps.take i)).length + Ps[i].sh.length ≤ (shownOf Ps).length := by
            have := shownOf_split Ps (i + 1)
            rw [this, e18]
            simp only [List.length_append]
            omega
          have hst2 : stepsOf (Ps.take i) + Ps[i].k ≤ 1000 := by
            have h1 : stepsOf Ps = stepsOf (Ps.take (i + 1)) + stepsOf (Ps.drop (i + 1)) := by
              unfold stepsOf
              rw [← List.sum_append, ← List.map_append, List.take_append_drop]
            omega
          have HRR := (show Hid _ from hRR)
          have HSAT : Hid (∀ j (hj : j < Ps[i].sh.length), ∃ g, sa = some ⟨g, 0, none⟩ ∧ ¬ (w1.heap.size ≤ g ∧ g < w2.heap.size) ∧ w11.cell? ⟨g, (shownOf (Ps.take i)).length + j, none⟩ = some (.string ⟨Ps[i].sh[j].toArray⟩)) := fun j hj => by
            obtain ⟨g, e1, e2, e3⟩ := HSC.out ((shownOf (Ps.take i)).length + j) (by omega)
            refine ⟨g, e1, e2, ?_⟩
            have e4 := hsat j hj
            rw [List.getElem?_eq_getElem (by omega)] at e4
            rw [e3, Option.some.inj e4]
          subst hfa
          generalize (⟨Ps[i].out.toArray⟩ : ByteArray) = SP at *
          generalize (⟨Ps[i].txt.toArray⟩ : ByteArray) = ST at *
          generalize Ps[i].sh = sh at *
          generalize Ps[i].k = pk at *
          generalize stepsOf (Ps.take i) = st at *
          generalize (shownOf (Ps.take i)).length = b0 at *
          have k1 : (i : Int) < (Ps.length : Int) := by omega
          have k2' : (0 : Int) ≤ (i : Int) := by omega
          have k3 : -9223372036854775808 ≤ (i : Int) + 1 := by omega
          have k4 : (i : Int) + 1 ≤ 9223372036854775807 := by omega
          have k5 : -9223372036854775808 ≤ (st : Int) + (pk : Int) := by omega
          have k6 : (st : Int) + (pk : Int) ≤ 9223372036854775807 := by omega
          clear hAft hRR HPR hM2 hkp hBr hw1r htw1 hcf e17 e18 e19 e20 hsat q1 q2 q3
          go_upto_region 29 with (first | (go_at_call 13; refine HAFT.out.mono ?_; rintro e12 w12 ⟨sa3, sc3, rfl, haft⟩; have HAF := (show Hid _ from haft); clear haft))
          obtain ⟨hm13, hkp13, hb13, hsh13⟩ := HAF.out #[.int .i64 1, .string SP, .int .i64 0, .int .i64 pk, .slice sa3 sh.length sc3]
          have hat13 := at_new w12 (.cells #[.int .i64 1, .string SP, .int .i64 0, .int .i64 pk, .slice sa3 sh.length sc3] 34)
          generalize w12.alloc (.cells #[.int .i64 1, .string SP, .int .i64 0, .int .i64 pk, .slice sa3 sh.length sc3] 34) = w13 at *
          have HM13 := (show Hid _ from hm13)
          have HKP13 : Hid (Kp w1 w2 w11 w13) := hkp13
          have HB13 : Hid (Below W.heap.size W w13) := hb13
          have HSH13 := (show Hid _ from hsh13)
          have HAT13 := (show Hid _ from hat13)
          have p0 : w13.cell? ⟨w12.heap.size, 0, none⟩ = some (.int .i64 1) := cell_of_at hat13 0
          have HCELL : Hid (∀ w, Below w13.heap.size w13 w → w.cell? ⟨w12.heap.size, 1, none⟩ = some (.string SP) ∧ w.cell? ⟨w12.heap.size, 3, none⟩ = some (.int .i64 pk) ∧ w.cell? ⟨w12.heap.size, 4, none⟩ = some (.slice sa3 sh.length sc3) ∧ w.cell? ⟨w10.heap.size, 4, none⟩ = some (.slice sa (shownOf Ps).length sc)) := fun w hb => ⟨cell_of_at (Below.at hb HAT13.out) 1, cell_of_at (Below.at hb HAT13.out) 3, cell_of_at (Below.at hb HAT13.out) 4, (HO0.out w (HKP13.out.below hb)).2.2.2⟩
          clear hm13 hkp13 hb13 hsh13 hat13 HAF HAFT o0 o1 o3 o4
          go_upto_region 32 with fail
          go_loopg [18, 23] sh.length (fun gk v18 v23 w => ∃ j q : Nat, j + gk = sh.length ∧ q = b0 + j ∧ v18 = .int .i64 (q : Nat) ∧ v23 = .int .i64 (j : Nat) ∧ Below w13.heap.size w13 w)
          case atStart => exact ⟨0, b0, by omega, by omega, rfl, rfl, Below.refl _ _⟩
          case round =>
            obtain ⟨j, q, hj, hq, rfl, rfl, hbj⟩ := hrel
            obtain ⟨x1, x3, x4, x5⟩ := HCELL.out _ hbj
            have HBJ := (show Hid _ from hbj)
            clear hbj
            cases gk with
            | zero =>
              obtain rfl : j = sh.length := by omega
              have HQ := (show Hid _ from hq)
              clear hq
              have t1 : ¬ (sh.length : Int) < (sh.length : Int) := by omega
              have HFIN : Hid (∀ w, Below w13.heap.size w13 w → ∃ i', Sp2 W w1 w2 w11 N obb Ps k2 (.int .i64 ((st : Int) + (pk : Int))) (.int .i64 (q : Nat)) (.string SP) (.int .i64 ((i : Int) + 1)) w i') := fun w hb => by
                rw [HQ.out]
                exact HRR.out w (by obtain ⟨g, hg⟩ := HM13.out; exact ⟨g, hg.below hb⟩) (HKP13.out.below hb) (HB13.out.trans (hb.mono HB13.out.size))
              go_wp2
              go_roundg k2
              case measure => omega
              case rel => exact HFIN.out _ HBJ.out
            | succ k3' =>
              have hjl : j < sh.length := by omega
              obtain ⟨g1, hsa, hg1, hc1⟩ := HSAT.out j hjl
              obtain ⟨g3, hsa3, hc3⟩ := HSH13.out j hjl
              rw [← hq] at hc1
              have y1 := (HKP13.out.below HBJ.out).cell (p := ⟨g1, q, none⟩) hg1 hc1
              have y3 := (Kept.of_below HBJ.out (fun _ => False)).cell id hc3
              subst hsa
              subst hsa3
              have HJ := (show Hid _ from hj)
              have hbl : q < (shownOf Ps).length := by omega
              have hbl2 : (shownOf Ps).length ≤ 10 := hsw
              generalize (⟨sh[j].toArray⟩ : ByteArray) = SJ at *
              have t1 : (j : Int) < (sh.length : Int) := by omega
              have t2 : ¬ ((shownOf Ps).length : Int) ≤ (q : Int) := by omega
              have t3 : (0 : Int) ≤ (q : Int) := by omega
              have t4 : (q : Int) < ((shownOf Ps).length : Int) := by omega
              have t5 : (0 : Int) ≤ (j : Int) := by omega
              have t6 : decide ((shownOf Ps).length ≤ q) = false := decide_eq_false (by omega)
              have t7 : -9223372036854775808 ≤ (q : Int) + 1 := by omega
              have t8 : (q : Int) + 1 ≤ 9223372036854775807 := by omega
              have t9 : -9223372036854775808 ≤ (j : Int) + 1 := by omega
              have t10 : (j : Int) + 1 ≤ 9223372036854775807 := by omega
              have HQ := (show Hid _ from hq)
              clear hc1 hc3 hj hq
              go_upto_region 34 with fail
              go_region
              go_wp2
              go_roundg k3'
              case measure => omega
              case rel => exact ⟨j + 1, q + 1, by have := HJ.out; omega, by have := HQ.out; omega, by simp, by simp, HBJ.out.drew⟩
    | succ k =>
      obtain ⟨s, p, r1, c, r2, hq1, hq2, hq3⟩ := mkForms_next k n (rs.drop i)
      obtain ⟨L, l0, l1, l2, l3⟩ := HG.out.lim
      have hp1 : (1 : Int) ≤ 2 ^ k := by
        have := Int.pow_pos (n := 2) (m := k) (by decide)
        omega
      have hpw : L * 2 ^ (k + 1) = 2 * L * 2 ^ k := by rw [Int.pow_succ, Int.mul_comm (2 ^ k) 2, ← Int.mul_assoc, Int.mul_comm L 2]
      have hLL : 2 * L ≤ 3200 := by
        have := Int.mul_le_mul_of_nonneg_left hp1 (show (0 : Int) ≤ 2 * L by omega)
        omega
      have hplim : -(2 * L) ≤ p ∧ p ≤ 2 * L ∧ s.length ≤ 38 := by
        obtain ⟨F, q, _, _, _, j4, j5, j6⟩ := Rd.mkSum_big (L := L) (Rd.GX_has n) (Rd.GX_x n) l0 l1 l2 (by omega) 1 (rs.drop i) (by omega)
        rw [hq1] at j4 j5 j6
        simp only [show (2 : Int) ^ 1 = 2 from rfl, show 2 ^ 1 = 2 from rfl] at j4 j5 j6
        omega
      have HS15 := HSUM.out n L i s p r1 wr l0 l1 l2 (by omega) HG.out.mkr HG.out.below hq1
      have hfew := HG.out.few
      have hT8 := HBIG.out done ⟨_, HG.out.sum⟩ (by omega)
      have zT := sz (Rd.defT (r : Int) ++ joinL done)
      have zs := sz s
      have HQ2 : Hid (Rd.nextN 3 r1 = (c, r2)) := hq2
      have hdl : done.length ≤ 5 := by omega
      have h1k : ((k + 1 : Nat) : Int) - 1 = (k : Nat) := by omega
      have hk0 : (0 : Int) < ((k + 1 : Nat) : Int) := by omega
      have hk1 : -9223372036854775808 ≤ ((k : Nat) : Int) := by omega
      have hk2 : ((k : Nat) : Int) ≤ 9223372036854775807 := by omega
      obtain ⟨hpl0, hpl1, hsl⟩ := id hplim
      have HSB : Hid ((⟨s.toArray⟩ : ByteArray) = ⟨s.toArray⟩) := rfl
      have HT8 : Hid ((⟨(Rd.defT (r : Int) ++ joinL done).toArray⟩ : ByteArray) = ⟨(Rd.defT (r : Int) ++ joinL done).toArray⟩) := rfl
      generalize hSg : (⟨s.toArray⟩ : ByteArray) = S at *
      generalize hTg : (⟨(Rd.defT (r : Int) ++ joinL done).toArray⟩ : ByteArray) = T8 at *
      have HS15' : Hid (Calls Tryz.prog 15 #[.pointer (some ⟨w2.heap.size, 0, none⟩), .int .i64 1, .int .i64 n] wr fun e w' => e = .returned (.tuple #[.string S, .int .i64 p]) ∧ ∃ i', MkAt rs ao cap w2.heap.size i' w' ∧ rs.drop i' = r1 ∧ Kept (· = w2.heap.size) wr w') := HS15
      clear HS15 HSB HT8
      have HS15 : Hid (Calls Tryz.prog 15 #[.pointer (some ⟨w2.heap.size, 0, none⟩), .int .i64 1, .int .i64 n] wr fun e w' => e = .returned (.tuple #[.string S, .int .i64 p]) ∧ ∃ i', MkAt rs ao cap w2.heap.size i' w' ∧ rs.drop i' = r1 ∧ Kept (· = w2.heap.size) wr w') := HS15'.out
      have HSB : Hid ((⟨s.toArray⟩ : ByteArray) = S) := hSg
      have HT8 : Hid ((⟨(Rd.defT (r : Int) ++ joinL done).toArray⟩ : ByteArray) = T8) := hTg
      clear HS15' hSg hTg
      have hS38 : S.size ≤ 38 := by omega
      have hT400 : T8.size ≤ 400 := by omega
      have s1' : ¬ 9223372036854775807 < 9 + S.size := by omega
      have s2' : ¬ 9223372036854775807 < 9 + S.size + 1 := by omega
      have s3 : ¬ 9223372036854775807 < 8 + S.size := by omega
      have s4 : ¬ 9223372036854775807 < 8 + S.size + 1 := by omega
      have s5 : ¬ 9223372036854775807 < T8.size + 1 := by omega
      generalize ((k + 1 : Nat) : Int) = K1 at *
      clear hq1 hq2 hfew zT zs
      cases c with
      | zero =>
        rw [if_pos rfl] at hq3
        have HFORM : Hid (mkForms (k + 1) n (rs.drop i) = (Rd.setT s :: (mkForms k p r2).1, (mkForms k p r2).2)) := hq3
        have HFB : Hid ((⟨(Rd.setT s).toArray⟩ : ByteArray) = ⟨#[40, 115, 101, 116, 33, 32, 120, 32]⟩ ++ S ++ ⟨#[41]⟩) := by
          have := setT_bytes s
          rw [HSB.out] at this
          exact this
        have HNX : Hid (∀ (i8 : Nat) (w9 : World) (v9' : Value), rs.drop i8 = r2 → w9.ownsRow (w2.heap.size + 1) 9 1 v9' (done.length + 1 + 1) ((Rd.defT (r : Int) :: done).map strV ++ [.string (⟨#[40, 115, 101, 116, 33, 32, 120, 32]⟩ ++ S ++ ⟨#[41]⟩)]) → MkAt rs ao cap w2.heap.size i8 w9 → Below w2.heap.size w2 w9 → ∃ i' d' n', SplG rs ao cap w2 (r : Int) texts m kk k (.string (T8 ++ ⟨#[32]⟩ ++ (⟨#[40, 115, 101, 116, 33, 32, 120, 32]⟩ ++ S ++ ⟨#[41]⟩))) v9' (.int .i64 p) (.int .i64 (k : Nat)) w9 i' d' n') := fun i8 w9 v9' e2 e3 e4 e5 => by
          rw [← HFB.out] at e3 ⊢
          rw [← HT8.out]
          exact ⟨i8, done ++ [Rd.setT s], p, HG.out.next HFORM.out e2 e3 e4 e5 ⟨2 * L, by omega, by omega, by omega, by rw [← hpw]; exact l3⟩⟩
        have s6 : ¬ 9223372036854775807 < T8.size + 1 + (8 + S.size + 1) := by omega
        have hc0 : ((0 : Nat) : Int) = 0 := rfl
        clear hq3 hpw hp1 hLL l0 l1 l2 l3 hplim
        go_upto_region 14 with (first | (go_at_call 15; refine HS15.out.mono ?_; rintro e7 w7 ⟨rfl, i7, hM7, hd7, hk7⟩; have HM7 := (show Hid _ from hM7); have HD7 : Hid (rs.drop i7 = r1) := hd7; have HK7 : Hid (Kept (· = w2.heap.size) wr w7) := hk7; clear hM7 hd7 hk7))
        go_upto_region 17 with (first | (go_at_call 18; refine (HN3.out _ _ _ _ _ HM7.out HD7.out HQ2.out).mono ?_; rintro e8 w8 ⟨rfl, i8, hM8, hd8, hk8⟩; have HM8 := (show Hid _ from hM8); have HD8 : Hid (rs.drop i8 = r2) := hd8; have HK8 : Hid (Kept (· = w2.heap.size) wr w8) := HK7.out.trans hk8; clear hM8 hd8 hk8))
        have HO8 : Hid (w8.ownsRow (w2.heap.size + 1) 9 1 (.slice la ln lc) (done.length + 1) ((Rd.defT (r : Int) :: done).map strV)) := own_kept HG.out.own HK8.out (fun k h e => by omega)
        have HB8 : Hid (Below w2.heap.size w2 w8) := HG.out.below.trans (HK8.out.below HG.out.below.size (fun k e => by omega))
        have hs8 : w2.heap.size < w8.heap.size := (by obtain ⟨T, hb⟩ := HM8.out.blk; exact lt_of_at hb)
        have HFIN : Hid (∀ cells w9 v9, w9.ownsRow (w2.heap.size + 1) 9 1 v9 (done.length + 1 + 1) ((Rd.defT (r : Int) :: done).map strV ++ [.string (⟨#[40, 115, 101, 116, 33, 32, 120, 32]⟩ ++ S ++ ⟨#[41]⟩)]) → (w8.alloc (.cells cells 9)).grownBy w9 (Value.slice la ln lc).ownBlock → ∃ i' d' n', SplG rs ao cap w2 (r : Int) texts m kk k (.string (T8 ++ ⟨#[32]⟩ ++ (⟨#[40, 115, 101, 116, 33, 32, 120, 32]⟩ ++ S ++ ⟨#[41]⟩))) v9 (.int .i64 p) (.int .i64 (k : Nat)) w9 i' d' n') := fun cells w9 v9 ho hg => by
          have hb9 := own_grown (HO8.out.alloc (.cells cells 9)) (by simp; omega) hg
          have hk9 : Kept (fun k => w2.heap.size < k) w8 w9 := ⟨hb9.os, hb9.tape, hb9.output, by have := hb9.size; simp at this; omega, fun k hk hm => (hb9.block k (by omega)).trans (Below.heap_alloc _ _ _ hk)⟩
          exact HNX.out i8 w9 v9 HD8.out ho (HM8.out.kept2 hk9 (Nat.lt_irrefl _) (fun a h0 e => by have := HAB.out a h0 e; have := HBW2.out.size; omega)) (HB8.out.trans ⟨hk9.os, hk9.tape, hk9.output, hk9.size, fun j hj => hk9.block j (by omega) (by omega)⟩)
        have HO8A : Hid (∀ cells, (w8.alloc (.cells cells 9)).ownsRow (w2.heap.size + 1) 9 1 (.slice la ln lc) (done.length + 1) ((Rd.defT (r : Int) :: done).map strV)) := fun cells => HO8.out.alloc _
        go_wp2_with (at_builtin; refine wpList_append_own_at _ rfl _ _ 32 rfl (w2.heap.size + 1) 9 i0 (.string ⟨#[]⟩) 1 16 Tryz.underlying32 hi hz0 hz1 hz2 rfl (by decide) (.slice la ln lc) (done.length + 1) ((Rd.defT (r : Int) :: done).map strV) rfl ?h1 ⟨w8.heap.size, 0, none⟩ 1 1 [.string (⟨#[40, 115, 101, 116, 33, 32, 120, 32]⟩ ++ S ++ ⟨#[41]⟩)] rfl rfl ?h2 ?h3 ?h4 ?h5 ?h6 ?_)
        case h1 => exact HO8A.out _
        case h4 => unfold maxLen; omega
        case h5 => omega
        case h6 => first | omega | (simp; omega)
        case h3 => first | rfl | (intro u hu; simp at hu; subst hu; rfl)
        case h2 => first | done | exact cell_one_new _ _ _
        intro v9 w9 ho9 hg9 _ _
        have HL9 := (show Hid _ from HFIN.out _ _ _ ho9 hg9)
        obtain ⟨a9, k9, c9, rfl⟩ := owns_slice ho9
        clear ho9 hg9
        go_wp2
        go_roundg k
        case measure => omega
        case rel => exact HL9.out
      | succ c =>
        rw [if_neg (by omega)] at hq3
        have HFORM : Hid (mkForms (k + 1) n (rs.drop i) = (Rd.dispT s :: (mkForms k n r2).1, (mkForms k n r2).2)) := hq3
        have HFB : Hid ((⟨(Rd.dispT s).toArray⟩ : ByteArray) = ⟨#[40, 100, 105, 115, 112, 108, 97, 121, 32]⟩ ++ S ++ ⟨#[41]⟩) := by
          have := dispT_bytes s
          rw [HSB.out] at this
          exact this
        have HNX : Hid (∀ (i8 : Nat) (w9 : World) (v9' : Value), rs.drop i8 = r2 → w9.ownsRow (w2.heap.size + 1) 9 1 v9' (done.length + 1 + 1) ((Rd.defT (r : Int) :: done).map strV ++ [.string (⟨#[40, 100, 105, 115, 112, 108, 97, 121, 32]⟩ ++ S ++ ⟨#[41]⟩)]) → MkAt rs ao cap w2.heap.size i8 w9 → Below w2.heap.size w2 w9 → ∃ i' d' n', SplG rs ao cap w2 (r : Int) texts m kk k (.string (T8 ++ ⟨#[32]⟩ ++ (⟨#[40, 100, 105, 115, 112, 108, 97, 121, 32]⟩ ++ S ++ ⟨#[41]⟩))) v9' (.int .i64 n) (.int .i64 (k : Nat)) w9 i' d' n') := fun i8 w9 v9' e2 e3 e4 e5 => by
          rw [← HFB.out] at e3 ⊢
          rw [← HT8.out]
          exact ⟨i8, done ++ [Rd.dispT s], n, HG.out.next HFORM.out e2 e3 e4 e5 ⟨2 * L, by omega, by omega, by omega, by rw [← hpw]; exact l3⟩⟩
        have s6 : ¬ 9223372036854775807 < T8.size + 1 + (9 + S.size + 1) := by omega
        have hc0 : ¬ ((c + 1 : Nat) : Int) = 0 := by omega
        generalize ((c + 1 : Nat) : Int) = cc at *
        clear hq3 hpw hp1 hLL l0 l1 l2 l3 hplim
        go_upto_region 14 with (first | (go_at_call 15; refine HS15.out.mono ?_; rintro e7 w7 ⟨rfl, i7, hM7, hd7, hk7⟩; have HM7 := (show Hid _ from hM7); have HD7 : Hid (rs.drop i7 = r1) := hd7; have HK7 : Hid (Kept (· = w2.heap.size) wr w7) := hk7; clear hM7 hd7 hk7))
        go_upto_region 17 with (first | (go_at_call 18; refine (HN3.out _ _ _ _ _ HM7.out HD7.out HQ2.out).mono ?_; rintro e8 w8 ⟨rfl, i8, hM8, hd8, hk8⟩; have HM8 := (show Hid _ from hM8); have HD8 : Hid (rs.drop i8 = r2) := hd8; have HK8 : Hid (Kept (· = w2.heap.size) wr w8) := HK7.out.trans hk8; clear hM8 hd8 hk8))
        have HO8 : Hid (w8.ownsRow (w2.heap.size + 1) 9 1 (.slice la ln lc) (done.length + 1) ((Rd.defT (r : Int) :: done).map strV)) := own_kept HG.out.own HK8.out (fun k h e => by omega)
        have HB8 : Hid (Below w2.heap.size w2 w8) := HG.out.below.trans (HK8.out.below HG.out.below.size (fun k e => by omega))
        have hs8 : w2.heap.size < w8.heap.size := (by obtain ⟨T, hb⟩ := HM8.out.blk; exact lt_of_at hb)
        have HFIN : Hid (∀ cells w9 v9, w9.ownsRow (w2.heap.size + 1) 9 1 v9 (done.length + 1 + 1) ((Rd.defT (r : Int) :: done).map strV ++ [.string (⟨#[40, 100, 105, 115, 112, 108, 97, 121, 32]⟩ ++ S ++ ⟨#[41]⟩)]) → (w8.alloc (.cells cells 9)).grownBy w9 (Value.slice la ln lc).ownBlock → ∃ i' d' n', SplG rs ao cap w2 (r : Int) texts m kk k (.string (T8 ++ ⟨#[32]⟩ ++ (⟨#[40, 100, 105, 115, 112, 108, 97, 121, 32]⟩ ++ S ++ ⟨#[41]⟩))) v9 (.int .i64 n) (.int .i64 (k : Nat)) w9 i' d' n') := fun cells w9 v9 ho hg => by
          have hb9 := own_grown (HO8.out.alloc (.cells cells 9)) (by simp; omega) hg
          have hk9 : Kept (fun k => w2.heap.size < k) w8 w9 := ⟨hb9.os, hb9.tape, hb9.output, by have := hb9.size; simp at this; omega, fun k hk hm => (hb9.block k (by omega)).trans (Below.heap_alloc _ _ _ hk)⟩
          exact HNX.out i8 w9 v9 HD8.out ho (HM8.out.kept2 hk9 (Nat.lt_irrefl _) (fun a h0 e => by have := HAB.out a h0 e; have := HBW2.out.size; omega)) (HB8.out.trans ⟨hk9.os, hk9.tape, hk9.output, hk9.size, fun j hj => hk9.block j (by omega) (by omega)⟩)
        have HO8A : Hid (∀ cells, (w8.alloc (.cells cells 9)).ownsRow (w2.heap.size + 1) 9 1 (.slice la ln lc) (done.length + 1) ((Rd.defT (r : Int) :: done).map strV)) := fun cells => HO8.out.alloc _
        go_wp2_with (at_builtin; refine wpList_append_own_at _ rfl _ _ 32 rfl (w2.heap.size + 1) 9 i0 (.string ⟨#[]⟩) 1 16 Tryz.underlying32 hi hz0 hz1 hz2 rfl (by decide) (.slice la ln lc) (done.length + 1) ((Rd.defT (r : Int) :: done).map strV) rfl ?h1 ⟨w8.heap.size, 0, none⟩ 1 1 [.string (⟨#[40, 100, 105, 115, 112, 108, 97, 121, 32]⟩ ++ S ++ ⟨#[41]⟩)] rfl rfl ?h2 ?h3 ?h4 ?h5 ?h6 ?_)
        case h1 => exact HO8A.out _
        case h4 => unfold maxLen; omega
        case h5 => omega
        case h6 => first | omega | (simp; omega)
        case h3 => first | rfl | (intro u hu; simp at hu; subst hu; rfl)
        case h2 => first | done | exact cell_one_new _ _ _
        intro v9 w9 ho9 hg9 _ _
        have HL9 := (show Hid _ from HFIN.out _ _ _ ho9 hg9)
        obtain ⟨a9, k9, c9, rfl⟩ := owns_slice ho9
        clear ho9 hg9
        go_wp2
        go_roundg k
        case measure => omega
        case rel => exact HL9.out
end Go.Proofs.YtodeeegbajgafaaGreatDoor
