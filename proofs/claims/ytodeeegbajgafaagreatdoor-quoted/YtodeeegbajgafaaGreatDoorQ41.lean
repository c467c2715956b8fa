/- rondokeep's fresh. What Listed calls: pick, Itoa; texts laid together. The maker: raw numbers are used up one by one. Sources that are forms out of raw numbers: which forms they are, and what these come to. The maker's sum: a form out of raw numbers, and what it comes to. A machine beside other memory; sources that come to values. The walk of Sums. -/
import Derived.Test.YtodeeegbajgafaaGreatDoorQ40
import Derived.Test.YtodeeegbajgafaaGreatDoorQ28
import Derived.Test.YtodeeegbajgafaaGreatDoorQ01
import Derived.Deep.Cut
namespace Go.Proofs.YtodeeegbajgafaaGreatDoor
open Go.RowKit
open Mc

theorem itoa11 : Lib.itoa 11 = [49, 49] := by
  rw [show (11 : Int) = ((11 : Nat) : Int) from rfl, Lib.itoa_nonneg, Lib.decDigits_two (by omega) (by omega)]
  rfl
/-- What is there at the start is not written. -/
def Old (B : Nat) (k : Nat) : Prop := k < B ∧ k ≠ tabBlock

theorem out1 (sh : Value) : outcome st1 (Lib.itoa 11) sh = .agg #[.int .i64 1, .string ⟨#[49, 49]⟩, .int .i64 0, .int .i64 st1.steps, sh] := by
  unfold outcome
  rw [if_pos st1_ctl.2, itoa11]
theorem out2 (sh : Value) : outcome st2 [] sh = .agg #[.int .i64 2, .string ⟨#[]⟩, .int .i64 2, .int .i64 st2.steps, sh] := by
  unfold outcome
  rw [if_neg (by rw [st2_kind.1]; decide), st2_kind.1, st2_kind.2]
  rfl

/-- The two runs of fresh. -/
theorem fresh_run1 (N : Nat → Prop) (B ob : Nat) (g : Gh) (w : World) (hM : Mach N B ob G0 w g) (hBw : B ≤ w.heap.size) (hNt : tabBlock < B) (htab : TabOk w) :
    Calls Tryz.prog 13 #[ptrV ob, .string ⟨src1.toArray⟩] w fun e w' => ∃ g' sa sn sc, e = .returned (.tuple #[.agg #[.int .i64 1, .string ⟨#[49, 49]⟩, .int .i64 0, .int .i64 st1.steps, .slice sa sn sc], .bool true]) ∧ Mach N B ob st1.G w' g' ∧ Below B w w' := by
  refine (run13 shN callN N B ob G0 g src1 (fsOf src1) st1 (Lib.itoa 11) w hM hBw hNt htab (Forms.of isSrc1) (endsAt_ends ends1) src_ne.1 (fun _ v hv => ?_)).mono ?_
  · rw [st1_ctl.1] at hv
    cases hv
    exact ShowsAs.num (by omega) (by omega) (by rw [itoa11]; simp)
  · rintro e w' ⟨g', sa, sn, sc, rfl, h1, h2, h3⟩
    exact ⟨g', sa, sn, sc, by rw [out1], h1, h2.below hBw hM.high⟩
theorem fresh_run2 (N : Nat → Prop) (B ob : Nat) (g : Gh) (w : World) (hM : Mach N B ob st1.G w g) (hBw : B ≤ w.heap.size) (hNt : tabBlock < B) (htab : TabOk w) :
    Calls Tryz.prog 13 #[ptrV ob, .string ⟨src2.toArray⟩] w fun e w' => ∃ sa sn sc, e = .returned (.tuple #[.agg #[.int .i64 2, .string ⟨#[]⟩, .int .i64 2, .int .i64 st2.steps, .slice sa sn sc], .bool true]) ∧ Below B w w' ∧ Kept g.mut w w' := by
  refine (run13 shN callN N B ob st1.G g src2 (fsOf src2) st2 [] w hM hBw hNt htab (Forms.of isSrc2) (endsAt_ends ends2) src_ne.2 (fun hk => ?_)).mono ?_
  · rw [st2_kind.1] at hk
    cases hk
  · rintro e w' ⟨g', sa, sn, sc, rfl, h1, h2, h3⟩
    exact ⟨sa, sn, sc, by rw [out2], h2.below hBw hM.high, h2⟩

set_option maxHeartbeats 8000000 in
set_option maxRecDepth 20000 in
theorem fresh10 (N : Nat → Prop) (w : World) (hN : ∀ k, N k → k < w.heap.size) (hNt : ¬ N tabBlock) (htab : TabOk w) :
    Calls Tryz.prog 10 #[] w fun e w' => ∃ ob g, e = .returned (ptrV ob) ∧ Mach N w.heap.size ob G0 w' g ∧ Below w.heap.size w w' := by
  have H1 : Hid (Calls Tryz.prog 23 #[] w fun e w' => ∃ ob g, e = .returned (.pointer (some ⟨ob, 0, none⟩)) ∧ Mach N w.heap.size ob G0 w' g ∧ Below w.heap.size w w') := new23 N w hN hNt htab
  have H2 : Hid (∀ w1, Below w.heap.size w w1 → Calls Tryz.prog 23 #[] w1 fun e w' => ∃ ob g, e = .returned (.pointer (some ⟨ob, 0, none⟩)) ∧ Mach N w1.heap.size ob G0 w' g ∧ Below w1.heap.size w1 w') := fun w1 hb => new23 N w1 (fun k e => Nat.lt_of_lt_of_le (hN k e) hb.size) hNt (htab.on (hb.block _ htab.lt))
  have tabs : ∀ W, Below w.heap.size w W → TabOk W := fun W hb => htab.on (hb.block _ htab.lt)
  have H3 : Hid (∀ w1 w2 ob g, Below w.heap.size w w1 → Below w1.heap.size w1 w2 → Mach N w1.heap.size ob G0 w2 g → Calls Tryz.prog 13 #[.pointer (some ⟨ob, 0, none⟩), .string ⟨src1.toArray⟩] w2 fun e w' => ∃ g' sa sn sc, e = .returned (.tuple #[.agg #[.int .i64 1, .string ⟨#[49, 49]⟩, .int .i64 0, .int .i64 st1.steps, .slice sa sn sc], .bool true]) ∧ Mach N w1.heap.size ob st1.G w' g' ∧ Below w1.heap.size w1 w') := fun w1 w2 ob g hb1 hb2 hM => (fresh_run1 N w1.heap.size ob g w2 hM hb2.size (Nat.lt_of_lt_of_le htab.lt hb1.size) (tabs _ (hb1.trans (hb2.mono hb1.size)))).mono fun e w' ⟨g', sa, sn, sc, he, h1, h2⟩ => ⟨g', sa, sn, sc, he, h1, hb2.trans h2⟩
  have H4 : Hid (∀ w1 w2 ob g, Below w.heap.size w w1 → Below w1.heap.size w1 w2 → Mach N w1.heap.size ob st1.G w2 g → Calls Tryz.prog 13 #[.pointer (some ⟨ob, 0, none⟩), .string ⟨#[40, 99, 97, 114, 32, 49, 41]⟩] w2 fun e w' => ∃ sa sn sc, e = .returned (.tuple #[.agg #[.int .i64 2, .string ⟨#[]⟩, .int .i64 2, .int .i64 st2.steps, .slice sa sn sc], .bool true]) ∧ Below w1.heap.size w1 w' ∧ Kept g.mut w2 w') := fun w1 w2 ob g hb1 hb2 hM => (fresh_run2 N w1.heap.size ob g w2 hM hb2.size (Nat.lt_of_lt_of_le htab.lt hb1.size) (tabs _ (hb1.trans (hb2.mono hb1.size)))).mono fun e w' ⟨sa, sn, sc, he, h2, h3⟩ => ⟨sa, sn, sc, he, hb2.trans h2, h3⟩
  clear hN tabs htab
  generalize st1.steps = n1 at *
  generalize st2.steps = n2 at *
  go_enter Tryz.func10, Tryz.ntmps10
  go_upto_region 2 with (first | (go_at_call 23; refine H1.out.mono ?_; rintro e1 w1 ⟨ob1, g1, rfl, hM1, hb1⟩; have HM1 := (show Hid _ from hM1); have HB1 := (show Hid _ from hb1); clear hM1 hb1))
  go_upto_region 5 with (first | (go_at_call 23; refine (H2.out _ HB1.out).mono ?_; rintro e2 w2 ⟨ob2, g2, rfl, hM2, hb2⟩; have HM2 := (show Hid _ from hM2); have HB2 := (show Hid _ from hb2); clear hM2 hb2))
  go_upto_region 6 with (first | (go_at_call 13; refine (H3.out _ _ _ _ HB1.out HB2.out HM2.out).mono ?_; rintro e3 w3 ⟨g3, sa3, sn3, sc3, rfl, hM3, hb3⟩; have HM3 : Hid (Mach N w1.heap.size ob2 st1.G (w3.alloc (.cells #[.int .i64 1, .string ⟨#[49, 49]⟩, .int .i64 0, .int .i64 n1, .slice sa3 sn3 sc3] 34)) g3) := hM3.below ((Below.refl _ w3).alloc (Nat.le_refl _) _); have HB3 : Hid (Below w1.heap.size w1 (w3.alloc (.cells #[.int .i64 1, .string ⟨#[49, 49]⟩, .int .i64 0, .int .i64 n1, .slice sa3 sn3 sc3] 34))) := hb3.alloc hb3.size _; have hnm : ¬ g3.mut w3.heap.size := fun e => Nat.lt_irrefl _ (Gh.low hM3.m _ e); clear hM3 hb3))
  have ha3 := at_new w3 (.cells #[.int .i64 1, .string ⟨#[49, 49]⟩, .int .i64 0, .int .i64 n1, .slice sa3 sn3 sc3] 34)
  have HA3 := (show Hid _ from ha3)
  clear ha3
  go_wp2_with (first | (go_at_call 13; refine (H4.out _ _ _ _ HB1.out HB3.out HM3.out).mono ?_; rintro e4 w4 ⟨sa4, sn4, sc4, rfl, hb4, hk4⟩; have hat := hk4.at hnm HA3.out; have hl := lt_of_at hat; have hne : w4.heap.size ≠ w3.heap.size := (by omega); have f0 : w4.cell? ⟨w3.heap.size, 0, none⟩ = some (.int .i64 1) := cell_of_at hat 0; have f1 : w4.cell? ⟨w3.heap.size, 1, none⟩ = some (.string ⟨#[49, 49]⟩) := cell_of_at hat 1; have HB4 := (show Hid _ from hb4); clear hb4 hk4 hat))
  go_ret
  have hbf : Below w1.heap.size w1 (w4.alloc (.cells #[.int .i64 2, .string ⟨#[]⟩, .int .i64 2, .int .i64 n2, .slice sa4 sn4 sc4] 34)) := HB4.out.alloc HB4.out.size _
  exact ⟨ob1, g1, rfl, HM1.out.below hbf, HB1.out.trans (hbf.mono HB1.out.size)⟩
end Go.Proofs.YtodeeegbajgafaaGreatDoor

namespace Go.Proofs.YtodeeegbajgafaaGreatDoor
open Go.RowKit
open Mc

set_option maxHeartbeats 1000000 in
theorem pick14 (c : Int) (n : Nat) (h0 : -9223372036854775808 ≤ c) (h1 : c ≤ 9223372036854775807) (hn : 0 < n) (hn1 : n ≤ 100000) (w : World) : Calls Tryz.prog 14 #[.int .i64 c, .int .i64 n] w fun e w' => e = .returned (.int .i64 (Rd.pickN c n : Nat)) ∧ w' = w := by
  have hlt := Rd.pickN_lt c n hn
  have hn0 : ¬ (n : Int) = 0 := by omega
  by_cases hc : c < 0
  · have hq : (-(c + 1)).tmod (n : Int) = (Rd.pickN c n : Nat) := by
      unfold Rd.pickN
      rw [if_pos hc, Int.tmod_eq_emod_of_nonneg (by omega)]
      have := Int.emod_nonneg (-(c + 1)) (b := (n : Int)) (by omega)
      omega
    have i1 : -9223372036854775808 ≤ c + 1 := by omega
    have i2 : c + 1 ≤ 9223372036854775807 := by omega
    have i3 : -9223372036854775808 ≤ -(c + 1) := by omega
    have i4 : -(c + 1) ≤ 9223372036854775807 := by omega
    have i5 : wrap64 ((Rd.pickN c n : Nat) : Int) = (Rd.pickN c n : Nat) := by unfold wrap64; omega
    generalize Rd.pickN c n = r at *
    go_enter Tryz.func14, Tryz.ntmps14
    go_wp2
    go_ret
    exact ⟨rfl, rfl⟩
  · have hq : c.tmod (n : Int) = (Rd.pickN c n : Nat) := by
      unfold Rd.pickN
      rw [if_neg hc, Int.tmod_eq_emod_of_nonneg (by omega)]
      have := Int.emod_nonneg c (b := (n : Int)) (by omega)
      omega
    have i5 : wrap64 ((Rd.pickN c n : Nat) : Int) = (Rd.pickN c n : Nat) := by unfold wrap64; omega
    generalize Rd.pickN c n = r at *
    go_enter Tryz.func14, Tryz.ntmps14
    go_wp2
    go_ret
    exact ⟨rfl, rfl⟩

theorem below_grow (w : World) (k : Nat) (os : Array Obj) : Below w.heap.size w (Sort.grow (w.drewN k) os) := by
  refine ⟨rfl, rfl, rfl, ?_, fun j hj => ?_⟩
  · show w.heap.size ≤ (w.heap ++ os).size
    simp
  · show (w.heap ++ os)[j]? = w.heap[j]?
    exact Array.getElem?_append_left hj
theorem itoa16 (n : Int) (h0 : -9223372036854775808 ≤ n) (h1 : n ≤ 9223372036854775807) (w : World) (ht : TabOk w) : Calls Tryz.prog 16 #[.int .i64 n] w fun e w' => e = .returned (.string ⟨(Lib.itoa n).toArray⟩) ∧ Below w.heap.size w w' :=
  (Tryz.strconv_Itoa n h0 h1 w ht).mono fun _ _ ⟨he, k, os, hw⟩ => ⟨he, hw ▸ below_grow w k os⟩
theorem cat (a b : List UInt8) : (⟨a.toArray⟩ : ByteArray) ++ ⟨b.toArray⟩ = ⟨(a ++ b).toArray⟩ := by
  apply ByteArray.ext
  simp
theorem sz (a : List UInt8) : (⟨a.toArray⟩ : ByteArray).size = a.length := by show a.toArray.size = _; simp
end Go.Proofs.YtodeeegbajgafaaGreatDoor

namespace Go.Proofs.YtodeeegbajgafaaGreatDoor
open Go.RowKit
open Mc

/-- A maker that has used up i of its numbers. -/
structure MkAt (rs : List Int) (ao : Option Addr) (cap mk i : Nat) (w : World) : Prop where
  blk : ∃ T, w.heap[mk]? = some (.cells #[.slice ao rs.length cap, .int .i64 i] T (0, 0))
  le : i ≤ rs.length
  cells : ∀ j (hj : j < rs.length), ∃ a, ao = some a ∧ a.block ≠ mk ∧ w.cell? (a.add j) = some (.int .i64 rs[j])
  range : ∀ j (hj : j < rs.length), -9223372036854775808 ≤ rs[j] ∧ rs[j] ≤ 9223372036854775807
  small : rs.length ≤ 9223372036854775807
theorem Kept.cellA {M : Nat → Prop} {w w' : World} (h : Kept M w w') {p : Addr} {v : Value} (hp : ¬ M p.block) (hc : w.cell? p = some v) : w'.cell? p = some v := by
  rw [← hc]
  exact World.cell?_of_block (h.block p.block (World.block_lt_of_cell? w p hc) hp)
theorem MkAt.kept {rs : List Int} {ao : Option Addr} {cap mk i : Nat} {w w' : World} (h : MkAt rs ao cap mk i w) {M : Nat → Prop} (hk : Kept M w w') (hm : ¬ M mk) (ha : ∀ a, ao = some a → ¬ M a.block) : MkAt rs ao cap mk i w' := by
  obtain ⟨T, hb⟩ := h.blk
  refine ⟨⟨T, hk.at hm hb⟩, h.le, fun j hj => ?_, h.range, h.small⟩
  obtain ⟨a, e1, e2, e3⟩ := h.cells j hj
  refine ⟨a, e1, e2, hk.cellA ?_ e3⟩
  have : (a.add j).block = a.block := by simp [Addr.add]; split <;> rfl
  rw [this]
  exact ha a e1
def NextR (rs : List Int) (ao : Option Addr) (cap mk i n : Nat) (w : World) : Ending → World → Prop := fun e w' => e = .returned (.int .i64 ((Rd.nextN n (rs.drop i)).1 : Nat)) ∧ ∃ i', MkAt rs ao cap mk i' w' ∧ rs.drop i' = (Rd.nextN n (rs.drop i)).2 ∧ Kept (· = mk) w w'
theorem add_block (a : Addr) (j : Nat) : (a.add j).block = a.block := by simp [Addr.add]; split <;> rfl

set_option maxHeartbeats 4000000 in
set_option maxRecDepth 20000 in
theorem next18 (rs : List Int) (ao : Option Addr) (cap mk i n : Nat) (hn : 0 < n) (hn1 : n ≤ 100000) (w : World) (h : MkAt rs ao cap mk i w) : Calls Tryz.prog 18 #[ptrV mk, .int .i64 n] w (NextR rs ao cap mk i n w) := by
  obtain ⟨T, hb⟩ := h.blk
  obtain ⟨c0, c1, f0, f1⟩ := cells2 hb
  have hsm := h.small
  by_cases hi : i < rs.length
  · obtain ⟨a, rfl, hne, hca⟩ := h.cells i hi
    obtain ⟨zl, zu⟩ := h.range i hi
    have hd : rs.drop i = rs[i] :: rs.drop (i + 1) := List.drop_eq_getElem_cons hi
    have hK : Kept (· = mk) w ((w.setCell ⟨mk, 1, none⟩ (.int .i64 ((i : Int) + 1))).drew.drew) := (((Kept.refl (fun k => k = mk) w).setCell (p := ⟨mk, 1, none⟩) (fun _ => rfl) _).drew).drew
    have hM : MkAt rs (some a) cap mk (i + 1) ((w.setCell ⟨mk, 1, none⟩ (.int .i64 ((i : Int) + 1))).drew.drew) := by
      refine ⟨⟨T, ?_⟩, by omega, fun j hj => ?_, h.range, h.small⟩
      · refine at_drew (at_drew ?_)
        rw [at_setCell hb 1 _]
        simp
      · obtain ⟨a', e1, e2, e3⟩ := h.cells j hj
        cases e1
        exact ⟨a, rfl, hne, hK.cellA (by rw [add_block]; exact hne) e3⟩
    have HF : Hid (NextR rs (some a) cap mk i n w (.returned (.int .i64 (Rd.pickN rs[i] n : Nat))) ((w.setCell ⟨mk, 1, none⟩ (.int .i64 ((i : Int) + 1))).drew.drew)) := by
      unfold NextR
      rw [hd]
      exact ⟨rfl, i + 1, hM, rfl, hK⟩
    have HP : Hid (∀ W, Calls Tryz.prog 14 #[.int .i64 rs[i], .int .i64 n] W fun e w' => e = .returned (.int .i64 (Rd.pickN rs[i] n : Nat)) ∧ w' = W) := fun W => pick14 rs[i] n zl zu hn hn1 W
    generalize rs[i] = z at *
    generalize Rd.pickN z n = r at *
    have i1 : ¬ (rs.length : Int) ≤ (i : Int) := by omega
    have i2 : -9223372036854775808 ≤ (i : Int) + 1 := by omega
    have i3 : (i : Int) + 1 ≤ 9223372036854775807 := by omega
    have i4 : IntKind.i64.wrap (i : Int) = (i : Int) := i64_in _ (by omega) (by omega)
    have i5 : (0 : Int) ≤ (i : Int) := by omega
    have i6 : (i : Int) < (rs.length : Int) := by omega
    have hne2 : (a.add i).block ≠ mk := by rw [add_block]; exact hne
    have hle : decide (rs.length ≤ i) = false := decide_eq_false (by omega)
    have e0 : (w.setCell ⟨mk, 1, none⟩ (.int .i64 ((i : Int) + 1))).cell? ⟨mk, 0, none⟩ = some (.slice (some a) rs.length cap) := by rw [cell_of_at (at_setCell hb 1 _)]; simp
    have e1 : (w.setCell ⟨mk, 1, none⟩ (.int .i64 ((i : Int) + 1))).cell? ⟨mk, 1, none⟩ = some (.int .i64 ((i : Int) + 1)) := by rw [cell_of_at (at_setCell hb 1 _)]; simp
    have e2 : (w.setCell ⟨mk, 1, none⟩ (.int .i64 ((i : Int) + 1))).cell? (a.add i) = some (.int .i64 z) := ((Kept.refl (fun k => k = mk) w).setCell (p := ⟨mk, 1, none⟩) (fun _ => rfl) _).cellA hne2 hca
    clear h hb hM hK hd hi i1
    unfold ptrV
    go_enter Tryz.func18, Tryz.ntmps18
    go_wp2
    go_region
    go_wp2_with fail
    go_region_held3 (fun X => X.cell? ⟨mk, 0, none⟩ = some (.slice (some a) rs.length cap) ∧ X.cell? ⟨mk, 1, none⟩ = some (.int .i64 ((i : Int) + 1)) ∧ X.cell? (a.add i) = some (.int .i64 z)) (go_keep) (first | (go_at_call 14; refine (HP.out _).mono ?_; rintro e2 w2 ⟨rfl, rfl⟩))
    all_goals
      go_wp2
      go_ret
      exact HF.out
  · have hd : rs.drop i = [] := List.drop_eq_nil_of_le (by omega)
    have hK : Kept (· = mk) w w.drew := (Kept.refl _ w).drew
    have hM : MkAt rs ao cap mk i w.drew := h.kept (M := fun _ => False) (Kept.refl _ w).drew id (fun _ _ => id)
    have HF : Hid (NextR rs ao cap mk i n w (.returned (.int .i64 0)) w.drew) := by
      unfold NextR
      rw [hd]
      exact ⟨rfl, i, hM, hd, hK⟩
    have hle : decide (rs.length ≤ i) = true := decide_eq_true (by omega)
    clear h hb hM hK hd hi
    unfold ptrV
    go_enter Tryz.func18, Tryz.ntmps18
    go_wp2
    go_region
    all_goals
      go_wp2
      go_ret
      exact HF.out
end Go.Proofs.YtodeeegbajgafaaGreatDoor

namespace Go.Proofs.YtodeeegbajgafaaGreatDoor
open Go.RowKit
open Mc
namespace Rd
theorem pForm_no_define {f : Nat} {env : List (List Sym)} {p : Nat} {d0 : D} {rest : List D} {x : F} (h : pForm (f + 1) env (.mk p (d0 :: rest) .empty) = some x) : d0.sym ≠ some kwDefine := by
  intro e
  rw [pForm_cons, if_neg (by simp), e] at h
  simp only at h
  rw [if_neg (by decide), if_neg (by decide), if_neg (by decide), if_neg (by decide), if_neg (by decide), if_neg (by decide), if_neg (by decide), if_neg (by decide), if_neg (by decide), if_neg (by decide), if_pos trivial] at h
  cases h
theorem pTop_form {f : Nat} {d : D} {x : F} (h : pForm (f + 1) [] d = some x) : pTop (f + 1) d = some x := by
  match d with
  | .mk p [] a => rw [pTop_leaf]; exact h
  | .mk p (d0 :: rest) .empty => rw [pTop_other (pForm_no_define h)]; exact h
  | .mk p (d0 :: rest) (.num _) => rw [pTop.eq_def]; exact h
  | .mk p (d0 :: rest) (.truth _) => rw [pTop.eq_def]; exact h
  | .mk p (d0 :: rest) (.sym _) => rw [pTop.eq_def]; exact h
/-- A text that is this form of a source. -/
def TT (l : List UInt8) (x : F) (K H : Nat) : Prop := Dt (fun d => ∀ f, K ≤ f → pTop f d = some x) l K H
theorem TT.of {l : List UInt8} {x : F} {K H : Nat} (h : FT Free l x K H) (hK : 1 ≤ K) : TT l x K H :=
  Dt.mono h (fun d hd f hf => by
    obtain ⟨f, rfl⟩ : ∃ g, f = g + 1 := ⟨f - 1, by omega⟩
    exact pTop_form (hd.2 [] Free.nil (f + 1) hf)) (Nat.le_refl _) (Nat.le_refl _)
theorem TT.mono {l : List UInt8} {x : F} {K H K' H' : Nat} (h : TT l x K H) (hk : K ≤ K') (hh : H ≤ H') : TT l x K' H' := Dt.mono h (fun _ hd f hf => hd f (by omega)) hk hh
/-- Texts that are these forms of a source. -/
def TTs (l : List UInt8) (xs : List F) (K H : Nat) : Prop := DtL (fun ds => ds.length = xs.length ∧ ∀ f, K ≤ f → pTops f ds = some xs) l K H
theorem TTs.one {l : List UInt8} {x : F} {K H : Nat} (h : TT l x K H) (hK : 1 ≤ K) : TTs l [x] (K + 1) H :=
  DtL.mono (DtL.one h hK) (by
    rintro ds ⟨d, rfl, hd⟩
    refine ⟨rfl, fun f hf => ?_⟩
    rw [pTops, hd f (by omega)]
    rfl) (Nat.le_refl _) (Nat.le_refl _)
/-- (define x n) -/
def defT (n : Int) : List UInt8 := [40, 100, 101, 102, 105, 110, 101, 32, 120, 32] ++ Lib.itoa n ++ [41]
theorem tt_def {n : Int} (h0 : -100 < n) (h1 : n < 1000) : TT (defT n) (defF' n) 5 1 := by
  have hn := (numW_itoa h0 h1).dt
  have i := Dt.list (DtL.cons dt_define (DtL.more dt_x' (DtL.one hn (Nat.le_refl _)).blank (stops_blank _)) (stops_blank _))
  have e : 40 :: (kwDefine ++ (32 :: (nX' ++ (32 :: Lib.itoa n))) ++ [41]) = defT n := by simp [defT, kwDefine, nX']
  rw [e] at i
  refine Dt.mono i ?_ (by omega) (by omega)
  rintro d ⟨p, ds, rfl, d0, ds', rfl, ⟨p0, rfl⟩, d1, ds'', rfl, ⟨p1, rfl⟩, v, rfl, ⟨p2, rfl⟩⟩ f hf
  obtain ⟨f, rfl⟩ : ∃ g, f = g + 1 := ⟨f - 1, by omega⟩
  rw [pTop.eq_def]
  simp only [D.sym_leaf, if_true]
  show (if keys.contains nX' then none else (pForm (f + 1) [] (.mk p2 [] (.num n))).map (F.define nX' ·)) = _
  rw [pForm_num]
  rfl
end Rd
/-- A source of such forms. -/
theorem Forms.ofTTs {l : List UInt8} {x : Rd.F} {xs : List Rd.F} {K H : Nat} (h : Rd.TTs l (x :: xs) K H) (hl : l.length ≤ 500) (hK : K ≤ 3000) (hH : H ≤ 20) (hx : xs.length ≤ 100) : Forms l (x :: xs) := by
  obtain ⟨ds, m, h1, ⟨h2, h3⟩, h4⟩ := Rd.DtL.reads h l.length
  refine ⟨hl, ds, K, ⟨by rw [sz]; exact hl, K, [], m, by omega, by rw [sz]; exact h1, rfl, by omega⟩, by omega, h3 K (Nat.le_refl _), by rw [h2]; simp; omega, ?_⟩
  rintro rfl
  simp at h2
namespace Mc
/-- A value of a form of a source on a machine. -/
theorem Ev.ends {G : List (Rd.Sym × V)} {sh : Sh} {f : Rd.F} {v : V} {k F : Nat} (h : Ev G [] f [] v k) (hk : k ≤ F) : Mc.Ends F sh (begin_ G) [f] (at_ G [] (.val v) [] [] k) := by
  obtain ⟨n, hn⟩ := h F sh [] [] 0 (by omega)
  rw [Nat.zero_add] at hn
  exact .one (s := begin_ G) hn (Or.inr ⟨⟨_, rfl⟩, rfl, rfl⟩)
/-- With too little fuel. -/
theorem Ev.stops {G : List (Rd.Sym × V)} {sh : Sh} {f : Rd.F} {v : V} {k F : Nat} (h : Ev G [] f [] v k) (hk : F < k) : ∃ u, Mc.Ends F sh (begin_ G) [f] u ∧ u.dry F := by
  obtain ⟨n, hn⟩ := h k sh [] [] 0 (by omega)
  rw [Nat.zero_add] at hn
  obtain ⟨m, u, h1, h2⟩ := Runs.less (f := F) hn (Nat.le_refl _) (Nat.zero_le _) hk
  exact ⟨u, .one (s := begin_ G) h1 (Or.inl (by rw [h2.1]; decide)), h2⟩
def stX (n : Int) : St := { begin_ (Rd.GX n) with ctl := .val (.atom (.sym Rd.nX')), steps := 2 }
theorem ends_def (n : Int) (sh : Sh) : Mc.Ends 20000 sh (begin_ G0) [Rd.defF' n] (stX n) :=
  .one (n := 3) (Runs.of rfl) (Or.inr ⟨⟨_, rfl⟩, rfl, rfl⟩)
end Mc
end Go.Proofs.YtodeeegbajgafaaGreatDoor

namespace Go.Proofs.YtodeeegbajgafaaGreatDoor
open Go.RowKit
open Mc

abbrev bs (l : List UInt8) : ByteArray := ⟨l.toArray⟩
def SumR (rs : List Int) (ao : Option Addr) (cap mk : Nat) (m : List UInt8 × Int × List Int) (w : World) : Ending → World → Prop := fun e w' => e = .returned (.tuple #[.string ⟨m.1.toArray⟩, .int .i64 m.2.1]) ∧ ∃ i', MkAt rs ao cap mk i' w' ∧ rs.drop i' = m.2.2 ∧ Kept (· = mk) w w'
/-- What the sum's text is made of. -/
def opB (c : Nat) (A B : ByteArray) : ByteArray := match c with
  | 0 => ⟨#[40, 45, 32]⟩ ++ A ++ ⟨#[32]⟩ ++ B ++ ⟨#[41]⟩
  | 1 => ⟨#[40, 108, 101, 116, 32, 40, 40, 118, 32]⟩ ++ A ++ ⟨#[41, 41, 32, 40, 43, 32, 118, 32]⟩ ++ B ++ ⟨#[41, 41]⟩
  | 2 => ⟨#[40, 105, 102, 32, 40, 60, 32]⟩ ++ A ++ ⟨#[32]⟩ ++ B ++ ⟨#[41, 32, 49, 32, 48, 41]⟩
  | 3 => ⟨#[40, 98, 101, 103, 105, 110, 32]⟩ ++ A ++ ⟨#[32]⟩ ++ B ++ ⟨#[41]⟩
  | 4 => ⟨#[40, 40, 108, 97, 109, 98, 100, 97, 32, 40, 121, 32, 122, 41, 32, 40, 45, 32, 122, 32, 121, 41, 41, 32]⟩ ++ A ++ ⟨#[32]⟩ ++ B ++ ⟨#[41]⟩
  | 5 => ⟨#[40, 99, 97, 114, 32, 40, 99, 100, 114, 32, 40, 108, 105, 115, 116, 32]⟩ ++ A ++ ⟨#[32]⟩ ++ B ++ ⟨#[41, 41, 41]⟩
  | _ => ⟨#[40, 43, 32]⟩ ++ A ++ ⟨#[32]⟩ ++ B ++ ⟨#[41]⟩
theorem opB_eq (c : Nat) (a b : List UInt8) : (⟨(Rd.opT c a b).toArray⟩ : ByteArray) = opB c ⟨a.toArray⟩ ⟨b.toArray⟩ := by
  apply ByteArray.ext
  unfold opB Rd.opT Rd.lamT
  split <;> simp
theorem mkSum_lim {x L : Int} (h0 : -L ≤ x) (h1 : x ≤ L) (hL : 100 ≤ L) (hL' : L ≤ 100000) (d : Nat) (raw : List Int) (hd : d ≤ 2) : -400000 ≤ (Rd.mkSum x d raw).2.1 ∧ (Rd.mkSum x d raw).2.1 ≤ 400000 ∧ (Rd.mkSum x d raw).1.length ≤ 200 := by
  obtain ⟨F, k, _, _, _, i4, i5, i6⟩ := Rd.mkSum_big (Rd.GX_has x) (Rd.GX_x x) h0 h1 hL hL' d raw hd
  have : d = 0 ∨ d = 1 ∨ d = 2 := by omega
  rcases this with rfl | rfl | rfl <;> simp at i4 i5 i6 <;> omega

set_option maxHeartbeats 8000000 in
set_option maxRecDepth 20000 in
theorem sum15_0 (rs : List Int) (ao : Option Addr) (cap mk : Nat) (x : Int) (hmt : mk ≠ tabBlock) (i : Nat) (w : World) (h : MkAt rs ao cap mk i w) (ht : TabOk w) :
    Calls Tryz.prog 15 #[ptrV mk, .int .i64 0, .int .i64 x] w (SumR rs ao cap mk (Rd.mkSum x 0 (rs.drop i)) w) := by
  have hn := Rd.nextN_lt 3 (rs.drop i) (by omega)
  have HN : Hid (Calls Tryz.prog 18 #[.pointer (some ⟨mk, 0, none⟩), .int .i64 3] w (NextR rs ao cap mk i 3 w)) := next18 rs ao cap mk i 3 (by omega) (by omega) w h
  have HN2 : Hid (∀ j w', MkAt rs ao cap mk j w' → Calls Tryz.prog 18 #[.pointer (some ⟨mk, 0, none⟩), .int .i64 19] w' (NextR rs ao cap mk j 19 w')) := fun j w' hj => next18 rs ao cap mk j 19 (by omega) (by omega) w' hj
  rw [Rd.mkSum]
  unfold NextR at HN
  have HT : Hid (TabOk w) := ht
  clear h ht
  generalize hnx : Rd.nextN 3 (rs.drop i) = nx at *
  obtain ⟨r, r1⟩ := nx
  simp only at *
  unfold ptrV
  cases r with
  | zero =>
    simp only
    go_enter Tryz.func15, Tryz.ntmps15
    go_wp2_with (first | (go_at_call 18; refine HN.out.mono ?_; rintro e2 w2 ⟨rfl, i2, hM2, hd2, hk2⟩; have HM2 := (show Hid _ from hM2); have HD2 := (show Hid _ from hd2); have HK2 := (show Hid _ from hk2); clear hM2 hd2 hk2))
    go_ret2
    exact ⟨rfl, i2, HM2.out, HD2.out, HK2.out⟩
  | succ r =>
    simp only
    have hr0 : ¬ ((r + 1 : Nat) : Int) = 0 := by omega
    have hb := Rd.nextN_lt 19 r1 (by omega)
    generalize hnx2 : Rd.nextN 19 r1 = nx2 at *
    obtain ⟨b, r2⟩ := nx2
    simp only at *
    have HN3 : Hid (∀ j w', MkAt rs ao cap mk j w' → rs.drop j = r1 → Calls Tryz.prog 18 #[.pointer (some ⟨mk, 0, none⟩), .int .i64 19] w' fun e w'' => e = .returned (.int .i64 (b : Nat)) ∧ ∃ i', MkAt rs ao cap mk i' w'' ∧ rs.drop i' = r2 ∧ Kept (· = mk) w' w'') := fun j w' hj e => by
      have := HN2.out j w' hj
      unfold NextR at this
      rw [e, hnx2] at this
      exact this
    have j1 : -9223372036854775808 ≤ (b : Int) - 9 := by omega
    have j2 : (b : Int) - 9 ≤ 9223372036854775807 := by omega
    have HI : Hid (∀ w', Kept (· = mk) w w' → Calls Tryz.prog 16 #[.int .i64 ((b : Int) - 9)] w' fun e w'' => e = .returned (.string ⟨(Lib.itoa ((b : Int) - 9)).toArray⟩) ∧ Below w'.heap.size w' w'') := fun w' hk => itoa16 _ j1 j2 w' (HT.out.kept hk (fun e => hmt e.symm))
    clear HN2 hnx hnx2
    generalize Lib.itoa ((b : Int) - 9) = T at *
    go_enter Tryz.func15, Tryz.ntmps15
    go_upto_region 4 with (first | (go_at_call 18; refine HN.out.mono ?_; rintro e2 w2 ⟨rfl, i2, hM2, hd2, hk2⟩; have HM2 := (show Hid _ from hM2); have HD2 := (show Hid _ from hd2); have HK2 := (show Hid _ from hk2); clear hM2 hd2 hk2))
    go_upto_region 5 with (first | (go_at_call 18; refine (HN3.out _ _ HM2.out HD2.out).mono ?_; rintro e3 w3 ⟨rfl, i3, hM3, hd3, hk3⟩; have HM3 := (show Hid _ from hM3); have HD3 := (show Hid _ from hd3); have HK3 := (show Hid _ from HK2.out.trans hk3); clear hM3 hd3 hk3))
    go_wp2_with (first | (go_at_call 16; refine (HI.out _ HK3.out).mono ?_; rintro e4 w4 ⟨rfl, hb4⟩; have HB4 := (show Hid _ from hb4); clear hb4))
    go_ret2
    have hk4 : Kept (fun k => k = mk) w3 w4 := Kept.of_below HB4.out _
    exact ⟨rfl, i3, HM3.out.kept (M := fun _ => False) (Kept.of_below HB4.out _) id (fun _ _ => id), HD3.out, HK3.out.trans hk4⟩

/-- What is known behind the three calls of a sum. -/
def Behind (rs : List Int) (ao : Option Addr) (cap mk : Nat) (r3 : List Int) (w w' : World) : Prop := ∃ i', MkAt rs ao cap mk i' w' ∧ rs.drop i' = r3 ∧ Kept (· = mk) w w'
set_option maxHeartbeats 8000000 in
set_option maxRecDepth 20000 in
theorem sum15_1 (rs : List Int) (ao : Option Addr) (cap mk : Nat) (x : Int) (d : Nat) (hd : d ≤ 1) (w : World) (A B : ByteArray) (hA : A.size ≤ 200) (hB : B.size ≤ 200) (p q : Int) (hp0 : -400000 ≤ p) (hp1 : p ≤ 400000) (hq0 : -400000 ≤ q) (hq1 : q ≤ 400000) (c : Nat) (hc : c < 8) (r1 r2 r3 : List Int)
    (H1 : Hid (Calls Tryz.prog 15 #[.pointer (some ⟨mk, 0, none⟩), .int .i64 d, .int .i64 x] w fun e w' => e = .returned (.tuple #[.string A, .int .i64 p]) ∧ Behind rs ao cap mk r1 w w'))
    (H2 : Hid (∀ w', Behind rs ao cap mk r1 w w' → Calls Tryz.prog 15 #[.pointer (some ⟨mk, 0, none⟩), .int .i64 d, .int .i64 x] w' fun e w'' => e = .returned (.tuple #[.string B, .int .i64 q]) ∧ Behind rs ao cap mk r2 w w''))
    (H3 : Hid (∀ w', Behind rs ao cap mk r2 w w' → Calls Tryz.prog 18 #[.pointer (some ⟨mk, 0, none⟩), .int .i64 8] w' fun e w'' => e = .returned (.int .i64 c) ∧ Behind rs ao cap mk r3 w w'')) :
    Calls Tryz.prog 15 #[.pointer (some ⟨mk, 0, none⟩), .int .i64 ((d + 1 : Nat) : Int), .int .i64 x] w fun e w' => e = .returned (.tuple #[.string (opB c A B), .int .i64 (Rd.opV c p q)]) ∧ Behind rs ao cap mk r3 w w' := by
  have d0 : ¬ ((d + 1 : Nat) : Int) = 0 := by omega
  have d1 : ((d + 1 : Nat) : Int) - 1 = d := by omega
  have d2 : -9223372036854775808 ≤ (d : Int) := by omega
  have d3 : (d : Int) ≤ 9223372036854775807 := by omega
  generalize ((d + 1 : Nat) : Int) = D at *
  generalize (d : Int) = d' at *
  clear hd
  generalize hX : opB c A B = X
  generalize hV : Rd.opV c p q = V
  go_enter Tryz.func15, Tryz.ntmps15
  go_upto_region 7 with (first | (go_at_call 15; refine H1.out.mono ?_; rintro e2 w2 ⟨rfl, hh2⟩; have HH2 := (show Hid _ from hh2); clear hh2))
  go_upto_region 8 with (first | (go_at_call 15; refine (H2.out _ HH2.out).mono ?_; rintro e3 w3 ⟨rfl, hh3⟩; have HH3 := (show Hid _ from hh3); clear hh3))
  have hcc : c = 0 ∨ c = 1 ∨ c = 2 ∨ c = 3 ∨ c = 4 ∨ c = 5 ∨ 6 ≤ c := by omega
  rcases hcc with rfl | rfl | rfl | rfl | rfl | rfl | hc6
  · skip
    have HX := (show Hid _ from hX)
    have HV := (show Hid _ from hV)
    clear hX hV
    have s1 : ¬ 9223372036854775807 < 3 + A.size := by omega
    have s2 : ¬ 9223372036854775807 < 3 + A.size + 1 := by omega
    have s3 : ¬ 9223372036854775807 < 3 + A.size + 1 + B.size := by omega
    have s4 : ¬ 9223372036854775807 < 3 + A.size + 1 + B.size + 1 := by omega
    have v1 : -9223372036854775808 ≤ p - q := by omega
    have v2 : p - q ≤ 9223372036854775807 := by omega
    go_wp2_with (first | (go_at_call 18; refine (H3.out _ HH3.out).mono ?_; rintro e4 w4 ⟨rfl, hh4⟩; have HH4 := (show Hid _ from hh4); clear hh4))
    go_ret2
    exact ⟨by rw [← HV.out, ← HX.out]; rfl, HH4.out⟩
  · skip
    have HX := (show Hid _ from hX)
    have HV := (show Hid _ from hV)
    clear hX hV
    have s1 : ¬ 9223372036854775807 < 9 + A.size := by omega
    have s2 : ¬ 9223372036854775807 < 9 + A.size + 8 := by omega
    have s3 : ¬ 9223372036854775807 < 9 + A.size + 8 + B.size := by omega
    have s4 : ¬ 9223372036854775807 < 9 + A.size + 8 + B.size + 2 := by omega
    have v1 : -9223372036854775808 ≤ p + q := by omega
    have v2 : p + q ≤ 9223372036854775807 := by omega
    go_wp2_with (first | (go_at_call 18; refine (H3.out _ HH3.out).mono ?_; rintro e4 w4 ⟨rfl, hh4⟩; have HH4 := (show Hid _ from hh4); clear hh4))
    go_ret2
    exact ⟨by rw [← HV.out, ← HX.out]; rfl, HH4.out⟩
  · skip
    have HX := (show Hid _ from hX)
    have s1 : ¬ 9223372036854775807 < 7 + A.size := by omega
    have s2 : ¬ 9223372036854775807 < 7 + A.size + 1 := by omega
    have s3 : ¬ 9223372036854775807 < 7 + A.size + 1 + B.size := by omega
    have s4 : ¬ 9223372036854775807 < 7 + A.size + 1 + B.size + 6 := by omega
    by_cases hpq : p < q
    · have ev : Rd.opV 2 p q = 1 := if_pos hpq
      have HV : Hid (V = 1) := hV.symm.trans ev
      clear ev hX hV
      go_wp2_with (first | (go_at_call 18; refine (H3.out _ HH3.out).mono ?_; rintro e4 w4 ⟨rfl, hh4⟩; have HH4 := (show Hid _ from hh4); clear hh4))
      go_ret2
      exact ⟨by rw [HV.out, ← HX.out]; rfl, HH4.out⟩
    · have ev : Rd.opV 2 p q = 0 := if_neg hpq
      have HV : Hid (V = 0) := hV.symm.trans ev
      clear ev hX hV
      go_wp2_with (first | (go_at_call 18; refine (H3.out _ HH3.out).mono ?_; rintro e4 w4 ⟨rfl, hh4⟩; have HH4 := (show Hid _ from hh4); clear hh4))
      go_ret2
      exact ⟨by rw [HV.out, ← HX.out]; rfl, HH4.out⟩
  · skip
    have HX := (show Hid _ from hX)
    have HV := (show Hid _ from hV)
    clear hX hV
    have s1 : ¬ 9223372036854775807 < 7 + A.size := by omega
    have s2 : ¬ 9223372036854775807 < 7 + A.size + 1 := by omega
    have s3 : ¬ 9223372036854775807 < 7 + A.size + 1 + B.size := by omega
    have s4 : ¬ 9223372036854775807 < 7 + A.size + 1 + B.size + 1 := by omega
    go_wp2_with (first | (go_at_call 18; refine (H3.out _ HH3.out).mono ?_; rintro e4 w4 ⟨rfl, hh4⟩; have HH4 := (show Hid _ from hh4); clear hh4))
    go_ret2
    exact ⟨by rw [← HV.out, ← HX.out]; rfl, HH4.out⟩
  · skip
    have HX := (show Hid _ from hX)
    have HV := (show Hid _ from hV)
    clear hX hV
    have s1 : ¬ 9223372036854775807 < 24 + A.size := by omega
    have s2 : ¬ 9223372036854775807 < 24 + A.size + 1 := by omega
    have s3 : ¬ 9223372036854775807 < 24 + A.size + 1 + B.size := by omega
    have s4 : ¬ 9223372036854775807 < 24 + A.size + 1 + B.size + 1 := by omega
    have v1 : -9223372036854775808 ≤ q - p := by omega
    have v2 : q - p ≤ 9223372036854775807 := by omega
    go_wp2_with (first | (go_at_call 18; refine (H3.out _ HH3.out).mono ?_; rintro e4 w4 ⟨rfl, hh4⟩; have HH4 := (show Hid _ from hh4); clear hh4))
    go_ret2
    exact ⟨by rw [← HV.out, ← HX.out]; rfl, HH4.out⟩
  · skip
    have HX := (show Hid _ from hX)
    have HV := (show Hid _ from hV)
    clear hX hV
    have s1 : ¬ 9223372036854775807 < 16 + A.size := by omega
    have s2 : ¬ 9223372036854775807 < 16 + A.size + 1 := by omega
    have s3 : ¬ 9223372036854775807 < 16 + A.size + 1 + B.size := by omega
    have s4 : ¬ 9223372036854775807 < 16 + A.size + 1 + B.size + 3 := by omega
    go_wp2_with (first | (go_at_call 18; refine (H3.out _ HH3.out).mono ?_; rintro e4 w4 ⟨rfl, hh4⟩; have HH4 := (show Hid _ from hh4); clear hh4))
    go_ret2
    exact ⟨by rw [← HV.out, ← HX.out]; rfl, HH4.out⟩
  · skip
    have n0 : ¬ (c : Int) = 0 := by omega
    have n1 : ¬ (c : Int) = 1 := by omega
    have n2 : ¬ (c : Int) = 2 := by omega
    have n3 : ¬ (c : Int) = 3 := by omega
    have n4 : ¬ (c : Int) = 4 := by omega
    have n5 : ¬ (c : Int) = 5 := by omega
    obtain ⟨c', rfl⟩ : ∃ c', c = c' + 6 := ⟨c - 6, by omega⟩
    have e1 : opB (c' + 6) A B = ⟨#[40, 43, 32]⟩ ++ A ++ ⟨#[32]⟩ ++ B ++ ⟨#[41]⟩ := rfl
    have e2 : Rd.opV (c' + 6) p q = p + q := rfl
    rw [e1] at hX
    rw [e2] at hV
    clear e1 e2
    generalize ((c' + 6 : Nat) : Int) = cc at *
    have HX := (show Hid _ from hX)
    have HV := (show Hid _ from hV)
    clear hX hV
    have s1 : ¬ 9223372036854775807 < 3 + A.size := by omega
    have s2 : ¬ 9223372036854775807 < 3 + A.size + 1 := by omega
    have s3 : ¬ 9223372036854775807 < 3 + A.size + 1 + B.size := by omega
    have s4 : ¬ 9223372036854775807 < 3 + A.size + 1 + B.size + 1 := by omega
    have v1 : -9223372036854775808 ≤ p + q := by omega
    have v2 : p + q ≤ 9223372036854775807 := by omega
    go_wp2_with (first | (go_at_call 18; refine (H3.out _ HH3.out).mono ?_; rintro e4 w4 ⟨rfl, hh4⟩; have HH4 := (show Hid _ from hh4); clear hh4))
    go_ret2
    exact ⟨by rw [← HV.out, ← HX.out]; rfl, HH4.out⟩

theorem sum15 (rs : List Int) (ao : Option Addr) (cap mk : Nat) (x L : Int) (h0 : -L ≤ x) (h1 : x ≤ L) (hL : 100 ≤ L) (hL' : L ≤ 100000) (hmt : mk ≠ tabBlock) : ∀ (d : Nat), d ≤ 2 → ∀ (i : Nat) (w : World), MkAt rs ao cap mk i w → TabOk w →
    Calls Tryz.prog 15 #[ptrV mk, .int .i64 d, .int .i64 x] w (SumR rs ao cap mk (Rd.mkSum x d (rs.drop i)) w)
  | 0, _, i, w, h, ht => sum15_0 rs ao cap mk x hmt i w h ht
  | d + 1, hd, i, w, h, ht => by
    have ih := sum15 rs ao cap mk x L h0 h1 hL hL' hmt d (by omega)
    have l1 := mkSum_lim h0 h1 hL hL' d (rs.drop i) (by omega)
    have l2 := mkSum_lim h0 h1 hL hL' d (Rd.mkSum x d (rs.drop i)).2.2 (by omega)
    have i1 := ih i w h ht
    have i2 : ∀ w', Behind rs ao cap mk (Rd.mkSum x d (rs.drop i)).2.2 w w' → Calls Tryz.prog 15 #[ptrV mk, .int .i64 d, .int .i64 x] w' fun e w'' => e = .returned (.tuple #[.string ⟨(Rd.mkSum x d (Rd.mkSum x d (rs.drop i)).2.2).1.toArray⟩, .int .i64 (Rd.mkSum x d (Rd.mkSum x d (rs.drop i)).2.2).2.1]) ∧ Behind rs ao cap mk (Rd.mkSum x d (Rd.mkSum x d (rs.drop i)).2.2).2.2 w w'' := by
      rintro w' ⟨j, hj, hdj, hk⟩
      have := ih j w' hj (ht.kept hk (fun e => hmt e.symm))
      rw [hdj] at this
      exact this.mono fun e w'' ⟨he, j', a, b, c⟩ => ⟨he, j', a, b, hk.trans c⟩
    have i3 : ∀ r w', Behind rs ao cap mk r w w' → Calls Tryz.prog 18 #[ptrV mk, .int .i64 8] w' fun e w'' => e = .returned (.int .i64 ((Rd.nextN 8 r).1 : Nat)) ∧ Behind rs ao cap mk (Rd.nextN 8 r).2 w w'' := by
      rintro r w' ⟨j, hj, rfl, hk⟩
      exact (next18 rs ao cap mk j 8 (by omega) (by omega) w' hj).mono fun e w'' ⟨he, j', a, b, c⟩ => ⟨he, j', a, b, hk.trans c⟩
    unfold SumR at i1 ⊢
    rw [Rd.mkSum]
    generalize Rd.mkSum x d (rs.drop i) = m1 at *
    obtain ⟨a, p, r1⟩ := m1
    simp only at *
    generalize Rd.mkSum x d r1 = m2 at *
    obtain ⟨b, q, r2⟩ := m2
    simp only at *
    have hc := Rd.nextN_lt 8 r2 (by omega)
    have i4 := i3 r2
    generalize Rd.nextN 8 r2 = m3 at *
    obtain ⟨c, r3⟩ := m3
    simp only at *
    rw [opB_eq]
    exact sum15_1 rs ao cap mk x d (by omega) w ⟨a.toArray⟩ ⟨b.toArray⟩ (by rw [sz]; exact l1.2.2) (by rw [sz]; exact l2.2.2) p q l1.1 l1.2.1 l2.1 l2.2.1 c hc r1 r2 r3 i1 i2 i4
end Go.Proofs.YtodeeegbajgafaaGreatDoor

namespace Go.Proofs.YtodeeegbajgafaaGreatDoor
open Go.RowKit
open Mc

theorem Mach.aside {N : Nat → Prop} {B ob : Nat} {G : List (Rd.Sym × V)} {w : World} {g : Gh} (h : Mach N B ob G w g) (o : Obj) : Mach (fun k => N k ∨ k = w.heap.size) B ob G (w.alloc o) g := ⟨at_alloc h.box _, h.low, h.fix, h.m.aside o, h.high⟩
/-- What is not the machine's may change. -/
theorem Mach.other {N M : Nat → Prop} {B ob : Nat} {G : List (Rd.Sym × V)} {w w' : World} {g : Gh} (h : Mach N B ob G w g) (hk : Kept M w w') (hM : ∀ k, M k → N k) (ho : ¬ M ob) : Mach N B ob G w' g :=
  ⟨hk.at ho h.box, h.low, h.fix, h.m.other hk.size (fun k hk' hn => hk.block k hk' (fun e => hn (hM k e))) (fun _ e => e), h.high⟩
theorem Mach.alloc {N : Nat → Prop} {B ob : Nat} {G : List (Rd.Sym × V)} {w : World} {g : Gh} (h : Mach N B ob G w g) (o : Obj) : Mach N B ob G (w.alloc o) g := h.below ((Below.refl _ w).alloc (Nat.le_refl _) _)
theorem Mach.lt {N : Nat → Prop} {B ob : Nat} {G : List (Rd.Sym × V)} {w : World} {g : Gh} (h : Mach N B ob G w g) : ob < w.heap.size := lt_of_at h.box
theorem Mach.new {N : Nat → Prop} {B ob : Nat} {G : List (Rd.Sym × V)} {w : World} {g : Gh} (h : Mach N B ob G w g) {k : Nat} (hk : w.heap.size ≤ k) : ¬ g.mut k := fun e => by have := Gh.low h.m k e; omega

/-- What a run that came to a value gives. -/
def ValR (N : Nat → Prop) (B ob : Nat) (g : Gh) (G' : List (Rd.Sym × V)) (txt : List UInt8) (k : Nat) (w : World) : Ending → World → Prop := fun e w' => ∃ g' sa sn sc, e = .returned (.tuple #[.agg #[.int .i64 1, .string ⟨txt.toArray⟩, .int .i64 0, .int .i64 k, .slice sa sn sc], .bool true]) ∧ Mach N B ob G' w' g' ∧ Below B w w' ∧ Kept g.mut w w'
theorem run_val {sh : V → Option (List UInt8)} (HC : CallC sh) {N : Nat → Prop} {B ob : Nat} {G G' : List (Rd.Sym × V)} {g : Gh} {s : List UInt8} {f : Rd.F} {v : V} {txt : List UInt8} {k : Nat} {sn : List (List UInt8)} {w : World} (hM : Mach N B ob G w g) (hBw : B ≤ w.heap.size) (hNt : tabBlock < B) (htab : TabOk w) (hs : Forms s [f]) (hx : Mc.Ends 20000 sh (begin_ G) [f] (at_ G' sn (.val v) [] [] k)) (hshow : ShowsAs v txt) :
    Calls Tryz.prog 13 #[.pointer (some ⟨ob, 0, none⟩), .string ⟨s.toArray⟩] w (ValR N B ob g G' txt k w) := by
  refine (run13 sh HC N B ob G g s [f] _ txt w hM hBw hNt htab hs hx (by simp) (fun _ u hu => ?_)).mono ?_
  · cases hu
    exact hshow
  · rintro e w' ⟨g', sa, sn', sc, rfl, h1, h2, h3⟩
    exact ⟨g', sa, sn', sc, rfl, h1, h2.below hBw hM.high, h2⟩
theorem itoa_ne (n : Int) : Lib.itoa n ≠ [] := by
  by_cases hn : 0 ≤ n
  · obtain ⟨i, rfl⟩ := Int.eq_ofNat_of_zero_le hn
    show Lib.itoa (i : Int) ≠ []
    rw [Lib.itoa_nonneg, Lib.decDigits]
    split <;> simp
  · obtain ⟨i, hi⟩ := Int.eq_ofNat_of_zero_le (a := -n) (by omega)
    obtain rfl : n = -(i : Int) := by omega
    rw [Lib.itoa_neg i (by omega)]
    simp
theorem shows_num {n : Int} (h0 : -1000000000 ≤ n) (h1 : n ≤ 1000000000) : ShowsAs (Rd.num n) (Lib.itoa n) := ShowsAs.num (by omega) (by omega) (itoa_ne n)
theorem shows_x : ShowsAs (.atom (.sym Rd.nX')) Rd.nX' := ShowsAs.sym (by decide) (by decide)
theorem forms_def {n : Int} (h0 : -100 < n) (h1 : n < 1000) : Forms (Rd.defT n) [Rd.defF' n] := by
  refine Forms.ofTTs (Rd.TTs.one (Rd.tt_def h0 h1) (by omega)) ?_ (by omega) (by omega) (by simp)
  have := (Rd.numW_itoa h0 h1).short
  simp [Rd.defT]
  omega
theorem ends_def' (n : Int) (sh : Sh) : Mc.Ends 20000 sh (begin_ G0) [Rd.defF' n] (at_ (Rd.GX n) [] (.val (.atom (.sym Rd.nX'))) [] [] 2) := ends_def n sh
theorem forms_ft {l : List UInt8} {x : Rd.F} {K H : Nat} (h : Rd.FT Rd.Free l x K H) (hl : l.length ≤ 500) (hK : K ≤ 2000) (hK1 : 1 ≤ K) (hH : H ≤ 20) : Forms l [x] :=
  Forms.ofTTs (Rd.TTs.one (Rd.TT.of h hK1) hK1) hl (by omega) hH (by simp)
theorem defT_bytes (n : Int) : (⟨(Rd.defT n).toArray⟩ : ByteArray) = ⟨#[40, 100, 101, 102, 105, 110, 101, 32, 120, 32]⟩ ++ ⟨(Lib.itoa n).toArray⟩ ++ ⟨#[41]⟩ := by
  apply ByteArray.ext
  simp [Rd.defT]
/-- An evaluation with less fuel than it takes. -/
theorem outcome_dry {t : St} {F : Nat} (h : t.dry F) (txt : List UInt8) (sh : Value) : outcome t txt sh = .agg #[.int .i64 3, .string ⟨#[]⟩, .int .i64 t.why, .int .i64 F, sh] := by
  unfold outcome
  rw [if_neg (by rw [h.1]; decide), h.1, h.2]
  rfl
end Go.Proofs.YtodeeegbajgafaaGreatDoor

namespace Go.Proofs.YtodeeegbajgafaaGreatDoor
open Go.RowKit
open Mc

/-- A maker of numbers that came in. -/
theorem mk_new {W w1 : World} {ao : Option Addr} {cap : Nat} {rs : List Int} (hcell : ∀ i (hi : i < rs.length), ∃ a, ao = some a ∧ W.cell? (a.add i) = some (.int .i64 rs[i])) (hz : ∀ i (hi : i < rs.length), -9223372036854775808 ≤ rs[i] ∧ rs[i] ≤ 9223372036854775807) (hl : rs.length ≤ 9223372036854775807) (hb : Below W.heap.size W w1) (T : TypeId) :
    MkAt rs ao cap w1.heap.size 0 (w1.alloc (.cells #[.slice ao rs.length cap, .int .i64 0] T)) := by
  refine ⟨⟨T, at_new w1 _⟩, Nat.zero_le _, fun j hj => ?_, hz, hl⟩
  obtain ⟨a, rfl, hc⟩ := hcell j hj
  have hab := World.block_lt_of_cell? W _ hc
  rw [add_block] at hab
  have hs := hb.size
  have hk : Kept (fun _ => False) W (w1.alloc (.cells #[.slice (some a) rs.length cap, .int .i64 0] T)) := ⟨hb.os, hb.tape, hb.output, by simp; omega, fun k hk _ => by rw [Below.heap_alloc _ _ _ (by omega)]; exact hb.block k hk⟩
  exact ⟨a, rfl, by omega, hk.cellA id hc⟩

/-- The form that Sums makes, cut where it is too long. -/
theorem sums_form (rs : List Int) (n : Int) (h0 : -50 ≤ n) (h1 : n ≤ 50) : ∃ (T : List UInt8) (v : Int) (F : Rd.F) (k : Nat), Forms T [F] ∧ (∀ sn e, Ev (Rd.GX n) sn F e (Rd.num v) k) ∧ k ≤ 100 ∧ -400000 ≤ v ∧ v ≤ 400000 ∧
    ((¬ 400 < (Rd.mkSum n 2 rs).1.length ∧ T = (Rd.mkSum n 2 rs).1 ∧ v = (Rd.mkSum n 2 rs).2.1) ∨ (400 < (Rd.mkSum n 2 rs).1.length ∧ T = [120] ∧ v = n)) := by
  obtain ⟨F, k, i1, i2, i3, i4, i5, i6⟩ := Rd.mkSum_big (L := 100) (Rd.GX_has n) (Rd.GX_x n) (by omega) (by omega) (by omega) (by omega) 2 rs (by omega)
  by_cases hl : 400 < (Rd.mkSum n 2 rs).1.length
  · exact ⟨[120], n, _, 1, forms_ft Rd.ft_x (by decide) (by omega) (by omega) (by omega), fun sn e => .global (Rd.GX_x n) e, by omega, by omega, by omega, Or.inr ⟨hl, rfl, rfl⟩⟩
  · refine ⟨_, _, F, k, forms_ft i1 (by omega) (by omega) (by omega) (by omega), i3, by omega, ?_, ?_, Or.inl ⟨hl, rfl, rfl⟩⟩
    · simp at i4; omega
    · simp at i5; omega

def LessR (B : Nat) (g : Gh) (K : Nat) (T : ByteArray) (st : Nat) (w : World) : Ending → World → Prop := fun e w' => ∃ (y : Int) (sa : Option Addr) (sn sc : Nat), e = .returned (.tuple #[.agg #[.int .i64 K, .string T, .int .i64 y, .int .i64 st, .slice sa sn sc], .int .i64 0, .int .i64 0]) ∧ Below B w w' ∧ Kept g.mut w w'
theorem eval_less {N : Nat → Prop} {B ob : Nat} {G : List (Rd.Sym × V)} {g : Gh} {s : List UInt8} {F : Rd.F} {v : Int} {k f : Nat} {w : World} (hM : Mach N B ob G w g) (hBw : B ≤ w.heap.size) (hNt : tabBlock < B) (htab : TabOk w) (hs : Forms s [F]) (hx : ∀ sn e, Ev G sn F e (Rd.num v) k) (hf : f ≤ 100) (h0 : -1000000 ≤ v) (h1 : v ≤ 1000000) :
    Calls Tryz.prog 17 #[.pointer (some ⟨ob, 0, none⟩), .string ⟨s.toArray⟩, .int .i64 f] w (LessR B g (if f < k then 3 else 1) (if f < k then ⟨#[]⟩ else ⟨(Lib.itoa v).toArray⟩) (if f < k then f else k) w) := by
  by_cases hfk : f < k
  · rw [if_pos hfk, if_pos hfk, if_pos hfk]
    obtain ⟨u, hu, hd⟩ := Ev.stops (sh := shN) (hx [] []) hfk
    refine (eval17 shN callN N B ob G g f (by omega) s [F] u [] w hM hBw hNt htab hs hu (by simp) (fun hk => by rw [hd.1] at hk; cases hk)).mono ?_
    rintro e w' ⟨g', sa, sn, sc, rfl, h1, h2, h3⟩
    exact ⟨_, sa, sn, sc, by rw [outcome_dry hd]; rfl, h2.below hBw hM.high, h2⟩
  · rw [if_neg hfk, if_neg hfk, if_neg hfk]
    refine (eval17 shN callN N B ob G g f (by omega) s [F] _ (Lib.itoa v) w hM hBw hNt htab hs (Ev.ends (hx [] []) (by omega)) (by simp) (fun hk u hu => ?_)).mono ?_
    · cases hu
      exact shows_num (by omega) (by omega)
    rintro e w' ⟨g', sa, sn, sc, rfl, h1, h2, h3⟩
    exact ⟨0, sa, sn, sc, rfl, h2.below hBw hM.high, h2⟩

set_option maxHeartbeats 16000000 in
set_option maxRecDepth 20000 in
theorem sums4 (W : World) (ao : Option Addr) (cap : Nat) (rs : List Int) (hl : rs.length ≤ cap) (hcap : cap ≤ maxLen) (hcell : ∀ i (hi : i < rs.length), ∃ a, ao = some a ∧ W.cell? (a.add i) = some (.int .i64 rs[i])) (hz : ∀ i (hi : i < rs.length), -9223372036854775808 ≤ rs[i] ∧ rs[i] ≤ 9223372036854775807) (x fuel : Int) (hx0 : -9223372036854775808 ≤ x) (hx1 : x ≤ 9223372036854775807) (hf0 : -9223372036854775808 ≤ fuel) (hf1 : fuel ≤ 9223372036854775807) (htab : TabOk W) :
    Calls Tryz.prog 4 #[.slice ao rs.length cap, .int .i64 x, .int .i64 fuel] W fun e w' => e = .returned (.bool true) ∧ Below W.heap.size W w' := by
  have hlt := htab.lt
  have hm : rs.length ≤ 9223372036854775807 := by unfold maxLen at hcap; omega
  have HF : Hid (Calls Tryz.prog 10 #[] W fun e w' => ∃ ob g, e = .returned (.pointer (some ⟨ob, 0, none⟩)) ∧ Mach (Old W.heap.size) W.heap.size ob G0 w' g ∧ Below W.heap.size W w') := fresh10 (Old W.heap.size) W (fun _ h => h.1) (fun h => h.2 rfl) htab
  have HT : Hid (∀ w', Below W.heap.size W w' → TabOk w') := fun w' hb => htab.on (hb.block _ hlt)
  have HP : Hid (∀ w, Calls Tryz.prog 14 #[.int .i64 x, .int .i64 100] w fun e w' => e = .returned (.int .i64 (Rd.pickN x 100 : Nat)) ∧ w' = w) := fun w => pick14 x 100 hx0 hx1 (by omega) (by omega) w
  have HP2 : Hid (∀ w, Calls Tryz.prog 14 #[.int .i64 fuel, .int .i64 100] w fun e w' => e = .returned (.int .i64 (Rd.pickN fuel 100 : Nat)) ∧ w' = w) := fun w => pick14 fuel 100 hf0 hf1 (by omega) (by omega) w
  have hr := Rd.pickN_lt x 100 (by omega)
  have hf := Rd.pickN_lt fuel 100 (by omega)
  generalize Rd.pickN x 100 = r at *
  generalize Rd.pickN fuel 100 = f at *
  have n0 : -9223372036854775808 ≤ (r : Int) - 50 := by omega
  have n1 : (r : Int) - 50 ≤ 9223372036854775807 := by omega
  have m0 : -50 ≤ (r : Int) - 50 := by omega
  have m1 : (r : Int) - 50 ≤ 50 := by omega
  generalize hn : (r : Int) - 50 = n at *
  obtain ⟨T, v, F, k, hT1, hT2, hk, v0, v1, hT3⟩ := sums_form rs n m0 m1
  have hlim := mkSum_lim (L := 100) (x := n) (by omega) (by omega) (by omega) (by omega) 2 rs (by omega)
  have HS : Hid (∀ w1, Below W.heap.size W w1 → Calls Tryz.prog 15 #[.pointer (some ⟨w1.heap.size, 0, none⟩), .int .i64 2, .int .i64 n] (w1.alloc (.cells #[.slice ao rs.length cap, .int .i64 0] 27)) fun e w' => e = .returned (.tuple #[.string ⟨(Rd.mkSum n 2 rs).1.toArray⟩, .int .i64 (Rd.mkSum n 2 rs).2.1]) ∧ Kept (· = w1.heap.size) (w1.alloc (.cells #[.slice ao rs.length cap, .int .i64 0] 27)) w') := fun w1 hb => by
    have hs := hb.size
    have := sum15 rs ao cap w1.heap.size n 100 (by omega) (by omega) (by omega) (by omega) (by omega) 2 (by omega) 0 _ (mk_new hcell hz hm hb 27) ((HT.out _ hb).on (Below.heap_alloc _ _ _ (by omega)))
    exact this.mono fun e w' ⟨he, i', _, _, h3⟩ => ⟨he, h3⟩
  have HI : Hid (∀ w', Below W.heap.size W w' → Calls Tryz.prog 16 #[.int .i64 n] w' fun e w'' => e = .returned (.string ⟨(Lib.itoa n).toArray⟩) ∧ Below w'.heap.size w' w'') := fun w' hb => itoa16 n n0 n1 w' (HT.out _ hb)
  have HIV : Hid (∀ w', Below W.heap.size W w' → Calls Tryz.prog 16 #[.int .i64 v] w' fun e w'' => e = .returned (.string ⟨(Lib.itoa v).toArray⟩) ∧ Below w'.heap.size w' w'') := fun w' hb => itoa16 v (by omega) (by omega) w' (HT.out _ hb)
  have HR1 : Hid (∀ N ob g w, tabBlock < W.heap.size → Mach N W.heap.size ob G0 w g → Below W.heap.size W w → Calls Tryz.prog 13 #[.pointer (some ⟨ob, 0, none⟩), .string (⟨#[40, 100, 101, 102, 105, 110, 101, 32, 120, 32]⟩ ++ ⟨(Lib.itoa n).toArray⟩ ++ ⟨#[41]⟩)] w fun e w' => ∃ g' sa sn sc, e = .returned (.tuple #[.agg #[.int .i64 1, .string ⟨#[120]⟩, .int .i64 0, .int .i64 2, .slice sa sn sc], .bool true]) ∧ Mach N W.heap.size ob (Rd.GX n) w' g' ∧ Below W.heap.size w w' ∧ Kept g.mut w w') := fun N ob g w hN hM hb => by
    rw [← defT_bytes]
    exact run_val callN hM hb.size hN (HT.out _ hb) (forms_def (by omega) (by omega)) (ends_def' n shN) shows_x
  have HR2 : Hid (∀ N ob g w, tabBlock < W.heap.size → Mach N W.heap.size ob (Rd.GX n) w g → Below W.heap.size W w → Calls Tryz.prog 13 #[.pointer (some ⟨ob, 0, none⟩), .string ⟨T.toArray⟩] w fun e w' => ∃ g' sa sn sc, e = .returned (.tuple #[.agg #[.int .i64 1, .string ⟨(Lib.itoa v).toArray⟩, .int .i64 0, .int .i64 k, .slice sa sn sc], .bool true]) ∧ Mach N W.heap.size ob (Rd.GX n) w' g' ∧ Below W.heap.size w w' ∧ Kept g.mut w w') := fun N ob g w hN hM hb => run_val callN hM hb.size hN (HT.out _ hb) hT1 (Ev.ends (hT2 [] []) (by omega)) (shows_num (by omega) (by omega))
  have HE : Hid (∀ N ob g w, tabBlock < W.heap.size → Mach N W.heap.size ob (Rd.GX n) w g → Below W.heap.size W w → Calls Tryz.prog 17 #[.pointer (some ⟨ob, 0, none⟩), .string ⟨T.toArray⟩, .int .i64 f] w (LessR W.heap.size g (if f < k then 3 else 1) (if f < k then ⟨#[]⟩ else ⟨(Lib.itoa v).toArray⟩) (if f < k then f else k) w)) := fun N ob g w hN hM hb => eval_less hM hb.size hN (HT.out _ hb) hT1 hT2 (by omega) (by omega) (by omega)
  have hsz := sz (Rd.mkSum n 2 rs).1
  have hnl := (Rd.numW_itoa (n := n) (by omega) (by omega)).short
  have hsn := sz (Lib.itoa n)
  have HTL : Hid (tabBlock < W.heap.size) := hlt
  generalize (⟨(Lib.itoa n).toArray⟩ : ByteArray) = SN at *
  generalize (⟨(Lib.itoa v).toArray⟩ : ByteArray) = SV at *
  have s1 : ¬ 9223372036854775807 < 10 + SN.size := by omega
  have s2 : ¬ 9223372036854775807 < 10 + SN.size + 1 := by omega
  have u1 : ¬ (100 : Int) < 50 := by omega
  clear hcell hz htab hT1 hT2 hlt hnl hsn u1
  obtain ⟨_, rfl, rfl⟩ | ⟨h400, _⟩ := hT3
  rotate_left
  · omega
  generalize (Rd.mkSum n 2 rs).2.1 = v at *
  have hl4 : ¬ (400 : Int) < ((Rd.mkSum n 2 rs).1.length : Int) := by omega
  rw [← hsz] at hl4
  generalize (⟨(Rd.mkSum n 2 rs).1.toArray⟩ : ByteArray) = S at *
  clear hlim hsz
  go_enter Tryz.func4, Tryz.ntmps4
  go_upto_region 5 with (first | (go_at_call 10; refine HF.out.mono ?_; rintro e1 w1 ⟨ob, g1, rfl, hM1, hb1⟩; have HM1 := (show Hid _ from hM1); have HB1 : Hid (Below W.heap.size W w1) := hb1; clear hM1 hb1))
  have HM2 : Hid (Mach (fun k => Old W.heap.size k ∨ k = w1.heap.size) W.heap.size ob G0 (w1.alloc (.cells #[.slice ao rs.length cap, .int .i64 0] 27)) g1) := HM1.out.aside _
  have HB2 : Hid (Below W.heap.size W (w1.alloc (.cells #[.slice ao rs.length cap, .int .i64 0] 27))) := HB1.out.alloc HB1.out.size _
  have HOB : Hid (ob ≠ w1.heap.size) := Nat.ne_of_lt HM1.out.lt
  have HL1 : Hid (W.heap.size ≤ w1.heap.size) := HB1.out.size
  have HN1 : Hid ((fun k => Old W.heap.size k ∨ k = w1.heap.size) w1.heap.size) := Or.inr rfl
  have HNT : Hid (tabBlock < W.heap.size) := HTL.out
  generalize (fun k => Old W.heap.size k ∨ k = w1.heap.size) = N1 at *
  go_upto_region 10 with (first | (go_at_call 14; refine (HP.out _).mono ?_; rintro e2 w2 ⟨rfl, rfl⟩) | (go_at_call 15; refine (HS.out _ HB1.out).mono ?_; rintro e3 w3 ⟨rfl, hk3⟩; have HK3 := (show Hid _ from hk3); clear hk3))
  have HM3 : Hid (Mach N1 W.heap.size ob G0 w3 g1) := HM2.out.other HK3.out (fun k e => e ▸ HN1.out) HOB.out
  have HB3 : Hid (Below W.heap.size W w3) := HB2.out.trans (HK3.out.below HB2.out.size (fun k e => e ▸ HL1.out))
  go_upto_region 13 with (first | (go_at_call 16; refine (HI.out _ HB3.out).mono ?_; rintro e4 w4 ⟨rfl, hb4⟩; have HM4 : Hid (Mach N1 W.heap.size ob G0 w4 g1) := HM3.out.below hb4; have HB4 : Hid (Below W.heap.size W w4) := HB3.out.trans (hb4.mono HB3.out.size); clear hb4) | (go_at_call 13; refine (HR1.out _ _ _ _ HNT.out HM4.out HB4.out).mono ?_; rintro e5 w5 ⟨g5, sa5, sn5, sc5, rfl, hM5, hb5, hk5⟩; have HM5 : Hid (Mach N1 W.heap.size ob (Rd.GX n) (w5.alloc (.cells #[.int .i64 1, .string ⟨#[120]⟩, .int .i64 0, .int .i64 2, .slice sa5 sn5 sc5] 34)) g5) := hM5.alloc _; have HB5 : Hid (Below W.heap.size W (w5.alloc (.cells #[.int .i64 1, .string ⟨#[120]⟩, .int .i64 0, .int .i64 2, .slice sa5 sn5 sc5] 34))) := (HB4.out.trans hb5).alloc (HB4.out.trans hb5).size _; clear hM5 hb5 hk5))
  go_upto_region 14 with (first | (go_at_call 13; refine (HR2.out _ _ _ _ HNT.out HM5.out HB5.out).mono ?_; rintro e6 w6 ⟨g6, sa6, sn6, sc6, rfl, hM6, hb6, hk6⟩; have HM6 : Hid (Mach N1 W.heap.size ob (Rd.GX n) (w6.alloc (.cells #[.int .i64 1, .string SV, .int .i64 0, .int .i64 k, .slice sa6 sn6 sc6] 34)) g6) := hM6.alloc _; have HB6 : Hid (Below W.heap.size W (w6.alloc (.cells #[.int .i64 1, .string SV, .int .i64 0, .int .i64 k, .slice sa6 sn6 sc6] 34))) := (HB5.out.trans hb6).alloc (HB5.out.trans hb6).size _; have HM7 : Hid (¬ g6.mut w6.heap.size) := hM6.new (Nat.le_refl _); clear hM6 hb6 hk6))
  have hat6 := at_new w6 (.cells #[.int .i64 1, .string SV, .int .i64 0, .int .i64 k, .slice sa6 sn6 sc6] 34)
  have hl7 : w6.heap.size < (w6.alloc (.cells #[.int .i64 1, .string SV, .int .i64 0, .int .i64 k, .slice sa6 sn6 sc6] 34)).heap.size := by simp
  have hnm : ¬ g6.mut w6.heap.size := HM7.out
  generalize w6.alloc (.cells #[.int .i64 1, .string SV, .int .i64 0, .int .i64 k, .slice sa6 sn6 sc6] 34) = w7 at *
  have q0 : w7.cell? ⟨w6.heap.size, 0, none⟩ = some (.int .i64 1) := cell_of_at hat6 0
  have q1 : w7.cell? ⟨w6.heap.size, 1, none⟩ = some (.string SV) := cell_of_at hat6 1
  have q3 : w7.cell? ⟨w6.heap.size, 3, none⟩ = some (.int .i64 k) := cell_of_at hat6 3
  have HAT := (show Hid _ from hat6)
  clear hat6
  go_region_held3 (fun X => X.cell? ⟨w6.heap.size, 0, none⟩ = some (.int .i64 1) ∧ X.cell? ⟨w6.heap.size, 1, none⟩ = some (.string SV)) (go_keep) (first | (go_at_call 16; refine (HIV.out _ HB6.out.drew).mono ?_; rintro e8 w8 ⟨rfl, hb8⟩; have z0 := (Kept.of_below hb8 (fun _ => False)).cell id q0; have z1 := (Kept.of_below hb8 (fun _ => False)).cell id q1))
  have hb78 : Below w7.heap.size w7 w8 := ((Below.refl _ w7).drew).trans hb8
  have HM8 : Hid (Mach N1 W.heap.size ob (Rd.GX n) w8 g6) := HM6.out.below hb78
  have HB8 : Hid (Below W.heap.size W w8) := HB6.out.trans (hb78.mono HB6.out.size)
  have hat8 := Below.at hb78 HAT.out
  have HAT8 := (show Hid _ from hat8)
  clear hb8 hb78 hat8 q0 q1 q3 z0 z1
  by_cases hfk : f < k
  · have hfk' : (f : Int) < (k : Int) := by omega
    have HE1 : Hid (Calls Tryz.prog 17 #[.pointer (some ⟨ob, 0, none⟩), .string S, .int .i64 f] w8 fun e w' => ∃ (y : Int) (sa : Option Addr) (sn sc : Nat), e = .returned (.tuple #[.agg #[.int .i64 3, .string ⟨#[]⟩, .int .i64 y, .int .i64 f, .slice sa sn sc], .int .i64 0, .int .i64 0]) ∧ Below W.heap.size w8 w' ∧ Kept g6.mut w8 w') := by
      have := HE.out _ _ _ _ HNT.out HM8.out HB8.out
      rw [if_pos hfk, if_pos hfk, if_pos hfk] at this
      exact this
    clear HE hfk
    go_wp2_with (first | (go_at_call 14; refine (HP2.out _).mono ?_; rintro e9 w9 ⟨rfl, rfl⟩) | (go_at_call 17; refine HE1.out.mono ?_; rintro e10 w10 ⟨y, sa10, sn10, sc10, rfl, hb10, hk10⟩; have hat10 := hk10.at hnm HAT8.out; have hl10 := lt_of_at hat10; have hne10 : w10.heap.size ≠ w6.heap.size := (by omega); have y0 : w10.cell? ⟨w6.heap.size, 0, none⟩ = some (.int .i64 1) := cell_of_at hat10 0; have y1 : w10.cell? ⟨w6.heap.size, 1, none⟩ = some (.string SV) := cell_of_at hat10 1; have y3 : w10.cell? ⟨w6.heap.size, 3, none⟩ = some (.int .i64 k) := cell_of_at hat10 3; have HB10 : Hid (Below W.heap.size W w10) := HB8.out.trans hb10; clear hb10 hk10 hat10))
    go_ret
    exact ⟨rfl, HB10.out.alloc HB10.out.size _⟩
  · have hfk' : ¬ (f : Int) < (k : Int) := by omega
    have HE1 : Hid (Calls Tryz.prog 17 #[.pointer (some ⟨ob, 0, none⟩), .string S, .int .i64 f] w8 fun e w' => ∃ (y : Int) (sa : Option Addr) (sn sc : Nat), e = .returned (.tuple #[.agg #[.int .i64 1, .string SV, .int .i64 y, .int .i64 k, .slice sa sn sc], .int .i64 0, .int .i64 0]) ∧ Below W.heap.size w8 w' ∧ Kept g6.mut w8 w') := by
      have := HE.out _ _ _ _ HNT.out HM8.out HB8.out
      rw [if_neg hfk, if_neg hfk, if_neg hfk] at this
      exact this
    clear HE hfk
    go_wp2_with (first | (go_at_call 14; refine (HP2.out _).mono ?_; rintro e9 w9 ⟨rfl, rfl⟩) | (go_at_call 17; refine HE1.out.mono ?_; rintro e10 w10 ⟨y, sa10, sn10, sc10, rfl, hb10, hk10⟩; have hat10 := hk10.at hnm HAT8.out; have hl10 := lt_of_at hat10; have hne10 : w10.heap.size ≠ w6.heap.size := (by omega); have y0 : w10.cell? ⟨w6.heap.size, 0, none⟩ = some (.int .i64 1) := cell_of_at hat10 0; have y1 : w10.cell? ⟨w6.heap.size, 1, none⟩ = some (.string SV) := cell_of_at hat10 1; have y3 : w10.cell? ⟨w6.heap.size, 3, none⟩ = some (.int .i64 k) := cell_of_at hat10 3; have HB10 : Hid (Below W.heap.size W w10) := HB8.out.trans hb10; clear hb10 hk10 hat10))
    go_ret
    exact ⟨rfl, HB10.out.alloc HB10.out.size _⟩
end Go.Proofs.YtodeeegbajgafaaGreatDoor
