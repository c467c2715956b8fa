/- rondokeep's fresh. What Listed calls: pick, Itoa; texts laid together. The maker: raw numbers are used up one by one. Sources that are forms out of raw numbers: which forms they are, and what these come to. The maker's sum: a form out of raw numbers, and what it comes to. A machine beside other memory; sources that come to values. The walk of Sums. Layers out of raw numbers: how they lie in memory, and how they are made. Layers around a form, and what they make of a number, walked. The walk of Nothing. Nothing, walked from its arguments on. -/
import Derived.Test.YtodeeegbajgafaaGreatDoorQ31
import Derived.Test.YtodeeegbajgafaaGreatDoorQ27
import Derived.Test.YtodeeegbajgafaaGreatDoorQ01
import Derived.Deep.Cut
namespace Go.Proofs.YtodeeegbajgafaaGreatDoor
open Go.RowKit
open Mc

theorem itoa11 : Lib.itoa 11 = [49, 49] := by
  rw [show (11 : Int) = ((11 : Nat) : Int) from rfl, Lib.itoa_nonneg, Lib.decDigits_two (by omega) (by omega)]
  rfl
/-- What is there at the start is not written. -/
def Old (B : Nat) (k : Nat) : Prop := k < B

theorem out1 (sh : Value) : outcome st1 (Lib.itoa 11) sh = .agg #[.int .i64 1, .string ⟨#[49, 49]⟩, .int .i64 0, .int .i64 st1.steps, sh] := by
  unfold outcome
  rw [if_pos st1_ctl.2, itoa11]
theorem out2 (sh : Value) : outcome st2 [] sh = .agg #[.int .i64 2, .string ⟨#[]⟩, .int .i64 2, .int .i64 st2.steps, sh] := by
  unfold outcome
  rw [if_neg (by rw [st2_kind.1]; decide), st2_kind.1, st2_kind.2]
  rfl

/-- The two runs of fresh. -/
theorem fresh_run1 (N : Nat → Prop) (B ob : Nat) (g : Gh) (w : World) (hM : Mach N B ob G0 w g) (hBw : B ≤ w.heap.size) (hNt : N tabBlock) (htab : TabOk w) :
    Calls Tryz.prog 13 #[ptrV ob, .string ⟨src1.toArray⟩] w fun e w' => ∃ g' sa sn sc, e = .returned (.tuple #[.agg #[.int .i64 1, .string ⟨#[49, 49]⟩, .int .i64 0, .int .i64 st1.steps, .slice sa sn sc], .bool true]) ∧ Mach N B ob st1.G w' g' ∧ Below B w w' := by
  refine (run13 shN callN N B ob G0 g src1 (fsOf src1) st1 (Lib.itoa 11) w hM hBw hNt htab (Forms.of isSrc1) (endsAt_ends ends1) src_ne.1 (fun _ v hv => ?_)).mono ?_
  · rw [st1_ctl.1] at hv
    cases hv
    exact ShowsAs.num (by omega) (by omega) (by rw [itoa11]; simp)
  · rintro e w' ⟨g', sa, sn, sc, rfl, h1, h2, h3⟩
    exact ⟨g', sa, sn, sc, by rw [out1], h1, h2.below hBw hM.high⟩
theorem fresh_run2 (N : Nat → Prop) (B ob : Nat) (g : Gh) (w : World) (hM : Mach N B ob st1.G w g) (hBw : B ≤ w.heap.size) (hNt : N tabBlock) (htab : TabOk w) :
    Calls Tryz.prog 13 #[ptrV ob, .string ⟨src2.toArray⟩] w fun e w' => ∃ sa sn sc, e = .returned (.tuple #[.agg #[.int .i64 2, .string ⟨#[]⟩, .int .i64 2, .int .i64 st2.steps, .slice sa sn sc], .bool true]) ∧ Below B w w' ∧ Kept g.mut w w' := by
  refine (run13 shN callN N B ob st1.G g src2 (fsOf src2) st2 [] w hM hBw hNt htab (Forms.of isSrc2) (endsAt_ends ends2) src_ne.2 (fun hk => ?_)).mono ?_
  · rw [st2_kind.1] at hk
    cases hk
  · rintro e w' ⟨g', sa, sn, sc, rfl, h1, h2, h3⟩
    exact ⟨sa, sn, sc, by rw [out2], h2.below hBw hM.high, h2⟩

set_option maxHeartbeats 8000000 in
set_option maxRecDepth 20000 in
theorem fresh10 (N : Nat → Prop) (w : World) (hN : ∀ k, N k → k < w.heap.size) (hNt : N tabBlock) (htab : TabOk w) :
    Calls Tryz.prog 10 #[] w fun e w' => ∃ ob g, e = .returned (ptrV ob) ∧ Mach N w.heap.size ob G0 w' g ∧ Below w.heap.size w w' := by
  have H1 : Hid (Calls Tryz.prog 23 #[] w fun e w' => ∃ ob g, e = .returned (.pointer (some ⟨ob, 0, none⟩)) ∧ Mach N w.heap.size ob G0 w' g ∧ Below w.heap.size w w') := new23 N w hN
  have H2 : Hid (∀ w1, Below w.heap.size w w1 → Calls Tryz.prog 23 #[] w1 fun e w' => ∃ ob g, e = .returned (.pointer (some ⟨ob, 0, none⟩)) ∧ Mach N w1.heap.size ob G0 w' g ∧ Below w1.heap.size w1 w') := fun w1 hb => new23 N w1 (fun k e => Nat.lt_of_lt_of_le (hN k e) hb.size)
  have tabs : ∀ W, Below w.heap.size w W → TabOk W := fun W hb => htab.on (hb.block _ htab.lt)
  have H3 : Hid (∀ w1 w2 ob g, Below w.heap.size w w1 → Below w1.heap.size w1 w2 → Mach N w1.heap.size ob G0 w2 g → Calls Tryz.prog 13 #[.pointer (some ⟨ob, 0, none⟩), .string ⟨src1.toArray⟩] w2 fun e w' => ∃ g' sa sn sc, e = .returned (.tuple #[.agg #[.int .i64 1, .string ⟨#[49, 49]⟩, .int .i64 0, .int .i64 st1.steps, .slice sa sn sc], .bool true]) ∧ Mach N w1.heap.size ob st1.G w' g' ∧ Below w1.heap.size w1 w') := fun w1 w2 ob g hb1 hb2 hM => (fresh_run1 N w1.heap.size ob g w2 hM hb2.size hNt (tabs _ (hb1.trans (hb2.mono hb1.size)))).mono fun e w' ⟨g', sa, sn, sc, he, h1, h2⟩ => ⟨g', sa, sn, sc, he, h1, hb2.trans h2⟩
  have H4 : Hid (∀ w1 w2 ob g, Below w.heap.size w w1 → Below w1.heap.size w1 w2 → Mach N w1.heap.size ob st1.G w2 g → Calls Tryz.prog 13 #[.pointer (some ⟨ob, 0, none⟩), .string ⟨#[40, 99, 97, 114, 32, 49, 41]⟩] w2 fun e w' => ∃ sa sn sc, e = .returned (.tuple #[.agg #[.int .i64 2, .string ⟨#[]⟩, .int .i64 2, .int .i64 st2.steps, .slice sa sn sc], .bool true]) ∧ Below w1.heap.size w1 w' ∧ Kept g.mut w2 w') := fun w1 w2 ob g hb1 hb2 hM => (fresh_run2 N w1.heap.size ob g w2 hM hb2.size hNt (tabs _ (hb1.trans (hb2.mono hb1.size)))).mono fun e w' ⟨sa, sn, sc, he, h2, h3⟩ => ⟨sa, sn, sc, he, hb2.trans h2, h3⟩
  clear hN tabs htab
  generalize st1.steps = n1 at *
  generalize st2.steps = n2 at *
  go_enter Tryz.func10, Tryz.ntmps10
  go_upto_region 2 with (first | (go_at_call 23; refine H1.out.mono ?_; rintro e1 w1 ⟨ob1, g1, rfl, hM1, hb1⟩; have HM1 := (show Hid _ from hM1); have HB1 := (show Hid _ from hb1); clear hM1 hb1))
  go_upto_region 5 with (first | (go_at_call 23; refine (H2.out _ HB1.out).mono ?_; rintro e2 w2 ⟨ob2, g2, rfl, hM2, hb2⟩; have HM2 := (show Hid _ from hM2); have HB2 := (show Hid _ from hb2); clear hM2 hb2))
  go_upto_region 6 with (first | (go_at_call 13; refine (H3.out _ _ _ _ HB1.out HB2.out HM2.out).mono ?_; rintro e3 w3 ⟨g3, sa3, sn3, sc3, rfl, hM3, hb3⟩; have HM3 : Hid (Mach N w1.heap.size ob2 st1.G (w3.alloc (.cells #[.int .i64 1, .string ⟨#[49, 49]⟩, .int .i64 0, .int .i64 n1, .slice sa3 sn3 sc3] 34)) g3) := hM3.below ((Below.refl _ w3).alloc (Nat.le_refl _) _); have HB3 : Hid (Below w1.heap.size w1 (w3.alloc (.cells #[.int .i64 1, .string ⟨#[49, 49]⟩, .int .i64 0, .int .i64 n1, .slice sa3 sn3 sc3] 34))) := hb3.alloc hb3.size _; have hnm : ¬ g3.mut w3.heap.size := fun e => Nat.lt_irrefl _ (Gh.low hM3.m _ e); clear hM3 hb3))
  have ha3 := at_new w3 (.cells #[.int .i64 1, .string ⟨#[49, 49]⟩, .int .i64 0, .int .i64 n1, .slice sa3 sn3 sc3] 34)
  have HA3 := (show Hid _ from ha3)
  clear ha3
  go_wp2_with (first | (go_at_call 13; refine (H4.out _ _ _ _ HB1.out HB3.out HM3.out).mono ?_; rintro e4 w4 ⟨sa4, sn4, sc4, rfl, hb4, hk4⟩; have hat := hk4.at hnm HA3.out; have hl := lt_of_at hat; have hne : w4.heap.size ≠ w3.heap.size := (by omega); have f0 : w4.cell? ⟨w3.heap.size, 0, none⟩ = some (.int .i64 1) := cell_of_at hat 0; have f1 : w4.cell? ⟨w3.heap.size, 1, none⟩ = some (.string ⟨#[49, 49]⟩) := cell_of_at hat 1; have HB4 := (show Hid _ from hb4); clear hb4 hk4 hat))
  go_ret
  have hbf : Below w1.heap.size w1 (w4.alloc (.cells #[.int .i64 2, .string ⟨#[]⟩, .int .i64 2, .int .i64 n2, .slice sa4 sn4 sc4] 34)) := HB4.out.alloc HB4.out.size _
  exact ⟨ob1, g1, rfl, HM1.out.below hbf, HB1.out.trans (hbf.mono HB1.out.size)⟩
end Go.Proofs.YtodeeegbajgafaaGreatDoor

namespace Go.Proofs.YtodeeegbajgafaaGreatDoor
open Go.RowKit
open Mc

set_option maxHeartbeats 1000000 in
theorem pick14 (c : Int) (n : Nat) (h0 : -9223372036854775808 ≤ c) (h1 : c ≤ 9223372036854775807) (hn : 0 < n) (hn1 : n ≤ 100000) (w : World) : Calls Tryz.prog 14 #[.int .i64 c, .int .i64 n] w fun e w' => e = .returned (.int .i64 (Rd.pickN c n : Nat)) ∧ w' = w := by
  have hlt := Rd.pickN_lt c n hn
  have hn0 : ¬ (n : Int) = 0 := by omega
  by_cases hc : c < 0
  · have hq : (-(c + 1)).tmod (n : Int) = (Rd.pickN c n : Nat) := by
      unfold Rd.pickN
      rw [if_pos hc, Int.tmod_eq_emod_of_nonneg (by omega)]
      have := Int.emod_nonneg (-(c + 1)) (b := (n : Int)) (by omega)
      omega
    have i1 : -9223372036854775808 ≤ c + 1 := by omega
    have i2 : c + 1 ≤ 9223372036854775807 := by omega
    have i3 : -9223372036854775808 ≤ -(c + 1) := by omega
    have i4 : -(c + 1) ≤ 9223372036854775807 := by omega
    have i5 : wrap64 ((Rd.pickN c n : Nat) : Int) = (Rd.pickN c n : Nat) := by unfold wrap64; omega
    generalize Rd.pickN c n = r at *
    go_enter Tryz.func14, Tryz.ntmps14
    go_wp2
    go_ret
    exact ⟨rfl, rfl⟩
  · have hq : c.tmod (n : Int) = (Rd.pickN c n : Nat) := by
      unfold Rd.pickN
      rw [if_neg hc, Int.tmod_eq_emod_of_nonneg (by omega)]
      have := Int.emod_nonneg c (b := (n : Int)) (by omega)
      omega
    have i5 : wrap64 ((Rd.pickN c n : Nat) : Int) = (Rd.pickN c n : Nat) := by unfold wrap64; omega
    generalize Rd.pickN c n = r at *
    go_enter Tryz.func14, Tryz.ntmps14
    go_wp2
    go_ret
    exact ⟨rfl, rfl⟩

theorem below_grow (w : World) (k : Nat) (os : Array Obj) : Below w.heap.size w (Sort.grow (w.drewN k) os) := by
  refine ⟨rfl, rfl, rfl, ?_, fun j hj => ?_⟩
  · show w.heap.size ≤ (w.heap ++ os).size
    simp
  · show (w.heap ++ os)[j]? = w.heap[j]?
    exact Array.getElem?_append_left hj
theorem itoa16 (n : Int) (h0 : -9223372036854775808 ≤ n) (h1 : n ≤ 9223372036854775807) (w : World) (ht : TabOk w) : Calls Tryz.prog 16 #[.int .i64 n] w fun e w' => e = .returned (.string ⟨(Lib.itoa n).toArray⟩) ∧ Below w.heap.size w w' :=
  (Tryz.strconv_Itoa n h0 h1 w ht).mono fun _ _ ⟨he, k, os, hw⟩ => ⟨he, hw ▸ below_grow w k os⟩
theorem cat (a b : List UInt8) : (⟨a.toArray⟩ : ByteArray) ++ ⟨b.toArray⟩ = ⟨(a ++ b).toArray⟩ := by
  apply ByteArray.ext
  simp
theorem sz (a : List UInt8) : (⟨a.toArray⟩ : ByteArray).size = a.length := by show a.toArray.size = _; simp
end Go.Proofs.YtodeeegbajgafaaGreatDoor

namespace Go.Proofs.YtodeeegbajgafaaGreatDoor
open Go.RowKit
open Mc

/-- A maker that has used up i of its numbers. -/
structure MkAt (rs : List Int) (ao : Option Addr) (cap mk i : Nat) (w : World) : Prop where
  blk : ∃ T, w.heap[mk]? = some (.cells #[.slice ao rs.length cap, .int .i64 i] T (0, 0))
  le : i ≤ rs.length
  cells : ∀ j (hj : j < rs.length), ∃ a, ao = some a ∧ a.block ≠ mk ∧ w.cell? (a.add j) = some (.int .i64 rs[j])
  range : ∀ j (hj : j < rs.length), -9223372036854775808 ≤ rs[j] ∧ rs[j] ≤ 9223372036854775807
  small : rs.length ≤ 9223372036854775807
theorem Kept.cellA {M : Nat → Prop} {w w' : World} (h : Kept M w w') {p : Addr} {v : Value} (hp : ¬ M p.block) (hc : w.cell? p = some v) : w'.cell? p = some v := by
  rw [← hc]
  exact World.cell?_of_block (h.block p.block (World.block_lt_of_cell? w p hc) hp)
theorem MkAt.kept {rs : List Int} {ao : Option Addr} {cap mk i : Nat} {w w' : World} (h : MkAt rs ao cap mk i w) {M : Nat → Prop} (hk : Kept M w w') (hm : ¬ M mk) (ha : ∀ a, ao = some a → ¬ M a.block) : MkAt rs ao cap mk i w' := by
  obtain ⟨T, hb⟩ := h.blk
  refine ⟨⟨T, hk.at hm hb⟩, h.le, fun j hj => ?_, h.range, h.small⟩
  obtain ⟨a, e1, e2, e3⟩ := h.cells j hj
  refine ⟨a, e1, e2, hk.cellA ?_ e3⟩
  have : (a.add j).block = a.block := by simp [Addr.add]; split <;> rfl
  rw [this]
  exact ha a e1
def NextR (rs : List Int) (ao : Option Addr) (cap mk i n : Nat) (w : World) : Ending → World → Prop := fun e w' => e = .returned (.int .i64 ((Rd.nextN n (rs.drop i)).1 : Nat)) ∧ ∃ i', MkAt rs ao cap mk i' w' ∧ rs.drop i' = (Rd.nextN n (rs.drop i)).2 ∧ Kept (· = mk) w w'
theorem add_block (a : Addr) (j : Nat) : (a.add j).block = a.block := by simp [Addr.add]; split <;> rfl

set_option maxHeartbeats 4000000 in
set_option maxRecDepth 20000 in
theorem next18 (rs : List Int) (ao : Option Addr) (cap mk i n : Nat) (hn : 0 < n) (hn1 : n ≤ 100000) (w : World) (h : MkAt rs ao cap mk i w) : Calls Tryz.prog 18 #[ptrV mk, .int .i64 n] w (NextR rs ao cap mk i n w) := by
  obtain ⟨T, hb⟩ := h.blk
  obtain ⟨c0, c1, f0, f1⟩ := cells2 hb
  have hsm := h.small
  by_cases hi : i < rs.length
  · obtain ⟨a, rfl, hne, hca⟩ := h.cells i hi
    obtain ⟨zl, zu⟩ := h.range i hi
    have hd : rs.drop i = rs[i] :: rs.drop (i + 1) := List.drop_eq_getElem_cons hi
    have hK : Kept (· = mk) w ((w.setCell ⟨mk, 1, none⟩ (.int .i64 ((i : Int) + 1))).drew.drew) := (((Kept.refl (fun k => k = mk) w).setCell (p := ⟨mk, 1, none⟩) (fun _ => rfl) _).drew).drew
    have hM : MkAt rs (some a) cap mk (i + 1) ((w.setCell ⟨mk, 1, none⟩ (.int .i64 ((i : Int) + 1))).drew.drew) := by
      refine ⟨⟨T, ?_⟩, by omega, fun j hj => ?_, h.range, h.small⟩
      · refine at_drew (at_drew ?_)
        rw [at_setCell hb 1 _]
        simp
      · obtain ⟨a', e1, e2, e3⟩ := h.cells j hj
        cases e1
        exact ⟨a, rfl, hne, hK.cellA (by rw [add_block]; exact hne) e3⟩
    have HF : Hid (NextR rs (some a) cap mk i n w (.returned (.int .i64 (Rd.pickN rs[i] n : Nat))) ((w.setCell ⟨mk, 1, none⟩ (.int .i64 ((i : Int) + 1))).drew.drew)) := by
      unfold NextR
      rw [hd]
      exact ⟨rfl, i + 1, hM, rfl, hK⟩
    have HP : Hid (∀ W, Calls Tryz.prog 14 #[.int .i64 rs[i], .int .i64 n] W fun e w' => e = .returned (.int .i64 (Rd.pickN rs[i] n : Nat)) ∧ w' = W) := fun W => pick14 rs[i] n zl zu hn hn1 W
    generalize rs[i] = z at *
    generalize Rd.pickN z n = r at *
    have i1 : ¬ (rs.length : Int) ≤ (i : Int) := by omega
    have i2 : -9223372036854775808 ≤ (i : Int) + 1 := by omega
    have i3 : (i : Int) + 1 ≤ 9223372036854775807 := by omega
    have i4 : IntKind.i64.wrap (i : Int) = (i : Int) := i64_in _ (by omega) (by omega)
    have i5 : (0 : Int) ≤ (i : Int) := by omega
    have i6 : (i : Int) < (rs.length : Int) := by omega
    have hne2 : (a.add i).block ≠ mk := by rw [add_block]; exact hne
    have hle : decide (rs.length ≤ i) = false := decide_eq_false (by omega)
    have e0 : (w.setCell ⟨mk, 1, none⟩ (.int .i64 ((i : Int) + 1))).cell? ⟨mk, 0, none⟩ = some (.slice (some a) rs.length cap) := by rw [cell_of_at (at_setCell hb 1 _)]; simp
    have e1 : (w.setCell ⟨mk, 1, none⟩ (.int .i64 ((i : Int) + 1))).cell? ⟨mk, 1, none⟩ = some (.int .i64 ((i : Int) + 1)) := by rw [cell_of_at (at_setCell hb 1 _)]; simp
    have e2 : (w.setCell ⟨mk, 1, none⟩ (.int .i64 ((i : Int) + 1))).cell? (a.add i) = some (.int .i64 z) := ((Kept.refl (fun k => k = mk) w).setCell (p := ⟨mk, 1, none⟩) (fun _ => rfl) _).cellA hne2 hca
    clear h hb hM hK hd hi i1
    unfold ptrV
    go_enter Tryz.func18, Tryz.ntmps18
    go_wp2
    go_region
    go_wp2_with fail
    go_region_held3 (fun X => X.cell? ⟨mk, 0, none⟩ = some (.slice (some a) rs.length cap) ∧ X.cell? ⟨mk, 1, none⟩ = some (.int .i64 ((i : Int) + 1)) ∧ X.cell? (a.add i) = some (.int .i64 z)) (go_keep) (first | (go_at_call 14; refine (HP.out _).mono ?_; rintro e2 w2 ⟨rfl, rfl⟩))
    all_goals
      go_wp2
      go_ret
      exact HF.out
  · have hd : rs.drop i = [] := List.drop_eq_nil_of_le (by omega)
    have hK : Kept (· = mk) w w.drew := (Kept.refl _ w).drew
    have hM : MkAt rs ao cap mk i w.drew := h.kept (M := fun _ => False) (Kept.refl _ w).drew id (fun _ _ => id)
    have HF : Hid (NextR rs ao cap mk i n w (.returned (.int .i64 0)) w.drew) := by
      unfold NextR
      rw [hd]
      exact ⟨rfl, i, hM, hd, hK⟩
    have hle : decide (rs.length ≤ i) = true := decide_eq_true (by omega)
    clear h hb hM hK hd hi
    unfold ptrV
    go_enter Tryz.func18, Tryz.ntmps18
    go_wp2
    go_region
    all_goals
      go_wp2
      go_ret
      exact HF.out
end Go.Proofs.YtodeeegbajgafaaGreatDoor

namespace Go.Proofs.YtodeeegbajgafaaGreatDoor
open Go.RowKit
open Mc
namespace Rd
theorem pForm_no_define {f : Nat} {env : List (List Sym)} {p : Nat} {d0 : D} {rest : List D} {x : F} (h : pForm (f + 1) env (.mk p (d0 :: rest) .empty) = some x) : d0.sym ≠ some kwDefine := by
  intro e
  rw [pForm_cons, if_neg (by simp), e] at h
  simp only at h
  rw [if_neg (by decide), if_neg (by decide), if_neg (by decide), if_neg (by decide), if_neg (by decide), if_neg (by decide), if_neg (by decide), if_neg (by decide), if_neg (by decide), if_neg (by decide), if_pos trivial] at h
  cases h
theorem pTop_form {f : Nat} {d : D} {x : F} (h : pForm (f + 1) [] d = some x) : pTop (f + 1) d = some x := by
  match d with
  | .mk p [] a => rw [pTop_leaf]; exact h
  | .mk p (d0 :: rest) .empty => rw [pTop_other (pForm_no_define h)]; exact h
  | .mk p (d0 :: rest) (.num _) => rw [pTop.eq_def]; exact h
  | .mk p (d0 :: rest) (.truth _) => rw [pTop.eq_def]; exact h
  | .mk p (d0 :: rest) (.sym _) => rw [pTop.eq_def]; exact h
/-- A text that is this form of a source. -/
def TT (l : List UInt8) (x : F) (K H : Nat) : Prop := Dt (fun d => ∀ f, K ≤ f → pTop f d = some x) l K H
theorem TT.of {l : List UInt8} {x : F} {K H : Nat} (h : FT Free l x K H) (hK : 1 ≤ K) : TT l x K H :=
  Dt.mono h (fun d hd f hf => by
    obtain ⟨f, rfl⟩ : ∃ g, f = g + 1 := ⟨f - 1, by omega⟩
    exact pTop_form (hd.2 [] Free.nil (f + 1) hf)) (Nat.le_refl _) (Nat.le_refl _)
theorem TT.mono {l : List UInt8} {x : F} {K H K' H' : Nat} (h : TT l x K H) (hk : K ≤ K') (hh : H ≤ H') : TT l x K' H' := Dt.mono h (fun _ hd f hf => hd f (by omega)) hk hh
/-- Texts that are these forms of a source. -/
def TTs (l : List UInt8) (xs : List F) (K H : Nat) : Prop := DtL (fun ds => ds.length = xs.length ∧ ∀ f, K ≤ f → pTops f ds = some xs) l K H
theorem TTs.one {l : List UInt8} {x : F} {K H : Nat} (h : TT l x K H) (hK : 1 ≤ K) : TTs l [x] (K + 1) H :=
  DtL.mono (DtL.one h hK) (by
    rintro ds ⟨d, rfl, hd⟩
    refine ⟨rfl, fun f hf => ?_⟩
    rw [pTops, hd f (by omega)]
    rfl) (Nat.le_refl _) (Nat.le_refl _)
/-- (define x n) -/
def defT (n : Int) : List UInt8 := [40, 100, 101, 102, 105, 110, 101, 32, 120, 32] ++ Lib.itoa n ++ [41]
theorem tt_def {n : Int} (h0 : -100 < n) (h1 : n < 1000) : TT (defT n) (defF' n) 5 1 := by
  have hn := (numW_itoa h0 h1).dt
  have i := Dt.list (DtL.cons dt_define (DtL.more dt_x' (DtL.one hn (Nat.le_refl _)).blank (stops_blank _)) (stops_blank _))
  have e : 40 :: (kwDefine ++ (32 :: (nX' ++ (32 :: Lib.itoa n))) ++ [41]) = defT n := by simp [defT, kwDefine, nX']
  rw [e] at i
  refine Dt.mono i ?_ (by omega) (by omega)
  rintro d ⟨p, ds, rfl, d0, ds', rfl, ⟨p0, rfl⟩, d1, ds'', rfl, ⟨p1, rfl⟩, v, rfl, ⟨p2, rfl⟩⟩ f hf
  obtain ⟨f, rfl⟩ : ∃ g, f = g + 1 := ⟨f - 1, by omega⟩
  rw [pTop.eq_def]
  simp only [D.sym_leaf, if_true]
  show (if keys.contains nX' then none else (pForm (f + 1) [] (.mk p2 [] (.num n))).map (F.define nX' ·)) = _
  rw [pForm_num]
  rfl
end Rd
/-- A source of such forms. -/
theorem Forms.ofTTs {l : List UInt8} {x : Rd.F} {xs : List Rd.F} {K H : Nat} (h : Rd.TTs l (x :: xs) K H) (hl : l.length ≤ 500) (hK : K ≤ 3000) (hH : H ≤ 20) (hx : xs.length ≤ 100) : Forms l (x :: xs) := by
  obtain ⟨ds, m, h1, ⟨h2, h3⟩, h4⟩ := Rd.DtL.reads h l.length
  refine ⟨hl, ds, K, ⟨by rw [sz]; exact hl, K, [], m, by omega, by rw [sz]; exact h1, rfl, by omega⟩, by omega, h3 K (Nat.le_refl _), by rw [h2]; simp; omega, ?_⟩
  rintro rfl
  simp at h2
namespace Mc
/-- A value of a form of a source on a machine. -/
theorem Ev.ends {G : List (Rd.Sym × V)} {sh : Sh} {f : Rd.F} {v : V} {k F : Nat} (h : Ev G [] f [] v k) (hk : k ≤ F) : Mc.Ends F sh (begin_ G) [f] (at_ G [] (.val v) [] [] k) := by
  obtain ⟨n, hn⟩ := h F sh [] [] 0 (by omega)
  rw [Nat.zero_add] at hn
  exact .one (s := begin_ G) hn (Or.inr ⟨⟨_, rfl⟩, rfl, rfl⟩)
/-- With too little fuel. -/
theorem Ev.stops {G : List (Rd.Sym × V)} {sh : Sh} {f : Rd.F} {v : V} {k F : Nat} (h : Ev G [] f [] v k) (hk : F < k) : ∃ u, Mc.Ends F sh (begin_ G) [f] u ∧ u.dry F := by
  obtain ⟨n, hn⟩ := h k sh [] [] 0 (by omega)
  rw [Nat.zero_add] at hn
  obtain ⟨m, u, h1, h2⟩ := Runs.less (f := F) hn (Nat.le_refl _) (Nat.zero_le _) hk
  exact ⟨u, .one (s := begin_ G) h1 (Or.inl (by rw [h2.1]; decide)), h2⟩
def stX (n : Int) : St := { begin_ (Rd.GX n) with ctl := .val (.atom (.sym Rd.nX')), steps := 2 }
theorem ends_def (n : Int) (sh : Sh) : Mc.Ends 20000 sh (begin_ G0) [Rd.defF' n] (stX n) :=
  .one (n := 3) (Runs.of rfl) (Or.inr ⟨⟨_, rfl⟩, rfl, rfl⟩)
end Mc
end Go.Proofs.YtodeeegbajgafaaGreatDoor

namespace Go.Proofs.YtodeeegbajgafaaGreatDoor
open Go.RowKit
open Mc

abbrev bs (l : List UInt8) : ByteArray := ⟨l.toArray⟩
def SumR (rs : List Int) (ao : Option Addr) (cap mk : Nat) (m : List UInt8 × Int × List Int) (w : World) : Ending → World → Prop := fun e w' => e = .returned (.tuple #[.string ⟨m.1.toArray⟩, .int .i64 m.2.1]) ∧ ∃ i', MkAt rs ao cap mk i' w' ∧ rs.drop i' = m.2.2 ∧ Kept (· = mk) w w'
/-- What the sum's text is made of. -/
def opB (c : Nat) (A B : ByteArray) : ByteArray := match c with
  | 0 => ⟨#[40, 45, 32]⟩ ++ A ++ ⟨#[32]⟩ ++ B ++ ⟨#[41]⟩
  | 1 => ⟨#[40, 108, 101, 116, 32, 40, 40, 118, 32]⟩ ++ A ++ ⟨#[41, 41, 32, 40, 43, 32, 118, 32]⟩ ++ B ++ ⟨#[41, 41]⟩
  | 2 => ⟨#[40, 105, 102, 32, 40, 60, 32]⟩ ++ A ++ ⟨#[32]⟩ ++ B ++ ⟨#[41, 32, 49, 32, 48, 41]⟩
  | 3 => ⟨#[40, 98, 101, 103, 105, 110, 32]⟩ ++ A ++ ⟨#[32]⟩ ++ B ++ ⟨#[41]⟩
  | 4 => ⟨#[40, 40, 108, 97, 109, 98, 100, 97, 32, 40, 121, 32, 122, 41, 32, 40, 45, 32, 122, 32, 121, 41, 41, 32]⟩ ++ A ++ ⟨#[32]⟩ ++ B ++ ⟨#[41]⟩
  | 5 => ⟨#[40, 99, 97, 114, 32, 40, 99, 100, 114, 32, 40, 108, 105, 115, 116, 32]⟩ ++ A ++ ⟨#[32]⟩ ++ B ++ ⟨#[41, 41, 41]⟩
  | _ => ⟨#[40, 43, 32]⟩ ++ A ++ ⟨#[32]⟩ ++ B ++ ⟨#[41]⟩
theorem opB_eq (c : Nat) (a b : List UInt8) : (⟨(Rd.opT c a b).toArray⟩ : ByteArray) = opB c ⟨a.toArray⟩ ⟨b.toArray⟩ := by
  apply ByteArray.ext
  unfold opB Rd.opT Rd.lamT
  split <;> simp
theorem mkSum_lim {x L : Int} (h0 : -L ≤ x) (h1 : x ≤ L) (hL : 100 ≤ L) (hL' : L ≤ 100000) (d : Nat) (raw : List Int) (hd : d ≤ 2) : -400000 ≤ (Rd.mkSum x d raw).2.1 ∧ (Rd.mkSum x d raw).2.1 ≤ 400000 ∧ (Rd.mkSum x d raw).1.length ≤ 200 := by
  obtain ⟨F, k, _, _, _, i4, i5, i6⟩ := Rd.mkSum_big (Rd.GX_has x) (Rd.GX_x x) h0 h1 hL hL' d raw hd
  have : d = 0 ∨ d = 1 ∨ d = 2 := by omega
  rcases this with rfl | rfl | rfl <;> simp at i4 i5 i6 <;> omega

set_option maxHeartbeats 8000000 in
set_option maxRecDepth 20000 in
theorem sum15_0 (rs : List Int) (ao : Option Addr) (cap mk : Nat) (x : Int) (hmt : mk ≠ tabBlock) (i : Nat) (w : World) (h : MkAt rs ao cap mk i w) (ht : TabOk w) :
    Calls Tryz.prog 15 #[ptrV mk, .int .i64 0, .int .i64 x] w (SumR rs ao cap mk (Rd.mkSum x 0 (rs.drop i)) w) := by
  have hn := Rd.nextN_lt 3 (rs.drop i) (by omega)
  have HN : Hid (Calls Tryz.prog 18 #[.pointer (some ⟨mk, 0, none⟩), .int .i64 3] w (NextR rs ao cap mk i 3 w)) := next18 rs ao cap mk i 3 (by omega) (by omega) w h
  have HN2 : Hid (∀ j w', MkAt rs ao cap mk j w' → Calls Tryz.prog 18 #[.pointer (some ⟨mk, 0, none⟩), .int .i64 19] w' (NextR rs ao cap mk j 19 w')) := fun j w' hj => next18 rs ao cap mk j 19 (by omega) (by omega) w' hj
  rw [Rd.mkSum]
  unfold NextR at HN
  have HT : Hid (TabOk w) := ht
  clear h ht
  generalize hnx : Rd.nextN 3 (rs.drop i) = nx at *
  obtain ⟨r, r1⟩ := nx
  simp only at *
  unfold ptrV
  cases r with
  | zero =>
    simp only
    go_enter Tryz.func15, Tryz.ntmps15
    go_wp2_with (first | (go_at_call 18; refine HN.out.mono ?_; rintro e2 w2 ⟨rfl, i2, hM2, hd2, hk2⟩; have HM2 := (show Hid _ from hM2); have HD2 := (show Hid _ from hd2); have HK2 := (show Hid _ from hk2); clear hM2 hd2 hk2))
    go_ret2
    exact ⟨rfl, i2, HM2.out, HD2.out, HK2.out⟩
  | succ r =>
    simp only
    have hr0 : ¬ ((r + 1 : Nat) : Int) = 0 := by omega
    have hb := Rd.nextN_lt 19 r1 (by omega)
    generalize hnx2 : Rd.nextN 19 r1 = nx2 at *
    obtain ⟨b, r2⟩ := nx2
    simp only at *
    have HN3 : Hid (∀ j w', MkAt rs ao cap mk j w' → rs.drop j = r1 → Calls Tryz.prog 18 #[.pointer (some ⟨mk, 0, none⟩), .int .i64 19] w' fun e w'' => e = .returned (.int .i64 (b : Nat)) ∧ ∃ i', MkAt rs ao cap mk i' w'' ∧ rs.drop i' = r2 ∧ Kept (· = mk) w' w'') := fun j w' hj e => by
      have := HN2.out j w' hj
      unfold NextR at this
      rw [e, hnx2] at this
      exact this
    have j1 : -9223372036854775808 ≤ (b : Int) - 9 := by omega
    have j2 : (b : Int) - 9 ≤ 9223372036854775807 := by omega
    have HI : Hid (∀ w', Kept (· = mk) w w' → Calls Tryz.prog 16 #[.int .i64 ((b : Int) - 9)] w' fun e w'' => e = .returned (.string ⟨(Lib.itoa ((b : Int) - 9)).toArray⟩) ∧ Below w'.heap.size w' w'') := fun w' hk => itoa16 _ j1 j2 w' (HT.out.kept hk (fun e => hmt e.symm))
    clear HN2 hnx hnx2
    generalize Lib.itoa ((b : Int) - 9) = T at *
    go_enter Tryz.func15, Tryz.ntmps15
    go_upto_region 4 with (first | (go_at_call 18; refine HN.out.mono ?_; rintro e2 w2 ⟨rfl, i2, hM2, hd2, hk2⟩; have HM2 := (show Hid _ from hM2); have HD2 := (show Hid _ from hd2); have HK2 := (show Hid _ from hk2); clear hM2 hd2 hk2))
    go_upto_region 5 with (first | (go_at_call 18; refine (HN3.out _ _ HM2.out HD2.out).mono ?_; rintro e3 w3 ⟨rfl, i3, hM3, hd3, hk3⟩; have HM3 := (show Hid _ from hM3); have HD3 := (show Hid _ from hd3); have HK3 := (show Hid _ from HK2.out.trans hk3); clear hM3 hd3 hk3))
    go_wp2_with (first | (go_at_call 16; refine (HI.out _ HK3.out).mono ?_; rintro e4 w4 ⟨rfl, hb4⟩; have HB4 := (show Hid _ from hb4); clear hb4))
    go_ret2
    have hk4 : Kept (fun k => k = mk) w3 w4 := Kept.of_below HB4.out _
    exact ⟨rfl, i3, HM3.out.kept (M := fun _ => False) (Kept.of_below HB4.out _) id (fun _ _ => id), HD3.out, HK3.out.trans hk4⟩

/-- What is known behind the three calls of a sum. -/
def Behind (rs : List Int) (ao : Option Addr) (cap mk : Nat) (r3 : List Int) (w w' : World) : Prop := ∃ i', MkAt rs ao cap mk i' w' ∧ rs.drop i' = r3 ∧ Kept (· = mk) w w'
set_option maxHeartbeats 8000000 in
set_option maxRecDepth 20000 in
theorem sum15_1 (rs : List Int) (ao : Option Addr) (cap mk : Nat) (x : Int) (d : Nat) (hd : d ≤ 1) (w : World) (A B : ByteArray) (hA : A.size ≤ 200) (hB : B.size ≤ 200) (p q : Int) (hp0 : -400000 ≤ p) (hp1 : p ≤ 400000) (hq0 : -400000 ≤ q) (hq1 : q ≤ 400000) (c : Nat) (hc : c < 8) (r1 r2 r3 : List Int)
    (H1 : Hid (Calls Tryz.prog 15 #[.pointer (some ⟨mk, 0, none⟩), .int .i64 d, .int .i64 x] w fun e w' => e = .returned (.tuple #[.string A, .int .i64 p]) ∧ Behind rs ao cap mk r1 w w'))
    (H2 : Hid (∀ w', Behind rs ao cap mk r1 w w' → Calls Tryz.prog 15 #[.pointer (some ⟨mk, 0, none⟩), .int .i64 d, .int .i64 x] w' fun e w'' => e = .returned (.tuple #[.string B, .int .i64 q]) ∧ Behind rs ao cap mk r2 w w''))
    (H3 : Hid (∀ w', Behind rs ao cap mk r2 w w' → Calls Tryz.prog 18 #[.pointer (some ⟨mk, 0, none⟩), .int .i64 8] w' fun e w'' => e = .returned (.int .i64 c) ∧ Behind rs ao cap mk r3 w w'')) :
    Calls Tryz.prog 15 #[.pointer (some ⟨mk, 0, none⟩), .int .i64 ((d + 1 : Nat) : Int), .int .i64 x] w fun e w' => e = .returned (.tuple #[.string (opB c A B), .int .i64 (Rd.opV c p q)]) ∧ Behind rs ao cap mk r3 w w' := by
  have d0 : ¬ ((d + 1 : Nat) : Int) = 0 := by omega
  have d1 : ((d + 1 : Nat) : Int) - 1 = d := by omega
  have d2 : -9223372036854775808 ≤ (d : Int) := by omega
  have d3 : (d : Int) ≤ 9223372036854775807 := by omega
  generalize ((d + 1 : Nat) : Int) = D at *
  generalize (d : Int) = d' at *
  clear hd
  generalize hX : opB c A B = X
  generalize hV : Rd.opV c p q = V
  go_enter Tryz.func15, Tryz.ntmps15
  go_upto_region 7 with (first | (go_at_call 15; refine H1.out.mono ?_; rintro e2 w2 ⟨rfl, hh2⟩; have HH2 := (show Hid _ from hh2); clear hh2))
  go_upto_region 8 with (first | (go_at_call 15; refine (H2.out _ HH2.out).mono ?_; rintro e3 w3 ⟨rfl, hh3⟩; have HH3 := (show Hid _ from hh3); clear hh3))
  have hcc : c = 0 ∨ c = 1 ∨ c = 2 ∨ c = 3 ∨ c = 4 ∨ c = 5 ∨ 6 ≤ c := by omega
  rcases hcc with rfl | rfl | rfl | rfl | rfl | rfl | hc6
  · skip
    have HX := (show Hid _ from hX)
    have HV := (show Hid _ from hV)
    clear hX hV
    have s1 : ¬ 9223372036854775807 < 3 + A.size := by omega
    have s2 : ¬ 9223372036854775807 < 3 + A.size + 1 := by omega
    have s3 : ¬ 9223372036854775807 < 3 + A.size + 1 + B.size := by omega
    have s4 : ¬ 9223372036854775807 < 3 + A.size + 1 + B.size + 1 := by omega
    have v1 : -9223372036854775808 ≤ p - q := by omega
    have v2 : p - q ≤ 9223372036854775807 := by omega
    go_wp2_with (first | (go_at_call 18; refine (H3.out _ HH3.out).mono ?_; rintro e4 w4 ⟨rfl, hh4⟩; have HH4 := (show Hid _ from hh4); clear hh4))
    go_ret2
    exact ⟨by rw [← HV.out, ← HX.out]; rfl, HH4.out⟩
  · skip
    have HX := (show Hid _ from hX)
    have HV := (show Hid _ from hV)
    clear hX hV
    have s1 : ¬ 9223372036854775807 < 9 + A.size := by omega
    have s2 : ¬ 9223372036854775807 < 9 + A.size + 8 := by omega
    have s3 : ¬ 9223372036854775807 < 9 + A.size + 8 + B.size := by omega
    have s4 : ¬ 9223372036854775807 < 9 + A.size + 8 + B.size + 2 := by omega
    have v1 : -9223372036854775808 ≤ p + q := by omega
    have v2 : p + q ≤ 9223372036854775807 := by omega
    go_wp2_with (first | (go_at_call 18; refine (H3.out _ HH3.out).mono ?_; rintro e4 w4 ⟨rfl, hh4⟩; have HH4 := (show Hid _ from hh4); clear hh4))
    go_ret2
    exact ⟨by rw [← HV.out, ← HX.out]; rfl, HH4.out⟩
  · skip
    have HX := (show Hid _ from hX)
    have s1 : ¬ 9223372036854775807 < 7 + A.size := by omega
    have s2 : ¬ 9223372036854775807 < 7 + A.size + 1 := by omega
    have s3 : ¬ 9223372036854775807 < 7 + A.size + 1 + B.size := by omega
    have s4 : ¬ 9223372036854775807 < 7 + A.size + 1 + B.size + 6 := by omega
    by_cases hpq : p < q
    · have ev : Rd.opV 2 p q = 1 := if_pos hpq
      have HV : Hid (V = 1) := hV.symm.trans ev
      clear ev hX hV
      go_wp2_with (first | (go_at_call 18; refine (H3.out _ HH3.out).mono ?_; rintro e4 w4 ⟨rfl, hh4⟩; have HH4 := (show Hid _ from hh4); clear hh4))
      go_ret2
      exact ⟨by rw [HV.out, ← HX.out]; rfl, HH4.out⟩
    · have ev : Rd.opV 2 p q = 0 := if_neg hpq
      have HV : Hid (V = 0) := hV.symm.trans ev
      clear ev hX hV
      go_wp2_with (first | (go_at_call 18; refine (H3.out _ HH3.out).mono ?_; rintro e4 w4 ⟨rfl, hh4⟩; have HH4 := (show Hid _ from hh4); clear hh4))
      go_ret2
      exact ⟨by rw [HV.out, ← HX.out]; rfl, HH4.out⟩
  · skip
    have HX := (show Hid _ from hX)
    have HV := (show Hid _ from hV)
    clear hX hV
    have s1 : ¬ 9223372036854775807 < 7 + A.size := by omega
    have s2 : ¬ 9223372036854775807 < 7 + A.size + 1 := by omega
    have s3 : ¬ 9223372036854775807 < 7 + A.size + 1 + B.size := by omega
    have s4 : ¬ 9223372036854775807 < 7 + A.size + 1 + B.size + 1 := by omega
    go_wp2_with (first | (go_at_call 18; refine (H3.out _ HH3.out).mono ?_; rintro e4 w4 ⟨rfl, hh4⟩; have HH4 := (show Hid _ from hh4); clear hh4))
    go_ret2
    exact ⟨by rw [← HV.out, ← HX.out]; rfl, HH4.out⟩
  · skip
    have HX := (show Hid _ from hX)
    have HV := (show Hid _ from hV)
    clear hX hV
    have s1 : ¬ 9223372036854775807 < 24 + A.size := by omega
    have s2 : ¬ 9223372036854775807 < 24 + A.size + 1 := by omega
    have s3 : ¬ 9223372036854775807 < 24 + A.size + 1 + B.size := by omega
    have s4 : ¬ 9223372036854775807 < 24 + A.size + 1 + B.size + 1 := by omega
    have v1 : -9223372036854775808 ≤ q - p := by omega
    have v2 : q - p ≤ 9223372036854775807 := by omega
    go_wp2_with (first | (go_at_call 18; refine (H3.out _ HH3.out).mono ?_; rintro e4 w4 ⟨rfl, hh4⟩; have HH4 := (show Hid _ from hh4); clear hh4))
    go_ret2
    exact ⟨by rw [← HV.out, ← HX.out]; rfl, HH4.out⟩
  · skip
    have HX := (show Hid _ from hX)
    have HV := (show Hid _ from hV)
    clear hX hV
    have s1 : ¬ 9223372036854775807 < 16 + A.size := by omega
    have s2 : ¬ 9223372036854775807 < 16 + A.size + 1 := by omega
    have s3 : ¬ 9223372036854775807 < 16 + A.size + 1 + B.size := by omega
    have s4 : ¬ 9223372036854775807 < 16 + A.size + 1 + B.size + 3 := by omega
    go_wp2_with (first | (go_at_call 18; refine (H3.out _ HH3.out).mono ?_; rintro e4 w4 ⟨rfl, hh4⟩; have HH4 := (show Hid _ from hh4); clear hh4))
    go_ret2
    exact ⟨by rw [← HV.out, ← HX.out]; rfl, HH4.out⟩
  · skip
    have n0 : ¬ (c : Int) = 0 := by omega
    have n1 : ¬ (c : Int) = 1 := by omega
    have n2 : ¬ (c : Int) = 2 := by omega
    have n3 : ¬ (c : Int) = 3 := by omega
    have n4 : ¬ (c : Int) = 4 := by omega
    have n5 : ¬ (c : Int) = 5 := by omega
    obtain ⟨c', rfl⟩ : ∃ c', c = c' + 6 := ⟨c - 6, by omega⟩
    have e1 : opB (c' + 6) A B = ⟨#[40, 43, 32]⟩ ++ A ++ ⟨#[32]⟩ ++ B ++ ⟨#[41]⟩ := rfl
    have e2 : Rd.opV (c' + 6) p q = p + q := rfl
    rw [e1] at hX
    rw [e2] at hV
    clear e1 e2
    generalize ((c' + 6 : Nat) : Int) = cc at *
    have HX := (show Hid _ from hX)
    have HV := (show Hid _ from hV)
    clear hX hV
    have s1 : ¬ 9223372036854775807 < 3 + A.size := by omega
    have s2 : ¬ 9223372036854775807 < 3 + A.size + 1 := by omega
    have s3 : ¬ 9223372036854775807 < 3 + A.size + 1 + B.size := by omega
    have s4 : ¬ 9223372036854775807 < 3 + A.size + 1 + B.size + 1 := by omega
    have v1 : -9223372036854775808 ≤ p + q := by omega
    have v2 : p + q ≤ 9223372036854775807 := by omega
    go_wp2_with (first | (go_at_call 18; refine (H3.out _ HH3.out).mono ?_; rintro e4 w4 ⟨rfl, hh4⟩; have HH4 := (show Hid _ from hh4); clear hh4))
    go_ret2
    exact ⟨by rw [← HV.out, ← HX.out]; rfl, HH4.out⟩

theorem sum15 (rs : List Int) (ao : Option Addr) (cap mk : Nat) (x L : Int) (h0 : -L ≤ x) (h1 : x ≤ L) (hL : 100 ≤ L) (hL' : L ≤ 100000) (hmt : mk ≠ tabBlock) : ∀ (d : Nat), d ≤ 2 → ∀ (i : Nat) (w : World), MkAt rs ao cap mk i w → TabOk w →
    Calls Tryz.prog 15 #[ptrV mk, .int .i64 d, .int .i64 x] w (SumR rs ao cap mk (Rd.mkSum x d (rs.drop i)) w)
  | 0, _, i, w, h, ht => sum15_0 rs ao cap mk x hmt i w h ht
  | d + 1, hd, i, w, h, ht => by
    have ih := sum15 rs ao cap mk x L h0 h1 hL hL' hmt d (by omega)
    have l1 := mkSum_lim h0 h1 hL hL' d (rs.drop i) (by omega)
    have l2 := mkSum_lim h0 h1 hL hL' d (Rd.mkSum x d (rs.drop i)).2.2 (by omega)
    have i1 := ih i w h ht
    have i2 : ∀ w', Behind rs ao cap mk (Rd.mkSum x d (rs.drop i)).2.2 w w' → Calls Tryz.prog 15 #[ptrV mk, .int .i64 d, .int .i64 x] w' fun e w'' => e = .returned (.tuple #[.string ⟨(Rd.mkSum x d (Rd.mkSum x d (rs.drop i)).2.2).1.toArray⟩, .int .i64 (Rd.mkSum x d (Rd.mkSum x d (rs.drop i)).2.2).2.1]) ∧ Behind rs ao cap mk (Rd.mkSum x d (Rd.mkSum x d (rs.drop i)).2.2).2.2 w w'' := by
      rintro w' ⟨j, hj, hdj, hk⟩
      have := ih j w' hj (ht.kept hk (fun e => hmt e.symm))
      rw [hdj] at this
      exact this.mono fun e w'' ⟨he, j', a, b, c⟩ => ⟨he, j', a, b, hk.trans c⟩
    have i3 : ∀ r w', Behind rs ao cap mk r w w' → Calls Tryz.prog 18 #[ptrV mk, .int .i64 8] w' fun e w'' => e = .returned (.int .i64 ((Rd.nextN 8 r).1 : Nat)) ∧ Behind rs ao cap mk (Rd.nextN 8 r).2 w w'' := by
      rintro r w' ⟨j, hj, rfl, hk⟩
      exact (next18 rs ao cap mk j 8 (by omega) (by omega) w' hj).mono fun e w'' ⟨he, j', a, b, c⟩ => ⟨he, j', a, b, hk.trans c⟩
    unfold SumR at i1 ⊢
    rw [Rd.mkSum]
    generalize Rd.mkSum x d (rs.drop i) = m1 at *
    obtain ⟨a, p, r1⟩ := m1
    simp only at *
    generalize Rd.mkSum x d r1 = m2 at *
    obtain ⟨b, q, r2⟩ := m2
    simp only at *
    have hc := Rd.nextN_lt 8 r2 (by omega)
    have i4 := i3 r2
    generalize Rd.nextN 8 r2 = m3 at *
    obtain ⟨c, r3⟩ := m3
    simp only at *
    rw [opB_eq]
    exact sum15_1 rs ao cap mk x d (by omega) w ⟨a.toArray⟩ ⟨b.toArray⟩ (by rw [sz]; exact l1.2.2) (by rw [sz]; exact l2.2.2) p q l1.1 l1.2.1 l2.1 l2.2.1 c hc r1 r2 r3 i1 i2 i4
end Go.Proofs.YtodeeegbajgafaaGreatDoor

namespace Go.Proofs.YtodeeegbajgafaaGreatDoor
open Go.RowKit
open Mc

theorem Mach.aside {N : Nat → Prop} {B ob : Nat} {G : List (Rd.Sym × V)} {w : World} {g : Gh} (h : Mach N B ob G w g) (o : Obj) : Mach (fun k => N k ∨ k = w.heap.size) B ob G (w.alloc o) g := ⟨at_alloc h.box _, h.low, h.fix, h.m.aside o, h.high⟩
/-- What is not the machine's may change. -/
theorem Mach.other {N M : Nat → Prop} {B ob : Nat} {G : List (Rd.Sym × V)} {w w' : World} {g : Gh} (h : Mach N B ob G w g) (hk : Kept M w w') (hM : ∀ k, M k → N k) (ho : ¬ M ob) : Mach N B ob G w' g :=
  ⟨hk.at ho h.box, h.low, h.fix, h.m.other hk.size (fun k hk' hn => hk.block k hk' (fun e => hn (hM k e))) (fun _ e => e), h.high⟩
theorem Mach.alloc {N : Nat → Prop} {B ob : Nat} {G : List (Rd.Sym × V)} {w : World} {g : Gh} (h : Mach N B ob G w g) (o : Obj) : Mach N B ob G (w.alloc o) g := h.below ((Below.refl _ w).alloc (Nat.le_refl _) _)
theorem Mach.lt {N : Nat → Prop} {B ob : Nat} {G : List (Rd.Sym × V)} {w : World} {g : Gh} (h : Mach N B ob G w g) : ob < w.heap.size := lt_of_at h.box
theorem Mach.new {N : Nat → Prop} {B ob : Nat} {G : List (Rd.Sym × V)} {w : World} {g : Gh} (h : Mach N B ob G w g) {k : Nat} (hk : w.heap.size ≤ k) : ¬ g.mut k := fun e => by have := Gh.low h.m k e; omega

/-- What a run that came to a value gives. -/
def ValR (N : Nat → Prop) (B ob : Nat) (g : Gh) (G' : List (Rd.Sym × V)) (txt : List UInt8) (k : Nat) (w : World) : Ending → World → Prop := fun e w' => ∃ g' sa sn sc, e = .returned (.tuple #[.agg #[.int .i64 1, .string ⟨txt.toArray⟩, .int .i64 0, .int .i64 k, .slice sa sn sc], .bool true]) ∧ Mach N B ob G' w' g' ∧ Below B w w' ∧ Kept g.mut w w'
theorem run_val {sh : V → Option (List UInt8)} (HC : CallC sh) {N : Nat → Prop} {B ob : Nat} {G G' : List (Rd.Sym × V)} {g : Gh} {s : List UInt8} {f : Rd.F} {v : V} {txt : List UInt8} {k : Nat} {sn : List (List UInt8)} {w : World} (hM : Mach N B ob G w g) (hBw : B ≤ w.heap.size) (hNt : N tabBlock) (htab : TabOk w) (hs : Forms s [f]) (hx : Mc.Ends 20000 sh (begin_ G) [f] (at_ G' sn (.val v) [] [] k)) (hshow : ShowsAs v txt) :
    Calls Tryz.prog 13 #[.pointer (some ⟨ob, 0, none⟩), .string ⟨s.toArray⟩] w (ValR N B ob g G' txt k w) := by
  refine (run13 sh HC N B ob G g s [f] _ txt w hM hBw hNt htab hs hx (by simp) (fun _ u hu => ?_)).mono ?_
  · cases hu
    exact hshow
  · rintro e w' ⟨g', sa, sn', sc, rfl, h1, h2, h3⟩
    exact ⟨g', sa, sn', sc, rfl, h1, h2.below hBw hM.high, h2⟩
theorem itoa_ne (n : Int) : Lib.itoa n ≠ [] := by
  by_cases hn : 0 ≤ n
  · obtain ⟨i, rfl⟩ := Int.eq_ofNat_of_zero_le hn
    show Lib.itoa (i : Int) ≠ []
    rw [Lib.itoa_nonneg, Lib.decDigits]
    split <;> simp
  · obtain ⟨i, hi⟩ := Int.eq_ofNat_of_zero_le (a := -n) (by omega)
    obtain rfl : n = -(i : Int) := by omega
    rw [Lib.itoa_neg i (by omega)]
    simp
theorem shows_num {n : Int} (h0 : -1000000000 ≤ n) (h1 : n ≤ 1000000000) : ShowsAs (Rd.num n) (Lib.itoa n) := ShowsAs.num (by omega) (by omega) (itoa_ne n)
theorem shows_x : ShowsAs (.atom (.sym Rd.nX')) Rd.nX' := ShowsAs.sym (by decide) (by decide)
theorem forms_def {n : Int} (h0 : -100 < n) (h1 : n < 1000) : Forms (Rd.defT n) [Rd.defF' n] := by
  refine Forms.ofTTs (Rd.TTs.one (Rd.tt_def h0 h1) (by omega)) ?_ (by omega) (by omega) (by simp)
  have := (Rd.numW_itoa h0 h1).short
  simp [Rd.defT]
  omega
theorem ends_def' (n : Int) (sh : Sh) : Mc.Ends 20000 sh (begin_ G0) [Rd.defF' n] (at_ (Rd.GX n) [] (.val (.atom (.sym Rd.nX'))) [] [] 2) := ends_def n sh
theorem forms_ft {l : List UInt8} {x : Rd.F} {K H : Nat} (h : Rd.FT Rd.Free l x K H) (hl : l.length ≤ 500) (hK : K ≤ 2000) (hK1 : 1 ≤ K) (hH : H ≤ 20) : Forms l [x] :=
  Forms.ofTTs (Rd.TTs.one (Rd.TT.of h hK1) hK1) hl (by omega) hH (by simp)
theorem defT_bytes (n : Int) : (⟨(Rd.defT n).toArray⟩ : ByteArray) = ⟨#[40, 100, 101, 102, 105, 110, 101, 32, 120, 32]⟩ ++ ⟨(Lib.itoa n).toArray⟩ ++ ⟨#[41]⟩ := by
  apply ByteArray.ext
  simp [Rd.defT]
/-- An evaluation with less fuel than it takes. -/
theorem outcome_dry {t : St} {F : Nat} (h : t.dry F) (txt : List UInt8) (sh : Value) : outcome t txt sh = .agg #[.int .i64 3, .string ⟨#[]⟩, .int .i64 t.why, .int .i64 F, sh] := by
  unfold outcome
  rw [if_neg (by rw [h.1]; decide), h.1, h.2]
  rfl
end Go.Proofs.YtodeeegbajgafaaGreatDoor

namespace Go.Proofs.YtodeeegbajgafaaGreatDoor
open Go.RowKit
open Mc

/-- A maker of numbers that came in. -/
theorem mk_new {W w1 : World} {ao : Option Addr} {cap : Nat} {rs : List Int} (hcell : ∀ i (hi : i < rs.length), ∃ a, ao = some a ∧ W.cell? (a.add i) = some (.int .i64 rs[i])) (hz : ∀ i (hi : i < rs.length), -9223372036854775808 ≤ rs[i] ∧ rs[i] ≤ 9223372036854775807) (hl : rs.length ≤ 9223372036854775807) (hb : Below W.heap.size W w1) (T : TypeId) :
    MkAt rs ao cap w1.heap.size 0 (w1.alloc (.cells #[.slice ao rs.length cap, .int .i64 0] T)) := by
  refine ⟨⟨T, at_new w1 _⟩, Nat.zero_le _, fun j hj => ?_, hz, hl⟩
  obtain ⟨a, rfl, hc⟩ := hcell j hj
  have hab := World.block_lt_of_cell? W _ hc
  rw [add_block] at hab
  have hs := hb.size
  have hk : Kept (fun _ => False) W (w1.alloc (.cells #[.slice (some a) rs.length cap, .int .i64 0] T)) := ⟨hb.os, hb.tape, hb.output, by simp; omega, fun k hk _ => by rw [Below.heap_alloc _ _ _ (by omega)]; exact hb.block k hk⟩
  exact ⟨a, rfl, by omega, hk.cellA id hc⟩

/-- The form that Sums makes, cut where it is too long. -/
theorem sums_form (rs : List Int) (n : Int) (h0 : -50 ≤ n) (h1 : n ≤ 50) : ∃ (T : List UInt8) (v : Int) (F : Rd.F) (k : Nat), Forms T [F] ∧ (∀ sn e, Ev (Rd.GX n) sn F e (Rd.num v) k) ∧ k ≤ 100 ∧ -400000 ≤ v ∧ v ≤ 400000 ∧
    ((¬ 400 < (Rd.mkSum n 2 rs).1.length ∧ T = (Rd.mkSum n 2 rs).1 ∧ v = (Rd.mkSum n 2 rs).2.1) ∨ (400 < (Rd.mkSum n 2 rs).1.length ∧ T = [120] ∧ v = n)) := by
  obtain ⟨F, k, i1, i2, i3, i4, i5, i6⟩ := Rd.mkSum_big (L := 100) (Rd.GX_has n) (Rd.GX_x n) (by omega) (by omega) (by omega) (by omega) 2 rs (by omega)
  by_cases hl : 400 < (Rd.mkSum n 2 rs).1.length
  · exact ⟨[120], n, _, 1, forms_ft Rd.ft_x (by decide) (by omega) (by omega) (by omega), fun sn e => .global (Rd.GX_x n) e, by omega, by omega, by omega, Or.inr ⟨hl, rfl, rfl⟩⟩
  · refine ⟨_, _, F, k, forms_ft i1 (by omega) (by omega) (by omega) (by omega), i3, by omega, ?_, ?_, Or.inl ⟨hl, rfl, rfl⟩⟩
    · simp at i4; omega
    · simp at i5; omega

def LessR (B : Nat) (g : Gh) (K : Nat) (T : ByteArray) (st : Nat) (w : World) : Ending → World → Prop := fun e w' => ∃ (y : Int) (sa : Option Addr) (sn sc : Nat), e = .returned (.tuple #[.agg #[.int .i64 K, .string T, .int .i64 y, .int .i64 st, .slice sa sn sc], .int .i64 0, .int .i64 0]) ∧ Below B w w' ∧ Kept g.mut w w'
theorem eval_less {N : Nat → Prop} {B ob : Nat} {G : List (Rd.Sym × V)} {g : Gh} {s : List UInt8} {F : Rd.F} {v : Int} {k f : Nat} {w : World} (hM : Mach N B ob G w g) (hBw : B ≤ w.heap.size) (hNt : N tabBlock) (htab : TabOk w) (hs : Forms s [F]) (hx : ∀ sn e, Ev G sn F e (Rd.num v) k) (hf : f ≤ 100) (h0 : -1000000 ≤ v) (h1 : v ≤ 1000000) :
    Calls Tryz.prog 17 #[.pointer (some ⟨ob, 0, none⟩), .string ⟨s.toArray⟩, .int .i64 f] w (LessR B g (if f < k then 3 else 1) (if f < k then ⟨#[]⟩ else ⟨(Lib.itoa v).toArray⟩) (if f < k then f else k) w) := by
  by_cases hfk : f < k
  · rw [if_pos hfk, if_pos hfk, if_pos hfk]
    obtain ⟨u, hu, hd⟩ := Ev.stops (sh := shN) (hx [] []) hfk
    refine (eval17 shN callN N B ob G g f (by omega) s [F] u [] w hM hBw hNt htab hs hu (by simp) (fun hk => by rw [hd.1] at hk; cases hk)).mono ?_
    rintro e w' ⟨g', sa, sn, sc, rfl, h1, h2, h3⟩
    exact ⟨_, sa, sn, sc, by rw [outcome_dry hd]; rfl, h2.below hBw hM.high, h2⟩
  · rw [if_neg hfk, if_neg hfk, if_neg hfk]
    refine (eval17 shN callN N B ob G g f (by omega) s [F] _ (Lib.itoa v) w hM hBw hNt htab hs (Ev.ends (hx [] []) (by omega)) (by simp) (fun hk u hu => ?_)).mono ?_
    · cases hu
      exact shows_num (by omega) (by omega)
    rintro e w' ⟨g', sa, sn, sc, rfl, h1, h2, h3⟩
    exact ⟨0, sa, sn, sc, rfl, h2.below hBw hM.high, h2⟩

set_option maxHeartbeats 16000000 in
set_option maxRecDepth 20000 in
theorem sums4 (W : World) (ao : Option Addr) (cap : Nat) (rs : List Int) (hl : rs.length ≤ cap) (hcap : cap ≤ maxLen) (hcell : ∀ i (hi : i < rs.length), ∃ a, ao = some a ∧ W.cell? (a.add i) = some (.int .i64 rs[i])) (hz : ∀ i (hi : i < rs.length), -9223372036854775808 ≤ rs[i] ∧ rs[i] ≤ 9223372036854775807) (x fuel : Int) (hx0 : -9223372036854775808 ≤ x) (hx1 : x ≤ 9223372036854775807) (hf0 : -9223372036854775808 ≤ fuel) (hf1 : fuel ≤ 9223372036854775807) (htab : TabOk W) :
    Calls Tryz.prog 4 #[.slice ao rs.length cap, .int .i64 x, .int .i64 fuel] W fun e w' => e = .returned (.bool true) ∧ Below W.heap.size W w' := by
  have hlt := htab.lt
  have hm : rs.length ≤ 9223372036854775807 := by unfold maxLen at hcap; omega
  have HF : Hid (Calls Tryz.prog 10 #[] W fun e w' => ∃ ob g, e = .returned (.pointer (some ⟨ob, 0, none⟩)) ∧ Mach (Old W.heap.size) W.heap.size ob G0 w' g ∧ Below W.heap.size W w') := fresh10 (Old W.heap.size) W (fun _ h => h) hlt htab
  have HT : Hid (∀ w', Below W.heap.size W w' → TabOk w') := fun w' hb => htab.on (hb.block _ hlt)
  have HP : Hid (∀ w, Calls Tryz.prog 14 #[.int .i64 x, .int .i64 100] w fun e w' => e = .returned (.int .i64 (Rd.pickN x 100 : Nat)) ∧ w' = w) := fun w => pick14 x 100 hx0 hx1 (by omega) (by omega) w
  have HP2 : Hid (∀ w, Calls Tryz.prog 14 #[.int .i64 fuel, .int .i64 100] w fun e w' => e = .returned (.int .i64 (Rd.pickN fuel 100 : Nat)) ∧ w' = w) := fun w => pick14 fuel 100 hf0 hf1 (by omega) (by omega) w
  have hr := Rd.pickN_lt x 100 (by omega)
  have hf := Rd.pickN_lt fuel 100 (by omega)
  generalize Rd.pickN x 100 = r at *
  generalize Rd.pickN fuel 100 = f at *
  have n0 : -9223372036854775808 ≤ (r : Int) - 50 := by omega
  have n1 : (r : Int) - 50 ≤ 9223372036854775807 := by omega
  have m0 : -50 ≤ (r : Int) - 50 := by omega
  have m1 : (r : Int) - 50 ≤ 50 := by omega
  generalize hn : (r : Int) - 50 = n at *
  obtain ⟨T, v, F, k, hT1, hT2, hk, v0, v1, hT3⟩ := sums_form rs n m0 m1
  have hlim := mkSum_lim (L := 100) (x := n) (by omega) (by omega) (by omega) (by omega) 2 rs (by omega)
  have HS : Hid (∀ w1, Below W.heap.size W w1 → Calls Tryz.prog 15 #[.pointer (some ⟨w1.heap.size, 0, none⟩), .int .i64 2, .int .i64 n] (w1.alloc (.cells #[.slice ao rs.length cap, .int .i64 0] 27)) fun e w' => e = .returned (.tuple #[.string ⟨(Rd.mkSum n 2 rs).1.toArray⟩, .int .i64 (Rd.mkSum n 2 rs).2.1]) ∧ Kept (· = w1.heap.size) (w1.alloc (.cells #[.slice ao rs.length cap, .int .i64 0] 27)) w') := fun w1 hb => by
    have hs := hb.size
    have := sum15 rs ao cap w1.heap.size n 100 (by omega) (by omega) (by omega) (by omega) (by omega) 2 (by omega) 0 _ (mk_new hcell hz hm hb 27) ((HT.out _ hb).on (Below.heap_alloc _ _ _ (by omega)))
    exact this.mono fun e w' ⟨he, i', _, _, h3⟩ => ⟨he, h3⟩
  have HI : Hid (∀ w', Below W.heap.size W w' → Calls Tryz.prog 16 #[.int .i64 n] w' fun e w'' => e = .returned (.string ⟨(Lib.itoa n).toArray⟩) ∧ Below w'.heap.size w' w'') := fun w' hb => itoa16 n n0 n1 w' (HT.out _ hb)
  have HIV : Hid (∀ w', Below W.heap.size W w' → Calls Tryz.prog 16 #[.int .i64 v] w' fun e w'' => e = .returned (.string ⟨(Lib.itoa v).toArray⟩) ∧ Below w'.heap.size w' w'') := fun w' hb => itoa16 v (by omega) (by omega) w' (HT.out _ hb)
  have HR1 : Hid (∀ N ob g w, N tabBlock → Mach N W.heap.size ob G0 w g → Below W.heap.size W w → Calls Tryz.prog 13 #[.pointer (some ⟨ob, 0, none⟩), .string (⟨#[40, 100, 101, 102, 105, 110, 101, 32, 120, 32]⟩ ++ ⟨(Lib.itoa n).toArray⟩ ++ ⟨#[41]⟩)] w fun e w' => ∃ g' sa sn sc, e = .returned (.tuple #[.agg #[.int .i64 1, .string ⟨#[120]⟩, .int .i64 0, .int .i64 2, .slice sa sn sc], .bool true]) ∧ Mach N W.heap.size ob (Rd.GX n) w' g' ∧ Below W.heap.size w w' ∧ Kept g.mut w w') := fun N ob g w hN hM hb => by
    rw [← defT_bytes]
    exact run_val callN hM hb.size hN (HT.out _ hb) (forms_def (by omega) (by omega)) (ends_def' n shN) shows_x
  have HR2 : Hid (∀ N ob g w, N tabBlock → Mach N W.heap.size ob (Rd.GX n) w g → Below W.heap.size W w → Calls Tryz.prog 13 #[.pointer (some ⟨ob, 0, none⟩), .string ⟨T.toArray⟩] w fun e w' => ∃ g' sa sn sc, e = .returned (.tuple #[.agg #[.int .i64 1, .string ⟨(Lib.itoa v).toArray⟩, .int .i64 0, .int .i64 k, .slice sa sn sc], .bool true]) ∧ Mach N W.heap.size ob (Rd.GX n) w' g' ∧ Below W.heap.size w w' ∧ Kept g.mut w w') := fun N ob g w hN hM hb => run_val callN hM hb.size hN (HT.out _ hb) hT1 (Ev.ends (hT2 [] []) (by omega)) (shows_num (by omega) (by omega))
  have HE : Hid (∀ N ob g w, N tabBlock → Mach N W.heap.size ob (Rd.GX n) w g → Below W.heap.size W w → Calls Tryz.prog 17 #[.pointer (some ⟨ob, 0, none⟩), .string ⟨T.toArray⟩, .int .i64 f] w (LessR W.heap.size g (if f < k then 3 else 1) (if f < k then ⟨#[]⟩ else ⟨(Lib.itoa v).toArray⟩) (if f < k then f else k) w)) := fun N ob g w hN hM hb => eval_less hM hb.size hN (HT.out _ hb) hT1 hT2 (by omega) (by omega) (by omega)
  have hsz := sz (Rd.mkSum n 2 rs).1
  have hnl := (Rd.numW_itoa (n := n) (by omega) (by omega)).short
  have hsn := sz (Lib.itoa n)
  have HTL : Hid (Old W.heap.size tabBlock) := hlt
  generalize (⟨(Lib.itoa n).toArray⟩ : ByteArray) = SN at *
  generalize (⟨(Lib.itoa v).toArray⟩ : ByteArray) = SV at *
  have s1 : ¬ 9223372036854775807 < 10 + SN.size := by omega
  have s2 : ¬ 9223372036854775807 < 10 + SN.size + 1 := by omega
  have u1 : ¬ (100 : Int) < 50 := by omega
  clear hcell hz htab hT1 hT2 hlt hnl hsn u1
  obtain ⟨_, rfl, rfl⟩ | ⟨h400, _⟩ := hT3
  rotate_left
  · omega
  generalize (Rd.mkSum n 2 rs).2.1 = v at *
  have hl4 : ¬ (400 : Int) < ((Rd.mkSum n 2 rs).1.length : Int) := by omega
  rw [← hsz] at hl4
  generalize (⟨(Rd.mkSum n 2 rs).1.toArray⟩ : ByteArray) = S at *
  clear hlim hsz
  go_enter Tryz.func4, Tryz.ntmps4
  go_upto_region 5 with (first | (go_at_call 10; refine HF.out.mono ?_; rintro e1 w1 ⟨ob, g1, rfl, hM1, hb1⟩; have HM1 := (show Hid _ from hM1); have HB1 : Hid (Below W.heap.size W w1) := hb1; clear hM1 hb1))
  have HM2 : Hid (Mach (fun k => Old W.heap.size k ∨ k = w1.heap.size) W.heap.size ob G0 (w1.alloc (.cells #[.slice ao rs.length cap, .int .i64 0] 27)) g1) := HM1.out.aside _
  have HB2 : Hid (Below W.heap.size W (w1.alloc (.cells #[.slice ao rs.length cap, .int .i64 0] 27))) := HB1.out.alloc HB1.out.size _
  have HOB : Hid (ob ≠ w1.heap.size) := Nat.ne_of_lt HM1.out.lt
  have HL1 : Hid (W.heap.size ≤ w1.heap.size) := HB1.out.size
  have HN1 : Hid ((fun k => Old W.heap.size k ∨ k = w1.heap.size) w1.heap.size) := Or.inr rfl
  have HNT : Hid ((fun k => Old W.heap.size k ∨ k = w1.heap.size) tabBlock) := Or.inl HTL.out
  generalize (fun k => Old W.heap.size k ∨ k = w1.heap.size) = N1 at *
  go_upto_region 10 with (first | (go_at_call 14; refine (HP.out _).mono ?_; rintro e2 w2 ⟨rfl, rfl⟩) | (go_at_call 15; refine (HS.out _ HB1.out).mono ?_; rintro e3 w3 ⟨rfl, hk3⟩; have HK3 := (show Hid _ from hk3); clear hk3))
  have HM3 : Hid (Mach N1 W.heap.size ob G0 w3 g1) := HM2.out.other HK3.out (fun k e => e ▸ HN1.out) HOB.out
  have HB3 : Hid (Below W.heap.size W w3) := HB2.out.trans (HK3.out.below HB2.out.size (fun k e => e ▸ HL1.out))
  go_upto_region 13 with (first | (go_at_call 16; refine (HI.out _ HB3.out).mono ?_; rintro e4 w4 ⟨rfl, hb4⟩; have HM4 : Hid (Mach N1 W.heap.size ob G0 w4 g1) := HM3.out.below hb4; have HB4 : Hid (Below W.heap.size W w4) := HB3.out.trans (hb4.mono HB3.out.size); clear hb4) | (go_at_call 13; refine (HR1.out _ _ _ _ HNT.out HM4.out HB4.out).mono ?_; rintro e5 w5 ⟨g5, sa5, sn5, sc5, rfl, hM5, hb5, hk5⟩; have HM5 : Hid (Mach N1 W.heap.size ob (Rd.GX n) (w5.alloc (.cells #[.int .i64 1, .string ⟨#[120]⟩, .int .i64 0, .int .i64 2, .slice sa5 sn5 sc5] 34)) g5) := hM5.alloc _; have HB5 : Hid (Below W.heap.size W (w5.alloc (.cells #[.int .i64 1, .string ⟨#[120]⟩, .int .i64 0, .int .i64 2, .slice sa5 sn5 sc5] 34))) := (HB4.out.trans hb5).alloc (HB4.out.trans hb5).size _; clear hM5 hb5 hk5))
  go_upto_region 14 with (first | (go_at_call 13; refine (HR2.out _ _ _ _ HNT.out HM5.out HB5.out).mono ?_; rintro e6 w6 ⟨g6, sa6, sn6, sc6, rfl, hM6, hb6, hk6⟩; have HM6 : Hid (Mach N1 W.heap.size ob (Rd.GX n) (w6.alloc (.cells #[.int .i64 1, .string SV, .int .i64 0, .int .i64 k, .slice sa6 sn6 sc6] 34)) g6) := hM6.alloc _; have HB6 : Hid (Below W.heap.size W (w6.alloc (.cells #[.int .i64 1, .string SV, .int .i64 0, .int .i64 k, .slice sa6 sn6 sc6] 34))) := (HB5.out.trans hb6).alloc (HB5.out.trans hb6).size _; have HM7 : Hid (¬ g6.mut w6.heap.size) := hM6.new (Nat.le_refl _); clear hM6 hb6 hk6))
  have hat6 := at_new w6 (.cells #[.int .i64 1, .string SV, .int .i64 0, .int .i64 k, .slice sa6 sn6 sc6] 34)
  have hl7 : w6.heap.size < (w6.alloc (.cells #[.int .i64 1, .string SV, .int .i64 0, .int .i64 k, .slice sa6 sn6 sc6] 34)).heap.size := by simp
  have hnm : ¬ g6.mut w6.heap.size := HM7.out
  generalize w6.alloc (.cells #[.int .i64 1, .string SV, .int .i64 0, .int .i64 k, .slice sa6 sn6 sc6] 34) = w7 at *
  have q0 : w7.cell? ⟨w6.heap.size, 0, none⟩ = some (.int .i64 1) := cell_of_at hat6 0
  have q1 : w7.cell? ⟨w6.heap.size, 1, none⟩ = some (.string SV) := cell_of_at hat6 1
  have q3 : w7.cell? ⟨w6.heap.size, 3, none⟩ = some (.int .i64 k) := cell_of_at hat6 3
  have HAT := (show Hid _ from hat6)
  clear hat6
  go_region_held3 (fun X => X.cell? ⟨w6.heap.size, 0, none⟩ = some (.int .i64 1) ∧ X.cell? ⟨w6.heap.size, 1, none⟩ = some (.string SV)) (go_keep) (first | (go_at_call 16; refine (HIV.out _ HB6.out.drew).mono ?_; rintro e8 w8 ⟨rfl, hb8⟩; have z0 := (Kept.of_below hb8 (fun _ => False)).cell id q0; have z1 := (Kept.of_below hb8 (fun _ => False)).cell id q1))
  have hb78 : Below w7.heap.size w7 w8 := ((Below.refl _ w7).drew).trans hb8
  have HM8 : Hid (Mach N1 W.heap.size ob (Rd.GX n) w8 g6) := HM6.out.below hb78
  have HB8 : Hid (Below W.heap.size W w8) := HB6.out.trans (hb78.mono HB6.out.size)
  have hat8 := Below.at hb78 HAT.out
  have HAT8 := (show Hid _ from hat8)
  clear hb8 hb78 hat8 q0 q1 q3 z0 z1
  by_cases hfk : f < k
  · have hfk' : (f : Int) < (k : Int) := by omega
    have HE1 : Hid (Calls Tryz.prog 17 #[.pointer (some ⟨ob, 0, none⟩), .string S, .int .i64 f] w8 fun e w' => ∃ (y : Int) (sa : Option Addr) (sn sc : Nat), e = .returned (.tuple #[.agg #[.int .i64 3, .string ⟨#[]⟩, .int .i64 y, .int .i64 f, .slice sa sn sc], .int .i64 0, .int .i64 0]) ∧ Below W.heap.size w8 w' ∧ Kept g6.mut w8 w') := by
      have := HE.out _ _ _ _ HNT.out HM8.out HB8.out
      rw [if_pos hfk, if_pos hfk, if_pos hfk] at this
      exact this
    clear HE hfk
    go_wp2_with (first | (go_at_call 14; refine (HP2.out _).mono ?_; rintro e9 w9 ⟨rfl, rfl⟩) | (go_at_call 17; refine HE1.out.mono ?_; rintro e10 w10 ⟨y, sa10, sn10, sc10, rfl, hb10, hk10⟩; have hat10 := hk10.at hnm HAT8.out; have hl10 := lt_of_at hat10; have hne10 : w10.heap.size ≠ w6.heap.size := (by omega); have y0 : w10.cell? ⟨w6.heap.size, 0, none⟩ = some (.int .i64 1) := cell_of_at hat10 0; have y1 : w10.cell? ⟨w6.heap.size, 1, none⟩ = some (.string SV) := cell_of_at hat10 1; have y3 : w10.cell? ⟨w6.heap.size, 3, none⟩ = some (.int .i64 k) := cell_of_at hat10 3; have HB10 : Hid (Below W.heap.size W w10) := HB8.out.trans hb10; clear hb10 hk10 hat10))
    go_ret
    exact ⟨rfl, HB10.out.alloc HB10.out.size _⟩
  · have hfk' : ¬ (f : Int) < (k : Int) := by omega
    have HE1 : Hid (Calls Tryz.prog 17 #[.pointer (some ⟨ob, 0, none⟩), .string S, .int .i64 f] w8 fun e w' => ∃ (y : Int) (sa : Option Addr) (sn sc : Nat), e = .returned (.tuple #[.agg #[.int .i64 1, .string SV, .int .i64 y, .int .i64 k, .slice sa sn sc], .int .i64 0, .int .i64 0]) ∧ Below W.heap.size w8 w' ∧ Kept g6.mut w8 w') := by
      have := HE.out _ _ _ _ HNT.out HM8.out HB8.out
      rw [if_neg hfk, if_neg hfk, if_neg hfk] at this
      exact this
    clear HE hfk
    go_wp2_with (first | (go_at_call 14; refine (HP2.out _).mono ?_; rintro e9 w9 ⟨rfl, rfl⟩) | (go_at_call 17; refine HE1.out.mono ?_; rintro e10 w10 ⟨y, sa10, sn10, sc10, rfl, hb10, hk10⟩; have hat10 := hk10.at hnm HAT8.out; have hl10 := lt_of_at hat10; have hne10 : w10.heap.size ≠ w6.heap.size := (by omega); have y0 : w10.cell? ⟨w6.heap.size, 0, none⟩ = some (.int .i64 1) := cell_of_at hat10 0; have y1 : w10.cell? ⟨w6.heap.size, 1, none⟩ = some (.string SV) := cell_of_at hat10 1; have y3 : w10.cell? ⟨w6.heap.size, 3, none⟩ = some (.int .i64 k) := cell_of_at hat10 3; have HB10 : Hid (Below W.heap.size W w10) := HB8.out.trans hb10; clear hb10 hk10 hat10))
    go_ret
    exact ⟨rfl, HB10.out.alloc HB10.out.size _⟩
end Go.Proofs.YtodeeegbajgafaaGreatDoor

namespace Go.Proofs.YtodeeegbajgafaaGreatDoor
open Go.RowKit
open Mc
open Rd (Lay layOf mkLays laysOf)

def layCells (l : Lay) : List Value := [.string ⟨l.left.toArray⟩, .string ⟨l.right.toArray⟩, .int .i64 l.times, .int .i64 l.more]
def laysCells (ls : List Lay) : List Value := ls.flatMap layCells
def layB (c : Nat) (n : Nat) (I : ByteArray) : List Value := match c with
  | 0 => [.string ⟨#[40, 45, 32]⟩, .string (⟨#[32]⟩ ++ I ++ ⟨#[41]⟩), .int .i64 1, .int .i64 (-(n : Int))]
  | 1 => [.string (⟨#[40, 45, 32]⟩ ++ I ++ ⟨#[32]⟩), .string ⟨#[41]⟩, .int .i64 (-1), .int .i64 n]
  | 2 => [.string ⟨#[40, 108, 101, 116, 32, 40, 40, 118, 32]⟩, .string (⟨#[41, 41, 32, 40, 43, 32, 118, 32]⟩ ++ I ++ ⟨#[41, 41]⟩), .int .i64 1, .int .i64 n]
  | 3 => [.string ⟨#[40, 42, 32, 51, 32]⟩, .string ⟨#[41]⟩, .int .i64 3, .int .i64 0]
  | 4 => [.string ⟨#[40, 98, 101, 103, 105, 110, 32, 40, 111, 114, 32, 35, 102, 32, 40, 45, 32]⟩, .string (⟨#[32]⟩ ++ I ++ ⟨#[41, 41, 41]⟩), .int .i64 1, .int .i64 (-(n : Int))]
  | 5 => [.string ⟨#[40, 40, 108, 97, 109, 98, 100, 97, 32, 40, 121, 41, 32, 40, 43, 32, 121, 32, 121, 41, 41, 32]⟩, .string ⟨#[41]⟩, .int .i64 2, .int .i64 0]
  | _ => [.string (⟨#[40, 43, 32]⟩ ++ I ++ ⟨#[32]⟩), .string ⟨#[41]⟩, .int .i64 1, .int .i64 n]
theorem bytes3 (a b c : List UInt8) : (⟨(a ++ b ++ c).toArray⟩ : ByteArray) = ⟨a.toArray⟩ ++ ⟨b.toArray⟩ ++ ⟨c.toArray⟩ := by
  rw [cat, cat]
theorem layB_eq (c n : Nat) : layCells (layOf c n) = layB c n ⟨(Lib.itoa n).toArray⟩ := by
  unfold layCells layOf layB Rd.lamYT
  split <;> simp only [bytes3] <;> rfl
theorem cell_four_new (w : World) (a b c d : Value) (T : TypeId) : ∀ j u, [a, b, c, d][j]? = some u → (w.alloc (.cells #[a, b, c, d] T)).cell? ((⟨w.heap.size, 0, none⟩ : Addr).add j) = some u := by
  intro j u hj
  have hat := at_new w (.cells #[a, b, c, d] T)
  match j, hj with
  | 0, hj => rw [show ((⟨w.heap.size, 0, none⟩ : Addr).add 0) = ⟨w.heap.size, 0, none⟩ from rfl, cell_of_at hat 0]; simpa using hj
  | 1, hj => rw [show ((⟨w.heap.size, 0, none⟩ : Addr).add 1) = ⟨w.heap.size, 1, none⟩ from rfl, cell_of_at hat 1]; simpa using hj
  | 2, hj => rw [show ((⟨w.heap.size, 0, none⟩ : Addr).add 2) = ⟨w.heap.size, 2, none⟩ from rfl, cell_of_at hat 2]; simpa using hj
  | 3, hj => rw [show ((⟨w.heap.size, 0, none⟩ : Addr).add 3) = ⟨w.heap.size, 3, none⟩ from rfl, cell_of_at hat 3]; simpa using hj
  | j + 4, hj => simp at hj
theorem MkAt.kept2 {rs : List Int} {ao : Option Addr} {cap mk i : Nat} {w w' : World} (h : MkAt rs ao cap mk i w) {M : Nat → Prop} (hk : Kept M w w') (hm : ¬ M mk) (ha : ∀ a, 0 < rs.length → ao = some a → ¬ M a.block) : MkAt rs ao cap mk i w' := by
  obtain ⟨T, hb⟩ := h.blk
  refine ⟨⟨T, hk.at hm hb⟩, h.le, fun j hj => ?_, h.range, h.small⟩
  obtain ⟨a, e1, e2, e3⟩ := h.cells j hj
  refine ⟨a, e1, e2, hk.cellA ?_ e3⟩
  rw [add_block]
  exact ha a (by omega) e1
theorem Tryz.info73 : (Tryz.prog.info? 73).map (fun i => (i.zero, i.size, i.bytes)) = some (some (.agg #[.string ⟨#[]⟩, .string ⟨#[]⟩, .int .i64 0, .int .i64 0]), 4, 48) := by kernel_rfl
theorem own_kept {M : Nat → Prop} {B e z n : Nat} {v : Value} {xs : List Value} {w w' : World} (h : w.ownsRow B e z v n xs) (hk : Kept M w w') (hM : ∀ k, B ≤ k → ¬ M k) : w'.ownsRow B e z v n xs := by
  obtain ⟨a, b | ⟨gb, cap, cur, hv, hB, hh, r⟩⟩ := h
  · exact ⟨a, Or.inl b⟩
  · exact ⟨a, Or.inr ⟨gb, cap, cur, hv, hB, hk.at (hM gb hB) hh, r⟩⟩
/-- Where the loop stands. -/
structure LayG (rs : List Int) (ao : Option Addr) (cap : Nat) (w0 : World) (gk : Nat) (v4 v5 : Value) (wr : World) (i : Nat) (done : List Lay) : Prop where
  cnt : v5 = .int .i64 (gk : Nat)
  mkr : MkAt rs ao cap w0.heap.size i wr
  sum : done ++ mkLays gk (rs.drop i) = laysOf rs
  own : wr.ownsRow (w0.heap.size + 1) 73 4 v4 done.length (laysCells done)
  below : Below w0.heap.size w0 wr
  few : done.length + gk ≤ 3
def LaysR (rs : List Int) (w : World) : Ending → World → Prop := fun e w' => ∃ v, e = .returned v ∧ w'.ownsRow w.heap.size 73 4 v (laysOf rs).length (laysCells (laysOf rs)) ∧ Below w.heap.size w w'
theorem own_mono {B B' e z n : Nat} {v : Value} {xs : List Value} {w : World} (h : w.ownsRow B e z v n xs) (hb : B' ≤ B) : w.ownsRow B' e z v n xs := by
  obtain ⟨a, b | ⟨gb, cap, cur, hv, hB, r⟩⟩ := h
  · exact ⟨a, Or.inl b⟩
  · exact ⟨a, Or.inr ⟨gb, cap, cur, hv, Nat.le_trans hb hB, r⟩⟩

set_option maxHeartbeats 16000000 in
set_option maxRecDepth 20000 in
theorem layers19 (rs : List Int) (ao : Option Addr) (cap : Nat) (W : World) (hl : rs.length ≤ cap) (hcap : cap ≤ maxLen) (w0 : World) (hb0 : Below W.heap.size W w0) (hcell : ∀ i (hi : i < rs.length), ∃ a, ao = some a ∧ W.cell? (a.add i) = some (.int .i64 rs[i])) (hz : ∀ i (hi : i < rs.length), -9223372036854775808 ≤ rs[i] ∧ rs[i] ≤ 9223372036854775807) (htab : TabOk W) :
    Calls Tryz.prog 19 #[.slice ao rs.length cap] w0 (LaysR rs w0) := by
  obtain ⟨i0, hi, hz0, hz1, hz2⟩ := info_parts Tryz.info73
  have hm : rs.length ≤ 9223372036854775807 := by unfold maxLen at hcap; omega
  have hlt := htab.lt
  have hs0 := hb0.size
  have hmk0 := mk_new (cap := cap) hcell hz hm hb0 27
  have HAB : Hid (∀ a, 0 < rs.length → ao = some a → a.block < w0.heap.size) := fun a h0 e => by
    obtain ⟨a', e', hc⟩ := hcell 0 h0
    cases e'.symm.trans e
    have := World.block_lt_of_cell? W _ hc
    rw [add_block] at this
    omega
  have HT : Hid (∀ w', Below w0.heap.size w0 w' → TabOk w') := fun w' hb => htab.on ((hb0.trans (hb.mono hs0)).block _ hlt)
  have HN : Hid (∀ (m i : Nat) (w : World), 0 < m → m ≤ 100 → MkAt rs ao cap w0.heap.size i w → Calls Tryz.prog 18 #[.pointer (some ⟨w0.heap.size, 0, none⟩), .int .i64 m] w (NextR rs ao cap w0.heap.size i m w)) := fun m i w h0 h1 h => next18 rs ao cap w0.heap.size i m h0 (Nat.le_trans h1 (by decide)) w h
  have hB1 : Below w0.heap.size w0 (w0.alloc (.cells #[.slice ao rs.length cap, .int .i64 0] 27)) := (Below.refl _ w0).alloc (Nat.le_refl _) _
  have HN4 := next18 rs ao cap w0.heap.size 0 4 (by omega) (by omega) _ hmk0
  have h4 := Rd.nextN_lt 4 rs (by omega)
  unfold NextR at HN4
  rw [List.drop_zero] at HN4
  have hlays : laysOf rs = mkLays (Rd.nextN 4 rs).1 (Rd.nextN 4 rs).2 := rfl
  obtain ⟨kk, r0, hkk⟩ : ∃ kk r0, Rd.nextN 4 rs = (kk, r0) := ⟨_, _, rfl⟩
  simp only [hkk] at HN4 h4 hlays
  have HN4' : Hid (Calls Tryz.prog 18 #[.pointer (some ⟨w0.heap.size, 0, none⟩), .int .i64 4] (w0.alloc (.cells #[.slice ao rs.length cap, .int .i64 0] 27)) fun e w' => e = .returned (.int .i64 (kk : Nat)) ∧ ∃ i', MkAt rs ao cap w0.heap.size i' w' ∧ rs.drop i' = r0 ∧ Below w0.heap.size w0 w') := HN4.mono fun e w' ⟨he, i', h1, h2, h3⟩ => ⟨he, i', h1, h2, hB1.trans (h3.below hB1.size (fun k e => by omega))⟩
  have HLY := (show Hid _ from hlays)
  clear HN4 hlays hcell hz hmk0 hB1 htab hb0
  go_enter Tryz.func19, Tryz.ntmps19
  go_upto_region 4 with (first | (go_at_call 18; refine HN4'.out.mono ?_; rintro e1 w1 ⟨rfl, i1, hM1, hd1, hb1⟩; have HM1 := (show Hid _ from hM1); have HD1 := (show Hid _ from hd1); have HB1 := (show Hid _ from hb1); clear hM1 hd1 hb1))
  go_loopg [4, 5] kk (fun gk v4 v5 wr => ∃ i done, LayG rs ao cap w0 gk v4 v5 wr i done)
  case atStart => exact ⟨i1, [], rfl, HM1.out, by rw [HD1.out, HLY.out]; rfl, ⟨rfl, Or.inl ⟨rfl, rfl⟩⟩, HB1.out, by simp; omega⟩
  case round =>
    obtain ⟨i, done, hG⟩ := hrel
    obtain rfl := hG.cnt
    obtain ⟨la, ln, lc, rfl⟩ := owns_slice hG.own
    cases gk with
    | zero =>
      have hF : LaysR rs w0 (.returned (.slice la ln lc)) wr := by
        have hs := hG.sum
        simp only [mkLays, List.append_nil] at hs
        have ho := own_mono (B' := w0.heap.size) hG.own (by omega)
        rw [hs] at ho
        exact ⟨_, rfl, ho, hG.below⟩
      have HF := (show Hid _ from hF)
      clear hF hG
      go_wp2
      go_ret
      exact HF.out
    | succ k =>
      have hsum := hG.sum
      rw [mkLays] at hsum
      have HN9 := HN.out 9 i wr (by omega) (by omega) hG.mkr
      unfold NextR at HN9
      have h9 := Rd.nextN_lt 9 (rs.drop i) (by omega)
      obtain ⟨n, r1, hnr⟩ : ∃ n r1, Rd.nextN 9 (rs.drop i) = (n, r1) := ⟨_, _, rfl⟩
      simp only [hnr] at HN9 h9 hsum
      have h7 := Rd.nextN_lt 7 r1 (by omega)
      obtain ⟨c, r2, hnx7⟩ : ∃ c r2, Rd.nextN 7 r1 = (c, r2) := ⟨_, _, rfl⟩
      simp only [hnx7] at h7 hsum
      have HN7 : Hid (∀ j w, MkAt rs ao cap w0.heap.size j w → rs.drop j = r1 → Calls Tryz.prog 18 #[.pointer (some ⟨w0.heap.size, 0, none⟩), .int .i64 7] w fun e w' => e = .returned (.int .i64 (c : Nat)) ∧ ∃ i', MkAt rs ao cap w0.heap.size i' w' ∧ rs.drop i' = r2 ∧ Kept (· = w0.heap.size) w w') := fun j w hj e => by
        have := HN.out 7 j w (by omega) (by omega) hj
        unfold NextR at this
        rw [e, hnx7] at this
        exact this
      have HI : Hid (∀ w', Below w0.heap.size w0 w' → Calls Tryz.prog 16 #[.int .i64 (n : Nat)] w' fun e w'' => e = .returned (.string ⟨(Lib.itoa (n : Nat)).toArray⟩) ∧ Below w'.heap.size w' w'') := fun w' hb => itoa16 _ (by omega) (by omega) w' (HT.out _ hb)
      have hIl := (Rd.numW_itoa (n := (n : Int)) (by omega) (by omega)).short
      have hIs := sz (Lib.itoa (n : Int))
      have hown := hG.own
      have hbel := hG.below
      have hfew := hG.few
      have hln : ln = done.length := by
        obtain ⟨_, ⟨e, h0⟩ | ⟨gb, cp, cur, e, _⟩⟩ := hown
        · cases e; exact h0.symm
        · cases e; rfl
      subst hln
      have hR : ∀ w' v' j, w'.ownsRow (w0.heap.size + 1) 73 4 v' (done.length + 1) (laysCells done ++ layB c n ⟨(Lib.itoa (n : Nat)).toArray⟩) → MkAt rs ao cap w0.heap.size j w' → rs.drop j = r2 → Below w0.heap.size w0 w' → ∃ i done, LayG rs ao cap w0 k v' (.int .i64 (k : Nat)) w' i done := fun w' v' j ho hj hd hb => by
        refine ⟨j, done ++ [layOf c n], rfl, hj, by rw [hd, ← hsum]; simp, ?_, hb, by simp; omega⟩
        rw [← layB_eq] at ho
        simpa [laysCells] using ho
      have HR := (show Hid _ from hR)
      have HOW : Hid (wr.ownsRow (w0.heap.size + 1) 73 4 (.slice la done.length lc) done.length (laysCells done)) := hown
      have HBE : Hid (Below w0.heap.size w0 wr) := hbel
      have h1k : ((k + 1 : Nat) : Int) - 1 = (k : Nat) := by omega
      have hk0 : (0 : Int) < ((k + 1 : Nat) : Int) := by omega
      have hk1 : -9223372036854775808 ≤ ((k : Nat) : Int) := by omega
      have hk2 : ((k : Nat) : Int) ≤ 9223372036854775807 := by omega
      have HG1 : Hid (∀ w w', w.ownsRow (w0.heap.size + 1) 73 4 (.slice la done.length lc) done.length (laysCells done) → w0.heap.size + 1 ≤ w.heap.size → w.grownBy w' (Value.slice la done.length lc).ownBlock → Below (w0.heap.size + 1) w w') := fun w w' ho hs hg => own_grown ho hs hg
      clear hG hR hsum hown hbel hnx7
      generalize (⟨(Lib.itoa (n : Nat)).toArray⟩ : ByteArray) = I at *
      generalize ((k + 1 : Nat) : Int) = K1 at *
      have hn1 : -9223372036854775808 ≤ -(n : Int) := by omega
      have hn2 : -(n : Int) ≤ 9223372036854775807 := by omega
      go_upto_region 7 with (first | (go_at_call 18; refine HN9.mono ?_; rintro e2 w2 ⟨rfl, i2, hM2, hd2, hk2⟩; have HM2 := (show Hid _ from hM2); have HD2 := (show Hid _ from hd2); have HK2 := (show Hid _ from hk2); clear hM2 hd2 hk2))
      have hk12 : Kept (fun x => x = w0.heap.size) wr w2 := HK2.out
      have HO2 : Hid (w2.ownsRow (w0.heap.size + 1) 73 4 (.slice la done.length lc) done.length (laysCells done)) := own_kept HOW.out hk12 (fun k h e => by omega)
      have HB2 : Hid (Below w0.heap.size w0 w2) := HBE.out.trans (hk12.below HBE.out.size (fun k e => by omega))
      clear hk12 HK2
      go_upto_region 10 with (first | (go_at_call 16; refine (HI.out _ HB2.out).mono ?_; rintro e3 w3 ⟨rfl, hb3⟩; have HO3 : Hid (w3.ownsRow (w0.heap.size + 1) 73 4 (.slice la done.length lc) done.length (laysCells done)) := own_kept HO2.out (Kept.of_below hb3 (fun _ => False)) (fun _ _ => id); have HB3 : Hid (Below w0.heap.size w0 w3) := HB2.out.trans (hb3.mono HB2.out.size); have HM3 : Hid (MkAt rs ao cap w0.heap.size i2 w3) := HM2.out.kept2 (M := fun _ => False) (Kept.of_below hb3 _) id (fun _ _ _ => id); clear hb3) | (go_at_call 18; refine (HN7.out _ _ HM3.out HD2.out).mono ?_; rintro e4 w4 ⟨rfl, i4, hM4, hd4, hk4⟩; have HM4 : Hid (MkAt rs ao cap w0.heap.size i4 w4) := hM4; have HD4 : Hid (rs.drop i4 = r2) := hd4; have HO4 : Hid (w4.ownsRow (w0.heap.size + 1) 73 4 (.slice la done.length lc) done.length (laysCells done)) := own_kept HO3.out hk4 (fun k h e => by omega); have HB4 : Hid (Below w0.heap.size w0 w4) := HB3.out.trans (hk4.below HB3.out.size (fun k e => by omega)); clear hM4 hd4 hk4))
      have HS4 : Hid (w0.heap.size < w4.heap.size) := (by obtain ⟨T, hb⟩ := HM4.out.blk; exact lt_of_at hb)
      have HFIN : Hid (∀ cells w9 v9, w9.ownsRow (w0.heap.size + 1) 73 4 v9 (done.length + 1) (laysCells done ++ layB c n I) → (w4.alloc (.cells cells 73)).grownBy w9 (Value.slice la done.length lc).ownBlock → ∃ i done, LayG rs ao cap w0 k v9 (.int .i64 (k : Nat)) w9 i done) := fun cells w9 v9 ho hg => by
        have hs := HS4.out
        have hb9 := HG1.out _ _ (HO4.out.alloc (.cells cells 73)) (by simp; omega) hg
        have hk9 : Kept (fun k => w0.heap.size < k) w4 w9 := ⟨hb9.os, hb9.tape, hb9.output, by have := hb9.size; simp at this; omega, fun k hk hm => (hb9.block k (by omega)).trans (Below.heap_alloc _ _ _ hk)⟩
        exact HR.out w9 v9 i4 ho (HM4.out.kept2 hk9 (Nat.lt_irrefl _) (fun a h0 e => by have := HAB.out a h0 e; omega)) HD4.out (HB4.out.trans ⟨hk9.os, hk9.tape, hk9.output, hk9.size, fun j hj => hk9.block j (by omega) (by omega)⟩)
      have HO4A : Hid (∀ cells, (w4.alloc (.cells cells 73)).ownsRow (w0.heap.size + 1) 73 4 (.slice la done.length lc) done.length (laysCells done)) := fun cells => HO4.out.alloc _
      have hs4 := HS4.out
      have hcc : c = 0 ∨ c = 1 ∨ c = 2 ∨ c = 3 ∨ c = 4 ∨ c = 5 ∨ c = 6 := by omega
      rcases hcc with rfl | rfl | rfl | rfl | rfl | rfl | rfl
      · skip
        have s1 : ¬ 9223372036854775807 < 1 + I.size := by omega
        have s2 : ¬ 9223372036854775807 < 1 + I.size + 1 := by omega
        go_wp2_with (at_builtin; refine wpList_append_own_at _ rfl _ _ 47 rfl (w0.heap.size + 1) 73 i0 (.agg #[.string ⟨#[]⟩, .string ⟨#[]⟩, .int .i64 0, .int .i64 0]) 4 48 Tryz.underlying47 hi hz0 hz1 hz2 rfl (by decide) (.slice la done.length lc) done.length (laysCells done) rfl ?h1 ⟨w4.heap.size, 0, none⟩ 1 1 [.string ⟨#[40, 45, 32]⟩, .string (⟨#[32]⟩ ++ I ++ ⟨#[41]⟩), .int .i64 1, .int .i64 (-(n : Int))] rfl rfl ?h2 ?h3 ?h4 ?h5 ?h6 ?_)
        case h1 => exact HO4A.out _
        case h4 => unfold maxLen; omega
        case h5 => omega
        case h6 => first | omega | (simp; omega)
        case h3 => intro u hu; simp at hu; rcases hu with rfl | rfl | rfl | rfl <;> rfl
        case h2 => exact cell_four_new _ _ _ _ _ _
        intro v9 w9 ho9 hg9 _ _
        have HL9 := (show Hid _ from HFIN.out _ _ _ ho9 hg9)
        obtain ⟨a9, k9, c9, rfl⟩ := owns_slice ho9
        clear ho9 hg9
        go_wp2
        go_roundg k
        case measure => omega
        case rel => exact HL9.out
      · skip
        have s1 : ¬ 9223372036854775807 < 3 + I.size := by omega
        have s2 : ¬ 9223372036854775807 < 3 + I.size + 1 := by omega
        go_wp2_with (at_builtin; refine wpList_append_own_at _ rfl _ _ 47 rfl (w0.heap.size + 1) 73 i0 (.agg #[.string ⟨#[]⟩, .string ⟨#[]⟩, .int .i64 0, .int .i64 0]) 4 48 Tryz.underlying47 hi hz0 hz1 hz2 rfl (by decide) (.slice la done.length lc) done.length (laysCells done) rfl ?h1 ⟨w4.heap.size, 0, none⟩ 1 1 [.string (⟨#[40, 45, 32]⟩ ++ I ++ ⟨#[32]⟩), .string ⟨#[41]⟩, .int .i64 (-1), .int .i64 n] rfl rfl ?h2 ?h3 ?h4 ?h5 ?h6 ?_)
        case h1 => exact HO4A.out _
        case h4 => unfold maxLen; omega
        case h5 => omega
        case h6 => first | omega | (simp; omega)
        case h3 => intro u hu; simp at hu; rcases hu with rfl | rfl | rfl | rfl <;> rfl
        case h2 => exact cell_four_new _ _ _ _ _ _
        intro v9 w9 ho9 hg9 _ _
        have HL9 := (show Hid _ from HFIN.out _ _ _ ho9 hg9)
        obtain ⟨a9, k9, c9, rfl⟩ := owns_slice ho9
        clear ho9 hg9
        go_wp2
        go_roundg k
        case measure => omega
        case rel => exact HL9.out
      · skip
        have s1 : ¬ 9223372036854775807 < 8 + I.size := by omega
        have s2 : ¬ 9223372036854775807 < 8 + I.size + 2 := by omega
        go_wp2_with (at_builtin; refine wpList_append_own_at _ rfl _ _ 47 rfl (w0.heap.size + 1) 73 i0 (.agg #[.string ⟨#[]⟩, .string ⟨#[]⟩, .int .i64 0, .int .i64 0]) 4 48 Tryz.underlying47 hi hz0 hz1 hz2 rfl (by decide) (.slice la done.length lc) done.length (laysCells done) rfl ?h1 ⟨w4.heap.size, 0, none⟩ 1 1 [.string ⟨#[40, 108, 101, 116, 32, 40, 40, 118, 32]⟩, .string (⟨#[41, 41, 32, 40, 43, 32, 118, 32]⟩ ++ I ++ ⟨#[41, 41]⟩), .int .i64 1, .int .i64 n] rfl rfl ?h2 ?h3 ?h4 ?h5 ?h6 ?_)
        case h1 => exact HO4A.out _
        case h4 => unfold maxLen; omega
        case h5 => omega
        case h6 => first | omega | (simp; omega)
        case h3 => intro u hu; simp at hu; rcases hu with rfl | rfl | rfl | rfl <;> rfl
        case h2 => exact cell_four_new _ _ _ _ _ _
        intro v9 w9 ho9 hg9 _ _
        have HL9 := (show Hid _ from HFIN.out _ _ _ ho9 hg9)
        obtain ⟨a9, k9, c9, rfl⟩ := owns_slice ho9
        clear ho9 hg9
        go_wp2
        go_roundg k
        case measure => omega
        case rel => exact HL9.out
      · skip
        go_wp2_with (at_builtin; refine wpList_append_own_at _ rfl _ _ 47 rfl (w0.heap.size + 1) 73 i0 (.agg #[.string ⟨#[]⟩, .string ⟨#[]⟩, .int .i64 0, .int .i64 0]) 4 48 Tryz.underlying47 hi hz0 hz1 hz2 rfl (by decide) (.slice la done.length lc) done.length (laysCells done) rfl ?h1 ⟨w4.heap.size, 0, none⟩ 1 1 [.string ⟨#[40, 42, 32, 51, 32]⟩, .string ⟨#[41]⟩, .int .i64 3, .int .i64 0] rfl rfl ?h2 ?h3 ?h4 ?h5 ?h6 ?_)
        case h1 => exact HO4A.out _
        case h4 => unfold maxLen; omega
        case h5 => omega
        case h6 => first | omega | (simp; omega)
        case h3 => intro u hu; simp at hu; rcases hu with rfl | rfl | rfl | rfl <;> rfl
        case h2 => exact cell_four_new _ _ _ _ _ _
        intro v9 w9 ho9 hg9 _ _
        have HL9 := (show Hid _ from HFIN.out _ _ _ ho9 hg9)
        obtain ⟨a9, k9, c9, rfl⟩ := owns_slice ho9
        clear ho9 hg9
        go_wp2
        go_roundg k
        case measure => omega
        case rel => exact HL9.out
      · skip
        have s1 : ¬ 9223372036854775807 < 1 + I.size := by omega
        have s2 : ¬ 9223372036854775807 < 1 + I.size + 3 := by omega
        go_wp2_with (at_builtin; refine wpList_append_own_at _ rfl _ _ 47 rfl (w0.heap.size + 1) 73 i0 (.agg #[.string ⟨#[]⟩, .string ⟨#[]⟩, .int .i64 0, .int .i64 0]) 4 48 Tryz.underlying47 hi hz0 hz1 hz2 rfl (by decide) (.slice la done.length lc) done.length (laysCells done) rfl ?h1 ⟨w4.heap.size, 0, none⟩ 1 1 [.string ⟨#[40, 98, 101, 103, 105, 110, 32, 40, 111, 114, 32, 35, 102, 32, 40, 45, 32]⟩, .string (⟨#[32]⟩ ++ I ++ ⟨#[41, 41, 41]⟩), .int .i64 1, .int .i64 (-(n : Int))] rfl rfl ?h2 ?h3 ?h4 ?h5 ?h6 ?_)
        case h1 => exact HO4A.out _
        case h4 => unfold maxLen; omega
        case h5 => omega
        case h6 => first | omega | (simp; omega)
        case h3 => intro u hu; simp at hu; rcases hu with rfl | rfl | rfl | rfl <;> rfl
        case h2 => exact cell_four_new _ _ _ _ _ _
        intro v9 w9 ho9 hg9 _ _
        have HL9 := (show Hid _ from HFIN.out _ _ _ ho9 hg9)
        obtain ⟨a9, k9, c9, rfl⟩ := owns_slice ho9
        clear ho9 hg9
        go_wp2
        go_roundg k
        case measure => omega
        case rel => exact HL9.out
      · skip
        go_wp2_with (at_builtin; refine wpList_append_own_at _ rfl _ _ 47 rfl (w0.heap.size + 1) 73 i0 (.agg #[.string ⟨#[]⟩, .string ⟨#[]⟩, .int .i64 0, .int .i64 0]) 4 48 Tryz.underlying47 hi hz0 hz1 hz2 rfl (by decide) (.slice la done.length lc) done.length (laysCells done) rfl ?h1 ⟨w4.heap.size, 0, none⟩ 1 1 [.string ⟨#[40, 40, 108, 97, 109, 98, 100, 97, 32, 40, 121, 41, 32, 40, 43, 32, 121, 32, 121, 41, 41, 32]⟩, .string ⟨#[41]⟩, .int .i64 2, .int .i64 0] rfl rfl ?h2 ?h3 ?h4 ?h5 ?h6 ?_)
        case h1 => exact HO4A.out _
        case h4 => unfold maxLen; omega
        case h5 => omega
        case h6 => first | omega | (simp; omega)
        case h3 => intro u hu; simp at hu; rcases hu with rfl | rfl | rfl | rfl <;> rfl
        case h2 => exact cell_four_new _ _ _ _ _ _
        intro v9 w9 ho9 hg9 _ _
        have HL9 := (show Hid _ from HFIN.out _ _ _ ho9 hg9)
        obtain ⟨a9, k9, c9, rfl⟩ := owns_slice ho9
        clear ho9 hg9
        go_wp2
        go_roundg k
        case measure => omega
        case rel => exact HL9.out
      · skip
        have s1 : ¬ 9223372036854775807 < 3 + I.size := by omega
        have s2 : ¬ 9223372036854775807 < 3 + I.size + 1 := by omega
        go_wp2_with (at_builtin; refine wpList_append_own_at _ rfl _ _ 47 rfl (w0.heap.size + 1) 73 i0 (.agg #[.string ⟨#[]⟩, .string ⟨#[]⟩, .int .i64 0, .int .i64 0]) 4 48 Tryz.underlying47 hi hz0 hz1 hz2 rfl (by decide) (.slice la done.length lc) done.length (laysCells done) rfl ?h1 ⟨w4.heap.size, 0, none⟩ 1 1 [.string (⟨#[40, 43, 32]⟩ ++ I ++ ⟨#[32]⟩), .string ⟨#[41]⟩, .int .i64 1, .int .i64 n] rfl rfl ?h2 ?h3 ?h4 ?h5 ?h6 ?_)
        case h1 => exact HO4A.out _
        case h4 => unfold maxLen; omega
        case h5 => omega
        case h6 => first | omega | (simp; omega)
        case h3 => intro u hu; simp at hu; rcases hu with rfl | rfl | rfl | rfl <;> rfl
        case h2 => exact cell_four_new _ _ _ _ _ _
        intro v9 w9 ho9 hg9 _ _
        have HL9 := (show Hid _ from HFIN.out _ _ _ ho9 hg9)
        obtain ⟨a9, k9, c9, rfl⟩ := owns_slice ho9
        clear ho9 hg9
        go_wp2
        go_roundg k
        case measure => omega
        case rel => exact HL9.out
end Go.Proofs.YtodeeegbajgafaaGreatDoor

namespace Go.Proofs.YtodeeegbajgafaaGreatDoor
open Go.RowKit
open Mc
open Rd (Lay layOf mkLays laysOf aroundT throughV)

/-- Layers that lie in memory. -/
def LaysIn (P : Nat → Prop) (ls : List Lay) (v : Value) (w : World) : Prop := (v = .slice none 0 0 ∧ ls = []) ∨ ∃ g cap, v = .slice (some ⟨g, 0, none⟩) ls.length cap ∧ P g ∧ ∀ i (hi : i < ls.length), w.cell? ⟨g, i * 4, none⟩ = some (.string ⟨ls[i].left.toArray⟩) ∧ w.cell? ⟨g, i * 4 + 1, none⟩ = some (.string ⟨ls[i].right.toArray⟩) ∧ w.cell? ⟨g, i * 4 + 2, none⟩ = some (.int .i64 ls[i].times) ∧ w.cell? ⟨g, i * 4 + 3, none⟩ = some (.int .i64 ls[i].more)
theorem laysCells_at (ls : List Lay) : ∀ i (hi : i < ls.length), (laysCells ls)[i * 4]? = some (.string ⟨ls[i].left.toArray⟩) ∧ (laysCells ls)[i * 4 + 1]? = some (.string ⟨ls[i].right.toArray⟩) ∧ (laysCells ls)[i * 4 + 2]? = some (.int .i64 ls[i].times) ∧ (laysCells ls)[i * 4 + 3]? = some (.int .i64 ls[i].more) := by
  induction ls with
  | nil => intro i hi; cases hi
  | cons l ls ih =>
    intro i hi
    have e : laysCells (l :: ls) = layCells l ++ laysCells ls := by simp [laysCells]
    rw [e]
    cases i with
    | zero => exact ⟨rfl, rfl, rfl, rfl⟩
    | succ i =>
      simp only [List.length_cons] at hi
      obtain ⟨h0, h1, h2, h3⟩ := ih i (by omega)
      have hl : (layCells l).length = 4 := rfl
      refine ⟨?_, ?_, ?_, ?_⟩
      · rw [List.getElem?_append_right (by omega), hl, show (i + 1) * 4 - 4 = i * 4 from by omega]; exact h0
      · rw [List.getElem?_append_right (by omega), hl, show (i + 1) * 4 + 1 - 4 = i * 4 + 1 from by omega]; exact h1
      · rw [List.getElem?_append_right (by omega), hl, show (i + 1) * 4 + 2 - 4 = i * 4 + 2 from by omega]; exact h2
      · rw [List.getElem?_append_right (by omega), hl, show (i + 1) * 4 + 3 - 4 = i * 4 + 3 from by omega]; exact h3
theorem LaysIn.of {B : Nat} {ls : List Lay} {v : Value} {w : World} (h : w.ownsRow B 73 4 v ls.length (laysCells ls)) : LaysIn (fun g => B ≤ g ∧ g < w.heap.size) ls v w := by
  obtain ⟨hx, h | ⟨g, cap, cur, rfl, hg, hh, hn, hcap, hcs, htk⟩⟩ := h
  · exact Or.inl ⟨h.1, List.length_eq_zero_iff.1 h.2⟩
  · refine Or.inr ⟨g, cap, rfl, ⟨hg, lt_of_at hh⟩, fun i hi => ?_⟩
    obtain ⟨h0, h1, h2, h3⟩ := laysCells_at ls i hi
    have key : ∀ j, j < ls.length * 4 → cur[j]? = (laysCells ls)[j]? := fun j hj => by
      have h1 : (cur.toList.take (ls.length * 4))[j]? = (laysCells ls)[j]? := by rw [htk]
      rw [List.getElem?_take, if_pos hj] at h1
      rw [← Array.getElem?_toList, h1]
    refine ⟨?_, ?_, ?_, ?_⟩
    · rw [cell_of_at hh, key _ (by omega)]; exact h0
    · rw [cell_of_at hh, key _ (by omega)]; exact h1
    · rw [cell_of_at hh, key _ (by omega)]; exact h2
    · rw [cell_of_at hh, key _ (by omega)]; exact h3
theorem LaysIn.kept {P M : Nat → Prop} {ls : List Lay} {v : Value} {w w' : World} (h : LaysIn P ls v w) (hk : Kept M w w') (hM : ∀ g, P g → ¬ M g) : LaysIn P ls v w' := by
  rcases h with h | ⟨g, cap, e, hg, hc⟩
  · exact Or.inl h
  · refine Or.inr ⟨g, cap, e, hg, fun i hi => ?_⟩
    obtain ⟨h0, h1, h2, h3⟩ := hc i hi
    exact ⟨hk.cellA (hM g hg) h0, hk.cellA (hM g hg) h1, hk.cellA (hM g hg) h2, hk.cellA (hM g hg) h3⟩
theorem around_snoc : ∀ (ls : List Lay) (i : Nat) (hi : i < ls.length) (a : List UInt8), aroundT (ls.take (i + 1)) a = ls[i].left ++ aroundT (ls.take i) a ++ ls[i].right
  | l :: ls, 0, _, a => rfl
  | l :: ls, i + 1, hi, a => by
    have := around_snoc ls i (by simp at hi; omega) (l.left ++ a ++ l.right)
    simp only [List.take_succ_cons, aroundT, List.getElem_cons_succ]
    exact this
theorem through_snoc : ∀ (ls : List Lay) (i : Nat) (hi : i < ls.length) (v : Int), throughV (ls.take (i + 1)) v = ls[i].times * throughV (ls.take i) v + ls[i].more
  | l :: ls, 0, _, v => rfl
  | l :: ls, i + 1, hi, v => by
    have := through_snoc ls i (by simp at hi; omega) (l.on v)
    simp only [List.take_succ_cons, throughV, List.getElem_cons_succ]
    exact this
theorem around_len (ls : List Lay) (a : List UInt8) (M : Nat) (h : ∀ l ∈ ls, l.left.length + l.right.length ≤ M) : ∀ i, i ≤ ls.length → (aroundT (ls.take i) a).length ≤ a.length + M * i
  | 0, _ => by simp [aroundT]
  | i + 1, hi => by
    have := around_len ls a M h i (by omega)
    have h1 := h ls[i] (List.getElem_mem (by omega))
    rw [around_snoc ls i (by omega) a]
    simp only [List.length_append, Nat.mul_succ]
    omega

set_option maxHeartbeats 8000000 in
set_option maxRecDepth 20000 in
theorem around22 {P : Nat → Prop} (ls : List Lay) (v : Value) (w : World) (h : LaysIn P ls v w) (a : List UInt8) (ha : a.length ≤ 1000) (hl : ls.length ≤ 3) (hs : ∀ l ∈ ls, l.left.length + l.right.length ≤ 60) :
    Calls Tryz.prog 22 #[v, .string ⟨a.toArray⟩] w fun e w' => e = .returned (.string ⟨(aroundT ls a).toArray⟩) ∧ Below w.heap.size w w' := by
  obtain ⟨ao, cap, rfl, hc⟩ : ∃ ao cap, v = .slice ao ls.length cap ∧ ∀ i (hi : i < ls.length), ∃ g, ao = some ⟨g, 0, none⟩ ∧ w.cell? ⟨g, i * 4, none⟩ = some (.string ⟨ls[i].left.toArray⟩) ∧ w.cell? ⟨g, i * 4 + 1, none⟩ = some (.string ⟨ls[i].right.toArray⟩) := by
    rcases h with ⟨rfl, rfl⟩ | ⟨g, cap, rfl, _, hc⟩
    · exact ⟨none, 0, rfl, fun i hi => by cases hi⟩
    · exact ⟨_, cap, rfl, fun i hi => ⟨g, rfl, (hc i hi).1, (hc i hi).2.1⟩⟩
  have HC := (show Hid _ from hc)
  clear h hc
  go_enter Tryz.func22, Tryz.ntmps22
  go_upto_region 2 with fail
  go_loopg [1, 5] ls.length (fun gk v1 v5 wr => ∃ i, i + gk = ls.length ∧ v5 = .int .i64 (i : Nat) ∧ v1 = .string ⟨(aroundT (ls.take i) a).toArray⟩ ∧ Below w.heap.size w wr)
  case atStart => exact ⟨0, by omega, rfl, rfl, Below.refl _ _⟩
  case round =>
    obtain ⟨i, hi, rfl, rfl, hb⟩ := hrel
    have HB := (show Hid _ from hb)
    clear hb
    cases gk with
    | zero =>
      obtain rfl : i = ls.length := by omega
      rw [List.take_length]
      have k1 : ¬ (ls.length : Int) < (ls.length : Int) := by omega
      go_wp2
      go_ret
      exact ⟨rfl, HB.out⟩
    | succ k =>
      have hil : i < ls.length := by omega
      obtain ⟨g, rfl, hc0, hc1⟩ := HC.out i hil
      have hlen := around_len ls a 60 hs i (by omega)
      have hl2 := hs ls[i] (List.getElem_mem hil)
      have hsn := around_snoc ls i hil a
      have z0 := sz ls[i].left
      have z1 := sz ls[i].right
      have z2 := sz (aroundT (ls.take i) a)
      have q0 : wr.cell? ⟨g, i * 4, none⟩ = some (.string ⟨ls[i].left.toArray⟩) := (Kept.of_below HB.out (fun _ => False)).cell id hc0
      have q1 : wr.cell? ⟨g, i * 4 + 1, none⟩ = some (.string ⟨ls[i].right.toArray⟩) := (Kept.of_below HB.out (fun _ => False)).cell id hc1
      have hX : (⟨(aroundT (ls.take (i + 1)) a).toArray⟩ : ByteArray) = ⟨ls[i].left.toArray⟩ ++ ⟨(aroundT (ls.take i) a).toArray⟩ ++ ⟨ls[i].right.toArray⟩ := by rw [hsn, bytes3]
      generalize (⟨ls[i].left.toArray⟩ : ByteArray) = A at *
      generalize (⟨ls[i].right.toArray⟩ : ByteArray) = B at *
      generalize (⟨(aroundT (ls.take i) a).toArray⟩ : ByteArray) = S at *
      have HX := (show Hid _ from hX)
      have s1 : ¬ 9223372036854775807 < A.size + S.size := by omega
      have s2 : ¬ 9223372036854775807 < A.size + S.size + B.size := by omega
      have k1 : (i : Int) < (ls.length : Int) := by omega
      have k2 : (0 : Int) ≤ (i : Int) := by omega
      have k3 : -9223372036854775808 ≤ (i : Int) + 1 := by omega
      have k4 : (i : Int) + 1 ≤ 9223372036854775807 := by omega
      have HI := (show Hid _ from hi)
      clear hX hsn hc0 hc1 hlen hl2 z0 z1 z2 hi
      go_upto_region 4 with fail
      go_region
      go_wp2
      go_roundg k
      case measure => omega
      case rel => exact ⟨i + 1, by have := HI.out; omega, by simp, by rw [HX.out], HB.out.drew⟩
theorem mul_lim {t v Z : Int} (h0 : -3 ≤ t) (h1 : t ≤ 3) (h2 : -Z ≤ v) (h3 : v ≤ Z) : -(3 * Z) ≤ t * v ∧ t * v ≤ 3 * Z := by
  have : t = -3 ∨ t = -2 ∨ t = -1 ∨ t = 0 ∨ t = 1 ∨ t = 2 ∨ t = 3 := by omega
  rcases this with rfl | rfl | rfl | rfl | rfl | rfl | rfl <;> omega
theorem through_lim (ls : List Lay) (v : Int) (h0 : -1000 ≤ v) (h1 : v ≤ 1000) (h : ∀ l ∈ ls, -3 ≤ l.times ∧ l.times ≤ 3 ∧ -8 ≤ l.more ∧ l.more ≤ 8) (hl : ls.length ≤ 3) : ∀ i, i ≤ ls.length → -(1000 * 4 ^ i) ≤ throughV (ls.take i) v ∧ throughV (ls.take i) v ≤ 1000 * 4 ^ i
  | 0, _ => by simp [throughV]; omega
  | i + 1, hi => by
    obtain ⟨j0, j1⟩ := through_lim ls v h0 h1 h hl i (by omega)
    obtain ⟨t0, t1, m0, m1⟩ := h ls[i] (List.getElem_mem (by omega))
    rw [through_snoc ls i (by omega) v]
    obtain ⟨k0, k1⟩ := mul_lim t0 t1 j0 j1
    have hp : (1 : Int) ≤ 4 ^ i := by
      have := Int.pow_pos (n := 4) (m := i) (by decide)
      omega
    rw [Int.pow_succ]
    generalize (4 : Int) ^ i = P at *
    generalize ls[i].times * throughV (ls.take i) v = X at *
    omega

set_option maxHeartbeats 8000000 in
set_option maxRecDepth 20000 in
theorem through20 {P : Nat → Prop} (ls : List Lay) (v : Value) (w : World) (h : LaysIn P ls v w) (n : Int) (h0 : -1000 ≤ n) (h1 : n ≤ 1000) (hl : ls.length ≤ 3) (hs : ∀ l ∈ ls, -3 ≤ l.times ∧ l.times ≤ 3 ∧ -8 ≤ l.more ∧ l.more ≤ 8) :
    Calls Tryz.prog 20 #[v, .int .i64 n] w fun e w' => e = .returned (.int .i64 (throughV ls n)) ∧ Below w.heap.size w w' := by
  obtain ⟨ao, cap, rfl, hc⟩ : ∃ ao cap, v = .slice ao ls.length cap ∧ ∀ i (hi : i < ls.length), ∃ g, ao = some ⟨g, 0, none⟩ ∧ w.cell? ⟨g, i * 4 + 2, none⟩ = some (.int .i64 ls[i].times) ∧ w.cell? ⟨g, i * 4 + 3, none⟩ = some (.int .i64 ls[i].more) := by
    rcases h with ⟨rfl, rfl⟩ | ⟨g, cap, rfl, _, hc⟩
    · exact ⟨none, 0, rfl, fun i hi => by cases hi⟩
    · exact ⟨_, cap, rfl, fun i hi => ⟨g, rfl, (hc i hi).2.2.1, (hc i hi).2.2.2⟩⟩
  have HC := (show Hid _ from hc)
  have HL := (show Hid _ from through_lim ls n h0 h1 hs hl)
  clear h hc
  go_enter Tryz.func20, Tryz.ntmps20
  go_upto_region 2 with fail
  go_loopg [1, 5] ls.length (fun gk v1 v5 wr => ∃ i, i + gk = ls.length ∧ v5 = .int .i64 (i : Nat) ∧ v1 = .int .i64 (throughV (ls.take i) n) ∧ Below w.heap.size w wr)
  case atStart => exact ⟨0, by omega, rfl, rfl, Below.refl _ _⟩
  case round =>
    obtain ⟨i, hi, rfl, rfl, hb⟩ := hrel
    have HB := (show Hid _ from hb)
    clear hb
    cases gk with
    | zero =>
      obtain rfl : i = ls.length := by omega
      rw [List.take_length]
      have k1 : ¬ (ls.length : Int) < (ls.length : Int) := by omega
      go_wp2
      go_ret
      exact ⟨rfl, HB.out⟩
    | succ k =>
      have hil : i < ls.length := by omega
      obtain ⟨g, rfl, hc0, hc1⟩ := HC.out i hil
      obtain ⟨l0, l1⟩ := HL.out i (by omega)
      obtain ⟨t0, t1, m0, m1⟩ := hs ls[i] (List.getElem_mem hil)
      have hX := through_snoc ls i hil n
      have q0 : wr.cell? ⟨g, i * 4 + 2, none⟩ = some (.int .i64 ls[i].times) := (Kept.of_below HB.out (fun _ => False)).cell id hc0
      have q1 : wr.cell? ⟨g, i * 4 + 3, none⟩ = some (.int .i64 ls[i].more) := (Kept.of_below HB.out (fun _ => False)).cell id hc1
      obtain ⟨p0, p1⟩ := mul_lim t0 t1 l0 l1
      have hp : (4 : Int) ^ i ≤ 64 := by
        have : i = 0 ∨ i = 1 ∨ i = 2 := by omega
        rcases this with rfl | rfl | rfl <;> decide
      generalize (4 : Int) ^ i = P at *
      generalize ls[i].times = A at *
      generalize ls[i].more = B at *
      generalize throughV (ls.take i) n = S at *
      have s1 : -9223372036854775808 ≤ A * S := by omega
      have s2 : A * S ≤ 9223372036854775807 := by omega
      have s3 : -9223372036854775808 ≤ A * S + B := by omega
      have s4 : A * S + B ≤ 9223372036854775807 := by omega
      have w1 : IntKind.i64.wrap (A * S) = A * S := i64_in _ s1 s2
      have w2 : IntKind.i64.wrap (A * S + B) = A * S + B := i64_in _ s3 s4
      have HX := (show Hid _ from hX)
      have k1 : (i : Int) < (ls.length : Int) := by omega
      have k2 : (0 : Int) ≤ (i : Int) := by omega
      have k3 : -9223372036854775808 ≤ (i : Int) + 1 := by omega
      have k4 : (i : Int) + 1 ≤ 9223372036854775807 := by omega
      have HI := (show Hid _ from hi)
      clear hX hc0 hc1 hi p0 p1 l0 l1 hp
      go_upto_region 4 with fail
      go_region
      go_wp2
      go_roundg k
      case measure => omega
      case rel => exact ⟨i + 1, by have := HI.out; omega, by simp, by rw [HX.out], HB.out.drew⟩
end Go.Proofs.YtodeeegbajgafaaGreatDoor

namespace Go.Proofs.YtodeeegbajgafaaGreatDoor
open Go.RowKit
open Mc
open Rd (Lay layOf mkLays laysOf aroundT throughV)

def ComesR (N : Nat → Prop) (B ob : Nat) (g : Gh) (G' : List (Rd.Sym × V)) (w : World) : Ending → World → Prop := fun e w' => e = .returned (.bool true) ∧ ∃ g', Mach N B ob G' w' g' ∧ Below B w w' ∧ Kept g.mut w w'
set_option maxHeartbeats 8000000 in
set_option maxRecDepth 20000 in
theorem comes21 {N : Nat → Prop} {B ob : Nat} {G' : List (Rd.Sym × V)} {g : Gh} {S : ByteArray} {v : Int} {k : Nat} {w : World} (ht : ∀ w', Below B w w' → TabOk w') (hBw : B ≤ w.heap.size) (h0 : -1000000000 ≤ v) (h1 : v ≤ 1000000000) (HR : Calls Tryz.prog 13 #[.pointer (some ⟨ob, 0, none⟩), .string S] w (ValR N B ob g G' (Lib.itoa v) k w)) :
    Calls Tryz.prog 21 #[.pointer (some ⟨ob, 0, none⟩), .string S, .int .i64 v] w (ComesR N B ob g G' w) := by
  have HI : Hid (∀ w', Below B w w' → Calls Tryz.prog 16 #[.int .i64 v] w' fun e w'' => e = .returned (.string ⟨(Lib.itoa v).toArray⟩) ∧ Below w'.heap.size w' w'') := fun w' hb => itoa16 v (by omega) (by omega) w' (ht _ hb)
  unfold ValR at HR
  generalize (⟨(Lib.itoa v).toArray⟩ : ByteArray) = SV at *
  have HRR : Hid (Calls Tryz.prog 13 #[.pointer (some ⟨ob, 0, none⟩), .string S] w fun e w' => ∃ g' sa sn sc, e = .returned (.tuple #[.agg #[.int .i64 1, .string SV, .int .i64 0, .int .i64 k, .slice sa sn sc], .bool true]) ∧ Mach N B ob G' w' g' ∧ Below B w w' ∧ Kept g.mut w w') := HR
  clear HR ht
  go_enter Tryz.func21, Tryz.ntmps21
  go_upto_region 2 with (first | (go_at_call 13; refine HRR.out.mono ?_; rintro e6 w6 ⟨g6, sa6, sn6, sc6, rfl, hM6, hb6, hk6⟩; have HM6 : Hid (Mach N B ob G' (w6.alloc (.cells #[.int .i64 1, .string SV, .int .i64 0, .int .i64 k, .slice sa6 sn6 sc6] 34)) g6) := hM6.alloc _; have HB6 : Hid (Below B w (w6.alloc (.cells #[.int .i64 1, .string SV, .int .i64 0, .int .i64 k, .slice sa6 sn6 sc6] 34))) := hb6.alloc (Nat.le_trans hBw hb6.size) _; have HK6 : Hid (Kept g.mut w (w6.alloc (.cells #[.int .i64 1, .string SV, .int .i64 0, .int .i64 k, .slice sa6 sn6 sc6] 34))) := hk6.alloc _; clear hM6 hb6 hk6))
  have hat6 := at_new w6 (.cells #[.int .i64 1, .string SV, .int .i64 0, .int .i64 k, .slice sa6 sn6 sc6] 34)
  generalize w6.alloc (.cells #[.int .i64 1, .string SV, .int .i64 0, .int .i64 k, .slice sa6 sn6 sc6] 34) = w7 at *
  have q0 : w7.cell? ⟨w6.heap.size, 0, none⟩ = some (.int .i64 1) := cell_of_at hat6 0
  have q1 : w7.cell? ⟨w6.heap.size, 1, none⟩ = some (.string SV) := cell_of_at hat6 1
  have q2 : w7.cell? ⟨w6.heap.size, 2, none⟩ = some (.int .i64 0) := cell_of_at hat6 2
  clear hat6
  go_region_held3 (fun X => X.cell? ⟨w6.heap.size, 0, none⟩ = some (.int .i64 1) ∧ X.cell? ⟨w6.heap.size, 1, none⟩ = some (.string SV) ∧ X.cell? ⟨w6.heap.size, 2, none⟩ = some (.int .i64 0)) (go_keep) (first | (go_at_call 16; refine (HI.out _ HB6.out.drew).mono ?_; rintro e8 w8 ⟨rfl, hb8⟩; have z0 := (Kept.of_below hb8 (fun _ => False)).cell id q0; have z1 := (Kept.of_below hb8 (fun _ => False)).cell id q1; have z2 := (Kept.of_below hb8 (fun _ => False)).cell id q2))
  have hb78 : Below w7.heap.size w7 w8 := ((Below.refl _ w7).drew).trans hb8
  have HF : Hid (∃ g', Mach N B ob G' w8 g' ∧ Below B w w8 ∧ Kept g.mut w w8) := ⟨g6, HM6.out.below hb78, HB6.out.trans (hb78.mono (Nat.le_trans hBw HB6.out.size)), HK6.out.trans (Kept.of_below hb78 _)⟩
  clear hb8 hb78
  go_wp2
  go_ret
  exact ⟨rfl, HF.out⟩
/-- What was made behind the machine is fenced off. -/
theorem Mach.fence {N : Nat → Prop} {B ob : Nat} {G : List (Rd.Sym × V)} {w w' : World} {g : Gh} (h : Mach N B ob G w g) (hb : Below w.heap.size w w') : Mach (fun k => N k ∨ w.heap.size ≤ k ∧ k < w'.heap.size) B ob G w' g := by
  refine ⟨Below.at hb h.box, h.low, h.fix, ?_, h.high⟩
  refine h.m.kept (fun k hm => hb.block k (Gh.low h.m k hm)) (fun k hk ho => ⟨⟨fun e => by rcases e with e | e; exact ho.1 e; omega, ho.2⟩, hb.block k hk⟩) ?_ ?_
  · rintro k (e | e)
    · have := h.m.low k e; have := hb.size; omega
    · exact e.2
  · rintro k hm (e | e)
    · exact h.m.disj k hm e
    · have := Gh.low h.m k hm; omega

theorem mkLays_of : ∀ (k : Nat) (raw : List Int) (l : Lay), l ∈ mkLays k raw → ∃ c n, n < 9 ∧ l = layOf c n
  | 0, _, _, h => by cases h
  | k + 1, raw, l, h => by
    rw [mkLays] at h
    have h9 := Rd.nextN_lt 9 raw (by omega)
    obtain ⟨n, r, hn⟩ : ∃ n r, Rd.nextN 9 raw = (n, r) := ⟨_, _, rfl⟩
    obtain ⟨c, r', hc⟩ : ∃ c r', Rd.nextN 7 r = (c, r') := ⟨_, _, rfl⟩
    rw [hn] at h h9
    simp only [hc] at h
    rcases List.mem_cons.1 h with rfl | h
    · exact ⟨c, n, h9, rfl⟩
    · exact mkLays_of k r' l h
theorem mkLays_len : ∀ (k : Nat) (raw : List Int), (mkLays k raw).length = k
  | 0, _ => rfl
  | k + 1, raw => by
    rw [mkLays]
    exact congrArg (· + 1) (mkLays_len k _)
theorem layOf_lim (c n : Nat) (hn : n < 9) : (layOf c n).left.length + (layOf c n).right.length ≤ 60 ∧ -3 ≤ (layOf c n).times ∧ (layOf c n).times ≤ 3 ∧ -8 ≤ (layOf c n).more ∧ (layOf c n).more ≤ 8 := by
  have hi := (Rd.numW_itoa (n := (n : Int)) (by omega) (by omega)).short
  unfold layOf Rd.lamYT
  split <;> simp <;> omega
theorem laysOf_lim (rs : List Int) : (laysOf rs).length ≤ 3 ∧ ∀ l ∈ laysOf rs, l.left.length + l.right.length ≤ 60 ∧ -3 ≤ l.times ∧ l.times ≤ 3 ∧ -8 ≤ l.more ∧ l.more ≤ 8 := by
  have h4 := Rd.nextN_lt 4 rs (by omega)
  have e : laysOf rs = mkLays (Rd.nextN 4 rs).1 (Rd.nextN 4 rs).2 := rfl
  rw [e]
  refine ⟨by rw [mkLays_len]; omega, fun l hl => ?_⟩
  obtain ⟨c, n, hn, rfl⟩ := mkLays_of _ _ _ hl
  exact layOf_lim c n hn

/-- What Nothing's sources come to. -/
structure NthOk (rs : List Int) (n : Int) (a : List UInt8) (p : Int) : Prop where
  val : -1000000 ≤ throughV (laysOf rs) p ∧ throughV (laysOf rs) p ≤ 1000000
  plain : ∃ F k, Forms (aroundT (laysOf rs) a) [F] ∧ Ev (Rd.GX n) [] F [] (Rd.num (throughV (laysOf rs) p)) k ∧ k ≤ 20000
  inn : ∃ F k, Forms (Rd.resetT (aroundT (laysOf rs) a)) [F] ∧ Ev (Rd.GX n) [] F [] (Rd.num (throughV (laysOf rs) p)) k ∧ k ≤ 20000
  round : ∃ F k, Forms (Rd.resetT (aroundT (laysOf rs) (Rd.shiftKT a))) [F] ∧ Ev (Rd.GX n) [] F [] (Rd.num (throughV (laysOf rs) p)) k ∧ k ≤ 20000
  twice : ∃ F k, Forms (Rd.resetT (aroundT (laysOf rs) (Rd.shiftKT (Rd.shiftJT a)))) [F] ∧ Ev (Rd.GX n) [] F [] (Rd.num (throughV (laysOf rs) p)) k ∧ k ≤ 20000
  len : a.length ≤ 100
theorem nth_ok (rs inner : List Int) (n : Int) (h0 : -50 ≤ n) (h1 : n ≤ 50) : NthOk rs n (Rd.mkSum n 1 inner).1 (Rd.mkSum n 1 inner).2.1 := by
  obtain ⟨F, k, i1, i2, i3, i4, i5, i6⟩ := Rd.mkSum_big (L := 100) (Rd.GX_has n) (Rd.GX_x n) (by omega) (by omega) (by omega) (by omega) 1 inner (by omega)
  generalize Rd.mkSum n 1 inner = m at *
  obtain ⟨a, p, r⟩ := m
  simp only at *
  have h4 := Rd.nextN_lt 4 rs (by omega)
  have e : laysOf rs = mkLays (Rd.nextN 4 rs).1 (Rd.nextN 4 rs).2 := rfl
  rw [show (2 : Int) ^ 1 * 100 = 200 from rfl] at i4 i5
  rw [show 2 ^ 1 = 2 from rfl] at i2 i6
  obtain ⟨q, r0, hq⟩ : ∃ q r0, Rd.nextN 4 rs = (q, r0) := ⟨_, _, rfl⟩
  rw [hq] at e h4
  simp only at e h4
  obtain ⟨L, k1, k2, j1, j2, ⟨C⟩, j4, j5, j6⟩ := Rd.lays_ok (sn := []) (Rd.GX_has n) q r0 (by omega)
  rw [← e] at C j4 j5 j6
  have hp : (1 : Int) ≤ 4 ^ (3 - q) := by
    have := Int.pow_pos (n := 4) (m := 3 - q) (by decide)
    omega
  have hz : (4 : Int) ^ q ≤ 64 := by
    have : q = 0 ∨ q = 1 ∨ q = 2 ∨ q = 3 := by omega
    rcases this with rfl | rfl | rfl | rfl <;> decide
  have c0 : -(1000 * 4 ^ (3 - q)) ≤ p := by omega
  have c1 : p ≤ 1000 * 4 ^ (3 - q) := by omega
  have hv := j6 p 200 (by omega) (by omega) (by omega)
  have l1 := j5 a
  have l2 := j5 (Rd.shiftKT a)
  have l3 := j5 (Rd.shiftKT (Rd.shiftJT a))
  have m2 : (Rd.shiftKT a).length = a.length + 14 := by simp [Rd.shiftKT]
  have m3 : (Rd.shiftKT (Rd.shiftJT a)).length = a.length + 28 := by simp [Rd.shiftKT, Rd.shiftJT]
  refine ⟨by omega, ?_, ?_, ?_, ?_, by omega⟩
  · exact ⟨L F, _, forms_ft (j4 _ _ _ _ i1 (by omega) (by omega)) (by omega) (by omega) (by omega) (by omega), C.ev (i3 [] []) c0 c1, by omega⟩
  · refine ⟨.reset [L F], _, forms_ft (Rd.ft_reset (j4 _ _ _ _ i1 (by omega) (by omega)) (by omega)) ?_ (by omega) (by omega) (by omega), Rd.ev_reset (C.ev (i3 [] []) c0 c1), by omega⟩
    simp [Rd.resetT]; omega
  · refine ⟨_, _, forms_ft (Rd.ft_reset (j4 _ _ _ _ (Rd.ft_shiftK i1 (by omega)) (by omega) (by omega)) (by omega)) ?_ (by omega) (by omega) (by omega), Rd.ev_round C (i3 []) c0 c1 [], by omega⟩
    simp [Rd.resetT]; omega
  · refine ⟨_, _, forms_ft (Rd.ft_reset (j4 _ _ _ _ (Rd.ft_shiftK (Rd.ft_shiftJ i1 (by omega)) (by omega)) (by omega) (by omega)) (by omega)) ?_ (by omega) (by omega) (by omega), Rd.ev_twice C (i3 []) c0 c1 [], by omega⟩
    simp [Rd.resetT]; omega
theorem resetT_bytes (a : List UInt8) : (⟨(Rd.resetT a).toArray⟩ : ByteArray) = ⟨#[40, 114, 101, 115, 101, 116, 32]⟩ ++ ⟨a.toArray⟩ ++ ⟨#[41]⟩ := by
  rw [Rd.resetT, bytes3]
theorem shiftKT_bytes (a : List UInt8) : (⟨(Rd.shiftKT a).toArray⟩ : ByteArray) = ⟨#[40, 115, 104, 105, 102, 116, 32, 107, 32, 40, 107, 32]⟩ ++ ⟨a.toArray⟩ ++ ⟨#[41, 41]⟩ := by
  rw [Rd.shiftKT, bytes3]
theorem shiftKJT_bytes (a : List UInt8) : (⟨(Rd.shiftKT (Rd.shiftJT a)).toArray⟩ : ByteArray) = ⟨#[40, 115, 104, 105, 102, 116, 32, 107, 32, 40, 107, 32, 40, 115, 104, 105, 102, 116, 32, 106, 32, 40, 106, 32]⟩ ++ ⟨a.toArray⟩ ++ ⟨#[41, 41, 41, 41]⟩ := by
  have : Rd.shiftKT (Rd.shiftJT a) = [40, 115, 104, 105, 102, 116, 32, 107, 32, 40, 107, 32, 40, 115, 104, 105, 102, 116, 32, 106, 32, 40, 106, 32] ++ a ++ [41, 41, 41, 41] := by simp [Rd.shiftKT, Rd.shiftJT]
  rw [this, bytes3]
/-- What holds between the runs. -/
def Inv (W : World) (N P : Nat → Prop) (ob : Nat) (G : List (Rd.Sym × V)) (ls : List Lay) (lv : Value) (w : World) : Prop := ∃ g, Mach N W.heap.size ob G w g ∧ Below W.heap.size W w ∧ LaysIn P ls lv w
theorem Inv.below {W : World} {N P : Nat → Prop} {ob : Nat} {G : List (Rd.Sym × V)} {ls : List Lay} {lv : Value} {w w' : World} (h : Inv W N P ob G ls lv w) (hb : Below w.heap.size w w') : Inv W N P ob G ls lv w' := by
  obtain ⟨g, h1, h2, h3⟩ := h
  exact ⟨g, h1.below hb, h2.trans (hb.mono h2.size), h3.kept (Kept.of_below hb (fun _ => False)) (fun _ _ => id)⟩
theorem Inv.alloc {W : World} {N P : Nat → Prop} {ob : Nat} {G : List (Rd.Sym × V)} {ls : List Lay} {lv : Value} {w : World} (h : Inv W N P ob G ls lv w) (o : Obj) : Inv W N P ob G ls lv (w.alloc o) := h.below ((Below.refl _ w).alloc (Nat.le_refl _) _)
theorem inv_around {W : World} {N P : Nat → Prop} {ob : Nat} {G : List (Rd.Sym × V)} {ls : List Lay} {lv : Value} (a : List UInt8) (ha : a.length ≤ 1000) (hl : ls.length ≤ 3) (hs : ∀ l ∈ ls, l.left.length + l.right.length ≤ 60) (w : World) (h : Inv W N P ob G ls lv w) : Calls Tryz.prog 22 #[lv, .string ⟨a.toArray⟩] w fun e w' => e = .returned (.string ⟨(aroundT ls a).toArray⟩) ∧ Inv W N P ob G ls lv w' := by
  obtain ⟨g, h1, h2, h3⟩ := id h
  exact (around22 ls lv w h3 a ha hl hs).mono fun e w' ⟨he, hb⟩ => ⟨he, h.below hb⟩
theorem inv_comes {W : World} {N P : Nat → Prop} {ob : Nat} {G : List (Rd.Sym × V)} {ls : List Lay} {lv : Value} {s : List UInt8} {v : Int} (ht : ∀ w', Below W.heap.size W w' → TabOk w') (hN : N tabBlock) (hP : ∀ k, P k → N k) (h0 : -1000000000 ≤ v) (h1 : v ≤ 1000000000) (hx : ∃ F k, Forms s [F] ∧ Ev G [] F [] (Rd.num v) k ∧ k ≤ 20000) (w : World) (h : Inv W N P ob G ls lv w) :
    Calls Tryz.prog 21 #[.pointer (some ⟨ob, 0, none⟩), .string ⟨s.toArray⟩, .int .i64 v] w fun e w' => e = .returned (.bool true) ∧ Inv W N P ob G ls lv w' := by
  obtain ⟨g, m1, m2, m3⟩ := h
  obtain ⟨F, k, x1, x2, x3⟩ := hx
  refine (comes21 (g := g) (G' := G) (N := N) (k := k) (fun w' hb => ht w' (m2.trans hb)) m2.size h0 h1 (run_val callN m1 m2.size hN (ht w m2) x1 (Ev.ends (sh := shN) x2 x3) (shows_num h0 h1))).mono ?_
  rintro e w' ⟨he, g', n1, n2, n3⟩
  exact ⟨he, g', n1, m2.trans n2, m3.kept n3 (fun k hk hm => m1.m.disj k hm (hP k hk))⟩
end Go.Proofs.YtodeeegbajgafaaGreatDoor

namespace Go.Proofs.YtodeeegbajgafaaGreatDoor
open Go.RowKit
open Mc
open Rd (Lay layOf mkLays laysOf aroundT throughV)

set_option maxHeartbeats 16000000 in
set_option maxRecDepth 20000 in
theorem nothing7 (W : World) (ao : Option Addr) (cap : Nat) (rs : List Int) (hl : rs.length ≤ cap) (hcap : cap ≤ maxLen) (hcell : ∀ i (hi : i < rs.length), ∃ a, ao = some a ∧ W.cell? (a.add i) = some (.int .i64 rs[i])) (hz : ∀ i (hi : i < rs.length), -9223372036854775808 ≤ rs[i] ∧ rs[i] ≤ 9223372036854775807)
    (ao2 : Option Addr) (cap2 : Nat) (rs2 : List Int) (hl2 : rs2.length ≤ cap2) (hcap2 : cap2 ≤ maxLen) (hcell2 : ∀ i (hi : i < rs2.length), ∃ a, ao2 = some a ∧ W.cell? (a.add i) = some (.int .i64 rs2[i])) (hz2 : ∀ i (hi : i < rs2.length), -9223372036854775808 ≤ rs2[i] ∧ rs2[i] ≤ 9223372036854775807) (x : Int) (hx0 : -9223372036854775808 ≤ x) (hx1 : x ≤ 9223372036854775807) (htab : TabOk W) :
    Calls Tryz.prog 7 #[.slice ao rs.length cap, .slice ao2 rs2.length cap2, .int .i64 x] W fun e w' => e = .returned (.bool true) ∧ Below W.heap.size W w' := by
  have hlt := htab.lt
  have hm2 : rs2.length ≤ 9223372036854775807 := by unfold maxLen at hcap2; omega
  have HF : Hid (Calls Tryz.prog 10 #[] W fun e w' => ∃ ob g, e = .returned (.pointer (some ⟨ob, 0, none⟩)) ∧ Mach (Old W.heap.size) W.heap.size ob G0 w' g ∧ Below W.heap.size W w') := fresh10 (Old W.heap.size) W (fun _ h => h) hlt htab
  have tabs : ∀ w', Below W.heap.size W w' → TabOk w' := fun w' hb => htab.on (hb.block _ hlt)
  have HT : Hid (∀ w', Below W.heap.size W w' → TabOk w') := tabs
  have HP : Hid (∀ w, Calls Tryz.prog 14 #[.int .i64 x, .int .i64 100] w fun e w' => e = .returned (.int .i64 (Rd.pickN x 100 : Nat)) ∧ w' = w) := fun w => pick14 x 100 hx0 hx1 (by omega) (by omega) w
  have hr := Rd.pickN_lt x 100 (by omega)
  generalize Rd.pickN x 100 = r at *
  have n0 : -9223372036854775808 ≤ (r : Int) - 50 := by omega
  have n1 : (r : Int) - 50 ≤ 9223372036854775807 := by omega
  have m0 : -50 ≤ (r : Int) - 50 := by omega
  have m1 : (r : Int) - 50 ≤ 50 := by omega
  generalize hn : (r : Int) - 50 = n at *
  have hok := nth_ok rs rs2 n m0 m1
  obtain ⟨hll, hls⟩ := laysOf_lim rs
  have hlim := mkSum_lim (L := 100) (x := n) (by omega) (by omega) (by omega) (by omega) 1 rs2 (by omega)
  have hp200 : -1000 ≤ (Rd.mkSum n 1 rs2).2.1 ∧ (Rd.mkSum n 1 rs2).2.1 ≤ 1000 := by
    obtain ⟨F, k, _, _, _, i4, i5, _⟩ := Rd.mkSum_big (L := 100) (Rd.GX_has n) (Rd.GX_x n) (by omega) (by omega) (by omega) (by omega) 1 rs2 (by omega)
    simp at i4 i5
    omega
  have HL : Hid (∀ w0, Below W.heap.size W w0 → Calls Tryz.prog 19 #[.slice ao rs.length cap] w0 (LaysR rs w0)) := fun w0 hb => layers19 rs ao cap W hl hcap w0 hb hcell hz htab
  have HS : Hid (∀ w1, Below W.heap.size W w1 → Calls Tryz.prog 15 #[.pointer (some ⟨w1.heap.size, 0, none⟩), .int .i64 1, .int .i64 n] (w1.alloc (.cells #[.slice ao2 rs2.length cap2, .int .i64 0] 27)) fun e w' => e = .returned (.tuple #[.string ⟨(Rd.mkSum n 1 rs2).1.toArray⟩, .int .i64 (Rd.mkSum n 1 rs2).2.1]) ∧ Kept (· = w1.heap.size) (w1.alloc (.cells #[.slice ao2 rs2.length cap2, .int .i64 0] 27)) w') := fun w1 hb => by
    have hs := hb.size
    have := sum15 rs2 ao2 cap2 w1.heap.size n 100 (by omega) (by omega) (by omega) (by omega) (by omega) 1 (by omega) 0 _ (mk_new hcell2 hz2 hm2 hb 27) ((HT.out _ hb).on (Below.heap_alloc _ _ _ (by omega)))
    exact this.mono fun e w' ⟨he, i', _, _, h3⟩ => ⟨he, h3⟩
  have HI : Hid (∀ w', Below W.heap.size W w' → Calls Tryz.prog 16 #[.int .i64 n] w' fun e w'' => e = .returned (.string ⟨(Lib.itoa n).toArray⟩) ∧ Below w'.heap.size w' w'') := fun w' hb => itoa16 n n0 n1 w' (HT.out _ hb)
  have HR1 : Hid (∀ N P ob lv w, N tabBlock → (∀ k, P k → N k) → Inv W N P ob G0 (laysOf rs) lv w → Calls Tryz.prog 13 #[.pointer (some ⟨ob, 0, none⟩), .string (⟨#[40, 100, 101, 102, 105, 110, 101, 32, 120, 32]⟩ ++ ⟨(Lib.itoa n).toArray⟩ ++ ⟨#[41]⟩)] w fun e w' => ∃ sa sn sc, e = .returned (.tuple #[.agg #[.int .i64 1, .string ⟨#[120]⟩, .int .i64 0, .int .i64 2, .slice sa sn sc], .bool true]) ∧ Inv W N P ob (Rd.GX n) (laysOf rs) lv w') := fun N P ob lv w hN hP hI => by
    obtain ⟨g, i1, i2, i3⟩ := hI
    rw [← defT_bytes]
    refine (run_val callN i1 i2.size hN (HT.out _ i2) (forms_def (by omega) (by omega)) (ends_def' n shN) shows_x).mono ?_
    rintro e w' ⟨g', sa, sn, sc, he, j1, j2, j3⟩
    exact ⟨sa, sn, sc, he, g', j1, i2.trans j2, i3.kept j3 (fun k hk hm => i1.m.disj k hm (hP k hk))⟩
  generalize Rd.mkSum n 1 rs2 = ms at *
  obtain ⟨a, p, r9⟩ := ms
  simp only at *
  have HA : Hid (∀ (b : List UInt8) (N P : Nat → Prop) (ob : Nat) (lv : Value) (w : World), b.length ≤ 1000 → Inv W N P ob (Rd.GX n) (laysOf rs) lv w → Calls Tryz.prog 22 #[lv, .string ⟨b.toArray⟩] w fun e w' => e = .returned (.string ⟨(aroundT (laysOf rs) b).toArray⟩) ∧ Inv W N P ob (Rd.GX n) (laysOf rs) lv w') := fun b N P ob lv w hb h => inv_around b hb hll (fun l hl => (hls l hl).1) w h
  have HTH : Hid (∀ (N P : Nat → Prop) (ob : Nat) (lv : Value) (w : World), Inv W N P ob (Rd.GX n) (laysOf rs) lv w → Calls Tryz.prog 20 #[lv, .int .i64 p] w fun e w' => e = .returned (.int .i64 (throughV (laysOf rs) p)) ∧ Inv W N P ob (Rd.GX n) (laysOf rs) lv w') := fun N P ob lv w h => by
    obtain ⟨g, i1, i2, i3⟩ := id h
    exact (through20 _ lv w i3 p hp200.1 hp200.2 hll (fun l hl => (hls l hl).2)).mono fun e w' ⟨he, hb⟩ => ⟨he, h.below hb⟩
  have HC : Hid (∀ (s : List UInt8) (N P : Nat → Prop) (ob : Nat) (lv : Value) (w : World), N tabBlock → (∀ k, P k → N k) → (∃ F k, Forms s [F] ∧ Ev (Rd.GX n) [] F [] (Rd.num (throughV (laysOf rs) p)) k ∧ k ≤ 20000) → Inv W N P ob (Rd.GX n) (laysOf rs) lv w → Calls Tryz.prog 21 #[.pointer (some ⟨ob, 0, none⟩), .string ⟨s.toArray⟩, .int .i64 (throughV (laysOf rs) p)] w fun e w' => e = .returned (.bool true) ∧ Inv W N P ob (Rd.GX n) (laysOf rs) lv w') := fun s N P ob lv w hN hP hx h => inv_comes (s := s) tabs hN hP (by have := hok.val; omega) (by have := hok.val; omega) hx w h
  have C1 : Hid (∀ (N P : Nat → Prop) (ob : Nat) (lv : Value) (w : World), N tabBlock → (∀ k, P k → N k) → Inv W N P ob (Rd.GX n) (laysOf rs) lv w → Calls Tryz.prog 21 #[.pointer (some ⟨ob, 0, none⟩), .string ⟨(aroundT (laysOf rs) a).toArray⟩, .int .i64 (throughV (laysOf rs) p)] w fun e w' => e = .returned (.bool true) ∧ Inv W N P ob (Rd.GX n) (laysOf rs) lv w') := fun N P ob lv w hN hP h => HC.out _ N P ob lv w hN hP hok.plain h
  have C2 : Hid (∀ (N P : Nat → Prop) (ob : Nat) (lv : Value) (w : World), N tabBlock → (∀ k, P k → N k) → Inv W N P ob (Rd.GX n) (laysOf rs) lv w → Calls Tryz.prog 21 #[.pointer (some ⟨ob, 0, none⟩), .string (⟨#[40, 114, 101, 115, 101, 116, 32]⟩ ++ ⟨(aroundT (laysOf rs) a).toArray⟩ ++ ⟨#[41]⟩), .int .i64 (throughV (laysOf rs) p)] w fun e w' => e = .returned (.bool true) ∧ Inv W N P ob (Rd.GX n) (laysOf rs) lv w') := fun N P ob lv w hN hP h => by
    rw [← resetT_bytes]
    exact HC.out _ N P ob lv w hN hP hok.inn h
  have C3 : Hid (∀ (N P : Nat → Prop) (ob : Nat) (lv : Value) (w : World), N tabBlock → (∀ k, P k → N k) → Inv W N P ob (Rd.GX n) (laysOf rs) lv w → Calls Tryz.prog 21 #[.pointer (some ⟨ob, 0, none⟩), .string (⟨#[40, 114, 101, 115, 101, 116, 32]⟩ ++ ⟨(aroundT (laysOf rs) (Rd.shiftKT a)).toArray⟩ ++ ⟨#[41]⟩), .int .i64 (throughV (laysOf rs) p)] w fun e w' => e = .returned (.bool true) ∧ Inv W N P ob (Rd.GX n) (laysOf rs) lv w') := fun N P ob lv w hN hP h => by
    rw [← resetT_bytes]
    exact HC.out _ N P ob lv w hN hP hok.round h
  have C4 : Hid (∀ (N P : Nat → Prop) (ob : Nat) (lv : Value) (w : World), N tabBlock → (∀ k, P k → N k) → Inv W N P ob (Rd.GX n) (laysOf rs) lv w → Calls Tryz.prog 21 #[.pointer (some ⟨ob, 0, none⟩), .string (⟨#[40, 114, 101, 115, 101, 116, 32]⟩ ++ ⟨(aroundT (laysOf rs) (Rd.shiftKT (Rd.shiftJT a))).toArray⟩ ++ ⟨#[41]⟩), .int .i64 (throughV (laysOf rs) p)] w fun e w' => e = .returned (.bool true) ∧ Inv W N P ob (Rd.GX n) (laysOf rs) lv w') := fun N P ob lv w hN hP h => by
    rw [← resetT_bytes]
    exact HC.out _ N P ob lv w hN hP hok.twice h
  have ha := hok.len
  have A1 : Hid (∀ (N P : Nat → Prop) (ob : Nat) (lv : Value) (w : World), Inv W N P ob (Rd.GX n) (laysOf rs) lv w → Calls Tryz.prog 22 #[lv, .string ⟨a.toArray⟩] w fun e w' => e = .returned (.string ⟨(aroundT (laysOf rs) a).toArray⟩) ∧ Inv W N P ob (Rd.GX n) (laysOf rs) lv w') := fun N P ob lv w h => HA.out a N P ob lv w (by omega) h
  have A3 : Hid (∀ (N P : Nat → Prop) (ob : Nat) (lv : Value) (w : World), Inv W N P ob (Rd.GX n) (laysOf rs) lv w → Calls Tryz.prog 22 #[lv, .string (⟨#[40, 115, 104, 105, 102, 116, 32, 107, 32, 40, 107, 32]⟩ ++ ⟨a.toArray⟩ ++ ⟨#[41, 41]⟩)] w fun e w' => e = .returned (.string ⟨(aroundT (laysOf rs) (Rd.shiftKT a)).toArray⟩) ∧ Inv W N P ob (Rd.GX n) (laysOf rs) lv w') := fun N P ob lv w h => by
    rw [← shiftKT_bytes]
    exact HA.out _ N P ob lv w (by simp [Rd.shiftKT]; omega) h
  have A4 : Hid (∀ (N P : Nat → Prop) (ob : Nat) (lv : Value) (w : World), Inv W N P ob (Rd.GX n) (laysOf rs) lv w → Calls Tryz.prog 22 #[lv, .string (⟨#[40, 115, 104, 105, 102, 116, 32, 107, 32, 40, 107, 32, 40, 115, 104, 105, 102, 116, 32, 106, 32, 40, 106, 32]⟩ ++ ⟨a.toArray⟩ ++ ⟨#[41, 41, 41, 41]⟩)] w fun e w' => e = .returned (.string ⟨(aroundT (laysOf rs) (Rd.shiftKT (Rd.shiftJT a))).toArray⟩) ∧ Inv W N P ob (Rd.GX n) (laysOf rs) lv w') := fun N P ob lv w h => by
    rw [← shiftKJT_bytes]
    exact HA.out _ N P ob lv w (by simp [Rd.shiftKT, Rd.shiftJT]; omega) h
  have b1 := around_len (laysOf rs) a 60 (fun l hl => (hls l hl).1) _ (Nat.le_refl _)
  have b3 := around_len (laysOf rs) (Rd.shiftKT a) 60 (fun l hl => (hls l hl).1) _ (Nat.le_refl _)
  have b4 := around_len (laysOf rs) (Rd.shiftKT (Rd.shiftJT a)) 60 (fun l hl => (hls l hl).1) _ (Nat.le_refl _)
  rw [List.take_length] at b1 b3 b4
  have e3 : (Rd.shiftKT a).length = a.length + 14 := by simp [Rd.shiftKT]
  have e4 : (Rd.shiftKT (Rd.shiftJT a)).length = a.length + 28 := by simp [Rd.shiftKT, Rd.shiftJT]
  have z1 := sz (aroundT (laysOf rs) a)
  have z3 := sz (aroundT (laysOf rs) (Rd.shiftKT a))
  have z4 := sz (aroundT (laysOf rs) (Rd.shiftKT (Rd.shiftJT a)))
  have z0 := sz a
  have zn := sz (Lib.itoa n)
  have hnl := (Rd.numW_itoa (n := n) (by omega) (by omega)).short
  have HLI : Hid (∀ B v w, w.ownsRow B 73 4 v (laysOf rs).length (laysCells (laysOf rs)) → LaysIn (fun g => B ≤ g ∧ g < w.heap.size) (laysOf rs) v w) := fun B v w h => LaysIn.of h
  have HTL : Hid (Old W.heap.size tabBlock) := hlt
  unfold LaysR at HL
  generalize throughV (laysOf rs) p = v at *
  generalize (⟨(aroundT (laysOf rs) a).toArray⟩ : ByteArray) = S1 at *
  generalize (⟨(aroundT (laysOf rs) (Rd.shiftKT a)).toArray⟩ : ByteArray) = S3 at *
  generalize (⟨(aroundT (laysOf rs) (Rd.shiftKT (Rd.shiftJT a))).toArray⟩ : ByteArray) = S4 at *
  generalize (⟨a.toArray⟩ : ByteArray) = SA at *
  generalize (⟨(Lib.itoa n).toArray⟩ : ByteArray) = SN at *
  have s1 : ¬ 9223372036854775807 < 10 + SN.size := by omega
  have s2 : ¬ 9223372036854775807 < 10 + SN.size + 1 := by omega
  have s3 : ¬ 9223372036854775807 < 7 + S1.size := by omega
  have s4 : ¬ 9223372036854775807 < 7 + S1.size + 1 := by omega
  have s5 : ¬ 9223372036854775807 < 12 + SA.size := by omega
  have s6 : ¬ 9223372036854775807 < 12 + SA.size + 2 := by omega
  have s7 : ¬ 9223372036854775807 < 7 + S3.size := by omega
  have s8 : ¬ 9223372036854775807 < 7 + S3.size + 1 := by omega
  have s9 : ¬ 9223372036854775807 < 24 + SA.size := by omega
  have s10 : ¬ 9223372036854775807 < 24 + SA.size + 4 := by omega
  have s11 : ¬ 9223372036854775807 < 7 + S4.size := by omega
  have s12 : ¬ 9223372036854775807 < 7 + S4.size + 1 := by omega
  clear hcell hz htab hcell2 hz2 hok hll hls hlim hp200 HA HC ha b1 b3 b4 e3 e4 z0 z1 z3 z4 zn hnl tabs hlt
  generalize laysOf rs = ls at *
  go_enter Tryz.func7, Tryz.ntmps7
  go_upto_region 5 with (first | (go_at_call 10; refine HF.out.mono ?_; rintro e1 w1 ⟨ob, g1, rfl, hM1, hb1⟩; have HM1 := (show Hid _ from hM1); have HB1 : Hid (Below W.heap.size W w1) := hb1; clear hM1 hb1) | (go_at_call 19; refine (HL.out _ HB1.out).mono ?_; rintro e2 w2 ⟨lv, rfl, ho2, hb2⟩; have HO2 := (show Hid _ from ho2); have HB2 : Hid (Below w1.heap.size w1 w2) := hb2; obtain ⟨la, ln, lc, rfl⟩ := owns_slice ho2; clear ho2 hb2))
  have HB3 : Hid (Below W.heap.size W (w2.alloc (.cells #[.slice ao2 rs2.length cap2, .int .i64 0] 27))) := (HB1.out.trans (HB2.out.mono HB1.out.size)).alloc (Nat.le_trans HB1.out.size HB2.out.size) _
  have HBW2 : Hid (Below W.heap.size W w2) := HB1.out.trans (HB2.out.mono HB1.out.size)
  have HI3 : Hid (Inv W (fun k => Old W.heap.size k ∨ w1.heap.size ≤ k ∧ k < (w2.alloc (.cells #[.slice ao2 rs2.length cap2, .int .i64 0] 27)).heap.size) (fun g => w1.heap.size ≤ g ∧ g < w2.heap.size) ob G0 ls (.slice la ln lc) (w2.alloc (.cells #[.slice ao2 rs2.length cap2, .int .i64 0] 27))) := ⟨g1, HM1.out.fence (HB2.out.alloc HB2.out.size _), HB3.out, (HLI.out _ _ _ HO2.out).kept (Kept.of_below ((Below.refl _ w2).alloc (Nat.le_refl _) _) (fun _ => False)) (fun _ _ => id)⟩
  have HOBL : Hid (ob ≠ w2.heap.size) := Nat.ne_of_lt (Nat.lt_of_lt_of_le HM1.out.lt HB2.out.size)
  have HNP : Hid (∀ k, w1.heap.size ≤ k ∧ k < w2.heap.size → Old W.heap.size k ∨ w1.heap.size ≤ k ∧ k < (w2.alloc (.cells #[.slice ao2 rs2.length cap2, .int .i64 0] 27)).heap.size) := fun k hk => Or.inr ⟨hk.1, by simp; omega⟩
  have HNT : Hid ((fun k => Old W.heap.size k ∨ w1.heap.size ≤ k ∧ k < (w2.alloc (.cells #[.slice ao2 rs2.length cap2, .int .i64 0] 27)).heap.size) tabBlock) := Or.inl HTL.out
  have HNM : Hid ((fun k => Old W.heap.size k ∨ w1.heap.size ≤ k ∧ k < (w2.alloc (.cells #[.slice ao2 rs2.length cap2, .int .i64 0] 27)).heap.size) w2.heap.size) := Or.inr ⟨HB2.out.size, by simp⟩
  have HPM : Hid (∀ k, (fun g => w1.heap.size ≤ g ∧ g < w2.heap.size) k → k ≠ w2.heap.size) := fun k hk => Nat.ne_of_lt hk.2
  have HNP' : Hid (∀ k, (fun g => w1.heap.size ≤ g ∧ g < w2.heap.size) k → (fun k => Old W.heap.size k ∨ w1.heap.size ≤ k ∧ k < (w2.alloc (.cells #[.slice ao2 rs2.length cap2, .int .i64 0] 27)).heap.size) k) := HNP.out
  have HLM : Hid (W.heap.size ≤ w2.heap.size) := Nat.le_trans HB1.out.size HB2.out.size
  clear HNP
  generalize (fun k => Old W.heap.size k ∨ w1.heap.size ≤ k ∧ k < (w2.alloc (.cells #[.slice ao2 rs2.length cap2, .int .i64 0] 27)).heap.size) = N at *
  generalize (fun g => w1.heap.size ≤ g ∧ g < w2.heap.size) = P at *
  go_upto_region 8 with (first | (go_at_call 14; refine (HP.out _).mono ?_; rintro e3 w3 ⟨rfl, rfl⟩) | (go_at_call 15; refine (HS.out _ HBW2.out).mono ?_; rintro e4 w4 ⟨rfl, hk4⟩; have HK4 := (show Hid _ from hk4); clear hk4))
  have HI4 : Hid (Inv W N P ob G0 ls (.slice la ln lc) w4) := by
    obtain ⟨g, i1, i2, i3⟩ := HI3.out
    exact ⟨g, i1.other HK4.out (fun k e => e ▸ HNM.out) HOBL.out, i2.trans (HK4.out.below i2.size (fun k e => e ▸ HLM.out)), i3.kept HK4.out (fun k hk e => HPM.out k hk e)⟩
  have HB4 : Hid (Below W.heap.size W w4) := by
    obtain ⟨g, i1, i2, i3⟩ := HI4.out
    exact i2
  go_upto_region 9 with (first | (go_at_call 16; refine (HI.out _ HB4.out).mono ?_; rintro e5 w5 ⟨rfl, hb5⟩; have HI5 : Hid (Inv W N P ob G0 ls (.slice la ln lc) w5) := HI4.out.below hb5; clear hb5) | (go_at_call 13; refine (HR1.out _ _ _ _ _ HNT.out HNP'.out HI5.out).mono ?_; rintro e6 w6 ⟨sa6, sn6, sc6, rfl, hI6⟩; have HV : Hid (Inv W N P ob (Rd.GX n) ls (.slice la ln lc) (w6.alloc (.cells #[.int .i64 1, .string ⟨#[120]⟩, .int .i64 0, .int .i64 2, .slice sa6 sn6 sc6] 34))) := hI6.alloc _; clear hI6))
  go_upto_region 10 with (first | (go_at_call 20; refine (HTH.out _ _ _ _ _ HV.out).mono ?_; rintro e w ⟨rfl, hV⟩; clear HV; have HV : Hid (Inv W N P ob (Rd.GX n) ls (.slice la ln lc) _) := hV; clear hV))
  go_upto_region 11 with (first | (go_at_call 22; refine (A1.out _ _ _ _ _ HV.out).mono ?_; rintro e w ⟨rfl, hV⟩; clear HV; have HV : Hid (Inv W N P ob (Rd.GX n) ls (.slice la ln lc) _) := hV; clear hV) | (go_at_call 21; refine (C1.out _ _ _ _ _ HNT.out HNP'.out HV.out).mono ?_; rintro e w ⟨rfl, hV⟩; clear HV; have HV : Hid (Inv W N P ob (Rd.GX n) ls (.slice la ln lc) _) := hV; clear hV))
  go_upto_region 12 with (first | (go_at_call 22; refine (A1.out _ _ _ _ _ HV.out).mono ?_; rintro e w ⟨rfl, hV⟩; clear HV; have HV : Hid (Inv W N P ob (Rd.GX n) ls (.slice la ln lc) _) := hV; clear hV) | (go_at_call 21; refine (C2.out _ _ _ _ _ HNT.out HNP'.out HV.out).mono ?_; rintro e w ⟨rfl, hV⟩; clear HV; have HV : Hid (Inv W N P ob (Rd.GX n) ls (.slice la ln lc) _) := hV; clear hV))
  go_upto_region 13 with (first | (go_at_call 22; refine (A3.out _ _ _ _ _ HV.out).mono ?_; rintro e w ⟨rfl, hV⟩; clear HV; have HV : Hid (Inv W N P ob (Rd.GX n) ls (.slice la ln lc) _) := hV; clear hV) | (go_at_call 21; refine (C3.out _ _ _ _ _ HNT.out HNP'.out HV.out).mono ?_; rintro e w ⟨rfl, hV⟩; clear HV; have HV : Hid (Inv W N P ob (Rd.GX n) ls (.slice la ln lc) _) := hV; clear hV))
  go_wp2_with (first | (go_at_call 22; refine (A4.out _ _ _ _ _ HV.out).mono ?_; rintro e w ⟨rfl, hV⟩; clear HV; have HV : Hid (Inv W N P ob (Rd.GX n) ls (.slice la ln lc) _) := hV; clear hV) | (go_at_call 21; refine (C4.out _ _ _ _ _ HNT.out HNP'.out HV.out).mono ?_; rintro e w ⟨rfl, hV⟩; clear HV; have HV : Hid (Inv W N P ob (Rd.GX n) ls (.slice la ln lc) _) := hV; clear hV))
  go_ret
  obtain ⟨g, i1, i2, i3⟩ := HV.out
  exact ⟨rfl, i2⟩
end Go.Proofs.YtodeeegbajgafaaGreatDoor
