/- rondokeep's fresh. What Listed calls: pick, Itoa; texts laid together. What Listed's sources come to. The walk of Listed. -/
import Derived.Test.YtodeeegbajgafaaGreatDoorQ36
import Derived.Test.YtodeeegbajgafaaGreatDoorQ25
import Derived.Deep.Cut
namespace Go.Proofs.YtodeeegbajgafaaGreatDoor
open Go.RowKit
open Mc

theorem itoa11 : Lib.itoa 11 = [49, 49] := by
  rw [show (11 : Int) = ((11 : Nat) : Int) from rfl, Lib.itoa_nonneg, Lib.decDigits_two (by omega) (by omega)]
  rfl
/-- What is there at the start is not written. -/
def Old (B : Nat) (k : Nat) : Prop := k < B

theorem out1 (sh : Value) : outcome st1 (Lib.itoa 11) sh = .agg #[.int .i64 1, .string ⟨#[49, 49]⟩, .int .i64 0, .int .i64 st1.steps, sh] := by
  unfold outcome
  rw [if_pos st1_ctl.2, itoa11]
theorem out2 (sh : Value) : outcome st2 [] sh = .agg #[.int .i64 2, .string ⟨#[]⟩, .int .i64 2, .int .i64 st2.steps, sh] := by
  unfold outcome
  rw [if_neg (by rw [st2_kind.1]; decide), st2_kind.1, st2_kind.2]
  rfl

/-- The two runs of fresh. -/
theorem fresh_run1 (N : Nat → Prop) (B ob : Nat) (g : Gh) (w : World) (hM : Mach N B ob G0 w g) (hBw : B ≤ w.heap.size) (hNt : N tabBlock) (htab : TabOk w) :
    Calls Tryz.prog 13 #[ptrV ob, .string ⟨src1.toArray⟩] w fun e w' => ∃ g' sa sn sc, e = .returned (.tuple #[.agg #[.int .i64 1, .string ⟨#[49, 49]⟩, .int .i64 0, .int .i64 st1.steps, .slice sa sn sc], .bool true]) ∧ Mach N B ob st1.G w' g' ∧ Below B w w' := by
  refine (run13 shN callN N B ob G0 g src1 (fsOf src1) st1 (Lib.itoa 11) w hM hBw hNt htab (Forms.of isSrc1) (endsAt_ends ends1) src_ne.1 (fun _ v hv => ?_)).mono ?_
  · rw [st1_ctl.1] at hv
    cases hv
    exact ShowsAs.num (by omega) (by omega) (by rw [itoa11]; simp)
  · rintro e w' ⟨g', sa, sn, sc, rfl, h1, h2, h3⟩
    exact ⟨g', sa, sn, sc, by rw [out1], h1, h2.below hBw hM.high⟩
theorem fresh_run2 (N : Nat → Prop) (B ob : Nat) (g : Gh) (w : World) (hM : Mach N B ob st1.G w g) (hBw : B ≤ w.heap.size) (hNt : N tabBlock) (htab : TabOk w) :
    Calls Tryz.prog 13 #[ptrV ob, .string ⟨src2.toArray⟩] w fun e w' => ∃ sa sn sc, e = .returned (.tuple #[.agg #[.int .i64 2, .string ⟨#[]⟩, .int .i64 2, .int .i64 st2.steps, .slice sa sn sc], .bool true]) ∧ Below B w w' ∧ Kept g.mut w w' := by
  refine (run13 shN callN N B ob st1.G g src2 (fsOf src2) st2 [] w hM hBw hNt htab (Forms.of isSrc2) (endsAt_ends ends2) src_ne.2 (fun hk => ?_)).mono ?_
  · rw [st2_kind.1] at hk
    cases hk
  · rintro e w' ⟨g', sa, sn, sc, rfl, h1, h2, h3⟩
    exact ⟨sa, sn, sc, by rw [out2], h2.below hBw hM.high, h2⟩

set_option maxHeartbeats 8000000 in
set_option maxRecDepth 20000 in
theorem fresh10 (N : Nat → Prop) (w : World) (hN : ∀ k, N k → k < w.heap.size) (hNt : N tabBlock) (htab : TabOk w) :
    Calls Tryz.prog 10 #[] w fun e w' => ∃ ob g, e = .returned (ptrV ob) ∧ Mach N w.heap.size ob G0 w' g ∧ Below w.heap.size w w' := by
  have H1 : Hid (Calls Tryz.prog 23 #[] w fun e w' => ∃ ob g, e = .returned (.pointer (some ⟨ob, 0, none⟩)) ∧ Mach N w.heap.size ob G0 w' g ∧ Below w.heap.size w w') := new23 N w hN
  have H2 : Hid (∀ w1, Below w.heap.size w w1 → Calls Tryz.prog 23 #[] w1 fun e w' => ∃ ob g, e = .returned (.pointer (some ⟨ob, 0, none⟩)) ∧ Mach N w1.heap.size ob G0 w' g ∧ Below w1.heap.size w1 w') := fun w1 hb => new23 N w1 (fun k e => Nat.lt_of_lt_of_le (hN k e) hb.size)
  have tabs : ∀ W, Below w.heap.size w W → TabOk W := fun W hb => htab.on (hb.block _ htab.lt)
  have H3 : Hid (∀ w1 w2 ob g, Below w.heap.size w w1 → Below w1.heap.size w1 w2 → Mach N w1.heap.size ob G0 w2 g → Calls Tryz.prog 13 #[.pointer (some ⟨ob, 0, none⟩), .string ⟨src1.toArray⟩] w2 fun e w' => ∃ g' sa sn sc, e = .returned (.tuple #[.agg #[.int .i64 1, .string ⟨#[49, 49]⟩, .int .i64 0, .int .i64 st1.steps, .slice sa sn sc], .bool true]) ∧ Mach N w1.heap.size ob st1.G w' g' ∧ Below w1.heap.size w1 w') := fun w1 w2 ob g hb1 hb2 hM => (fresh_run1 N w1.heap.size ob g w2 hM hb2.size hNt (tabs _ (hb1.trans (hb2.mono hb1.size)))).mono fun e w' ⟨g', sa, sn, sc, he, h1, h2⟩ => ⟨g', sa, sn, sc, he, h1, hb2.trans h2⟩
  have H4 : Hid (∀ w1 w2 ob g, Below w.heap.size w w1 → Below w1.heap.size w1 w2 → Mach N w1.heap.size ob st1.G w2 g → Calls Tryz.prog 13 #[.pointer (some ⟨ob, 0, none⟩), .string ⟨#[40, 99, 97, 114, 32, 49, 41]⟩] w2 fun e w' => ∃ sa sn sc, e = .returned (.tuple #[.agg #[.int .i64 2, .string ⟨#[]⟩, .int .i64 2, .int .i64 st2.steps, .slice sa sn sc], .bool true]) ∧ Below w1.heap.size w1 w' ∧ Kept g.mut w2 w') := fun w1 w2 ob g hb1 hb2 hM => (fresh_run2 N w1.heap.size ob g w2 hM hb2.size hNt (tabs _ (hb1.trans (hb2.mono hb1.size)))).mono fun e w' ⟨sa, sn, sc, he, h2, h3⟩ => ⟨sa, sn, sc, he, hb2.trans h2, h3⟩
  clear hN tabs htab
  generalize st1.steps = n1 at *
  generalize st2.steps = n2 at *
  go_enter Tryz.func10, Tryz.ntmps10
  go_upto_region 2 with (first | (go_at_call 23; refine H1.out.mono ?_; rintro e1 w1 ⟨ob1, g1, rfl, hM1, hb1⟩; have HM1 := (show Hid _ from hM1); have HB1 := (show Hid _ from hb1); clear hM1 hb1))
  go_upto_region 5 with (first | (go_at_call 23; refine (H2.out _ HB1.out).mono ?_; rintro e2 w2 ⟨ob2, g2, rfl, hM2, hb2⟩; have HM2 := (show Hid _ from hM2); have HB2 := (show Hid _ from hb2); clear hM2 hb2))
  go_upto_region 6 with (first | (go_at_call 13; refine (H3.out _ _ _ _ HB1.out HB2.out HM2.out).mono ?_; rintro e3 w3 ⟨g3, sa3, sn3, sc3, rfl, hM3, hb3⟩; have HM3 : Hid (Mach N w1.heap.size ob2 st1.G (w3.alloc (.cells #[.int .i64 1, .string ⟨#[49, 49]⟩, .int .i64 0, .int .i64 n1, .slice sa3 sn3 sc3] 34)) g3) := hM3.below ((Below.refl _ w3).alloc (Nat.le_refl _) _); have HB3 : Hid (Below w1.heap.size w1 (w3.alloc (.cells #[.int .i64 1, .string ⟨#[49, 49]⟩, .int .i64 0, .int .i64 n1, .slice sa3 sn3 sc3] 34))) := hb3.alloc hb3.size _; have hnm : ¬ g3.mut w3.heap.size := fun e => Nat.lt_irrefl _ (Gh.low hM3.m _ e); clear hM3 hb3))
  have ha3 := at_new w3 (.cells #[.int .i64 1, .string ⟨#[49, 49]⟩, .int .i64 0, .int .i64 n1, .slice sa3 sn3 sc3] 34)
  have HA3 := (show Hid _ from ha3)
  clear ha3
  go_wp2_with (first | (go_at_call 13; refine (H4.out _ _ _ _ HB1.out HB3.out HM3.out).mono ?_; rintro e4 w4 ⟨sa4, sn4, sc4, rfl, hb4, hk4⟩; have hat := hk4.at hnm HA3.out; have hl := lt_of_at hat; have hne : w4.heap.size ≠ w3.heap.size := (by omega); have f0 : w4.cell? ⟨w3.heap.size, 0, none⟩ = some (.int .i64 1) := cell_of_at hat 0; have f1 : w4.cell? ⟨w3.heap.size, 1, none⟩ = some (.string ⟨#[49, 49]⟩) := cell_of_at hat 1; have HB4 := (show Hid _ from hb4); clear hb4 hk4 hat))
  go_ret
  have hbf : Below w1.heap.size w1 (w4.alloc (.cells #[.int .i64 2, .string ⟨#[]⟩, .int .i64 2, .int .i64 n2, .slice sa4 sn4 sc4] 34)) := HB4.out.alloc HB4.out.size _
  exact ⟨ob1, g1, rfl, HM1.out.below hbf, HB1.out.trans (hbf.mono HB1.out.size)⟩
end Go.Proofs.YtodeeegbajgafaaGreatDoor

namespace Go.Proofs.YtodeeegbajgafaaGreatDoor
open Go.RowKit
open Mc

set_option maxHeartbeats 1000000 in
theorem pick14 (c : Int) (n : Nat) (h0 : -9223372036854775808 ≤ c) (h1 : c ≤ 9223372036854775807) (hn : 0 < n) (hn1 : n ≤ 100000) (w : World) : Calls Tryz.prog 14 #[.int .i64 c, .int .i64 n] w fun e w' => e = .returned (.int .i64 (Rd.pickN c n : Nat)) ∧ w' = w := by
  have hlt := Rd.pickN_lt c n hn
  have hn0 : ¬ (n : Int) = 0 := by omega
  by_cases hc : c < 0
  · have hq : (-(c + 1)).tmod (n : Int) = (Rd.pickN c n : Nat) := by
      unfold Rd.pickN
      rw [if_pos hc, Int.tmod_eq_emod_of_nonneg (by omega)]
      have := Int.emod_nonneg (-(c + 1)) (b := (n : Int)) (by omega)
      omega
    have i1 : -9223372036854775808 ≤ c + 1 := by omega
    have i2 : c + 1 ≤ 9223372036854775807 := by omega
    have i3 : -9223372036854775808 ≤ -(c + 1) := by omega
    have i4 : -(c + 1) ≤ 9223372036854775807 := by omega
    have i5 : wrap64 ((Rd.pickN c n : Nat) : Int) = (Rd.pickN c n : Nat) := by unfold wrap64; omega
    generalize Rd.pickN c n = r at *
    go_enter Tryz.func14, Tryz.ntmps14
    go_wp2
    go_ret
    exact ⟨rfl, rfl⟩
  · have hq : c.tmod (n : Int) = (Rd.pickN c n : Nat) := by
      unfold Rd.pickN
      rw [if_neg hc, Int.tmod_eq_emod_of_nonneg (by omega)]
      have := Int.emod_nonneg c (b := (n : Int)) (by omega)
      omega
    have i5 : wrap64 ((Rd.pickN c n : Nat) : Int) = (Rd.pickN c n : Nat) := by unfold wrap64; omega
    generalize Rd.pickN c n = r at *
    go_enter Tryz.func14, Tryz.ntmps14
    go_wp2
    go_ret
    exact ⟨rfl, rfl⟩

theorem below_grow (w : World) (k : Nat) (os : Array Obj) : Below w.heap.size w (Sort.grow (w.drewN k) os) := by
  refine ⟨rfl, rfl, rfl, ?_, fun j hj => ?_⟩
  · show w.heap.size ≤ (w.heap ++ os).size
    simp
  · show (w.heap ++ os)[j]? = w.heap[j]?
    exact Array.getElem?_append_left hj
theorem itoa16 (n : Int) (h0 : -9223372036854775808 ≤ n) (h1 : n ≤ 9223372036854775807) (w : World) (ht : TabOk w) : Calls Tryz.prog 16 #[.int .i64 n] w fun e w' => e = .returned (.string ⟨(Lib.itoa n).toArray⟩) ∧ Below w.heap.size w w' :=
  (Tryz.strconv_Itoa n h0 h1 w ht).mono fun _ _ ⟨he, k, os, hw⟩ => ⟨he, hw ▸ below_grow w k os⟩
theorem cat (a b : List UInt8) : (⟨a.toArray⟩ : ByteArray) ++ ⟨b.toArray⟩ = ⟨(a ++ b).toArray⟩ := by
  apply ByteArray.ext
  simp
theorem sz (a : List UInt8) : (⟨a.toArray⟩ : ByteArray).size = a.length := by show a.toArray.size = _; simp
end Go.Proofs.YtodeeegbajgafaaGreatDoor

namespace Go.Proofs.YtodeeegbajgafaaGreatDoor
open Go.RowKit
open Mc

def src3 : List UInt8 := [40, 100, 101, 102, 105, 110, 101, 32, 40, 119, 97, 108, 107, 32, 102, 32, 108, 41, 32, 40, 105, 102, 32, 40, 110, 117, 108, 108, 63, 32, 108, 41, 32, 108, 32, 40, 98, 101, 103, 105] ++ [110, 32, 40, 102, 32, 40, 99, 97, 114, 32, 108, 41, 41, 32, 40, 119, 97, 108, 107, 32, 102, 32, 40, 99, 100, 114, 32, 108, 41, 41, 41, 41, 41, 32, 40, 100, 101, 102, 105, 110] ++ [101, 32, 40, 97, 108, 108, 32, 108, 41, 32, 40, 114, 101, 115, 101, 116, 32, 40, 98, 101, 103, 105, 110, 32, 40, 119, 97, 108, 107, 32, 40, 108, 97, 109, 98, 100, 97, 32, 40, 120] ++ [41, 32, 40, 115, 104, 105, 102, 116, 32, 107, 32, 40, 99, 111, 110, 115, 32, 120, 32, 40, 107, 32, 48, 41, 41, 41, 41, 32, 108, 41, 32, 40, 113, 117, 111, 116, 101, 32, 40, 41] ++ [41, 41, 41, 41]
theorem isSrc3 : isSrc src3 = true := by decide +kernel
noncomputable def st3 : St := (endsAt 20000 shN (begin_ G0) (fsOf src3)).getD (begin_ G0)
set_option maxRecDepth 100000 in
theorem ends3 : endsAt 20000 shN (begin_ G0) (fsOf src3) = some st3 := rfl
set_option maxRecDepth 100000 in
theorem st3_ctl : st3.ctl = .val (.atom (.sym nAll)) ∧ st3.kind = 0 := ⟨rfl, rfl⟩
set_option maxRecDepth 100000 in
theorem st3_G : st3.G = GL := rfl
set_option maxRecDepth 100000 in
theorem src3_ne : fsOf src3 ≠ [] := fun e => by cases e
theorem out3 (sh : Value) : outcome st3 nAll sh = .agg #[.int .i64 1, .string ⟨nAll.toArray⟩, .int .i64 0, .int .i64 st3.steps, sh] := by
  unfold outcome
  rw [if_pos st3_ctl.2]
theorem listed_run1 (N : Nat → Prop) (B ob : Nat) (g : Gh) (w : World) (hM : Mach N B ob G0 w g) (hBw : B ≤ w.heap.size) (hNt : N tabBlock) (htab : TabOk w) :
    Calls Tryz.prog 13 #[ptrV ob, .string ⟨src3.toArray⟩] w fun e w' => ∃ g' sa sn sc, e = .returned (.tuple #[.agg #[.int .i64 1, .string ⟨nAll.toArray⟩, .int .i64 0, .int .i64 st3.steps, .slice sa sn sc], .bool true]) ∧ Mach N B ob GL w' g' ∧ Below B w w' := by
  refine (run13 shN callN N B ob G0 g src3 (fsOf src3) st3 nAll w hM hBw hNt htab (Forms.of isSrc3) (endsAt_ends ends3) src3_ne (fun _ v hv => ?_)).mono ?_
  · rw [st3_ctl.1] at hv
    cases hv
    exact ShowsAs.sym (by decide) (by decide)
  · rintro e w' ⟨g', sa, sn, sc, rfl, h1, h2, h3⟩
    rw [st3_G] at h1
    exact ⟨g', sa, sn, sc, by rw [out3], h1, h2.below hBw hM.high⟩

/-- A list of numbers as it is shown. -/
def listT : List Int → List UInt8
  | [] => [40, 41]
  | m :: ns => 40 :: (Lib.itoa m ++ (Rd.numsT ns ++ [41]))
theorem listT_shows (ns : List Int) (h : ∀ n ∈ ns, -100 < n ∧ n < 1000) (hl : ns.length ≤ 12) : ShowsAs (listV ((ns.map Rd.A.num).map .atom)) (listT ns) := by
  cases ns with
  | nil => exact ShowsAs.empty
  | cons m ns =>
    have e : ((m :: ns).map Rd.A.num).map V.atom = (m :: ns).map numV := by simp [numV]
    rw [e]
    exact ShowsAs.nums h (by simp at hl; omega)
theorem listed_forms (ns : List Int) (h : ∀ n ∈ ns, -100 < n ∧ n < 1000) (hl : ns.length ≤ 12) : Forms (Rd.listedT ns) [Rd.listedF ns] := by
  have hlen : (Rd.listedT ns).length ≤ 100 := by
    have := nums_len ns h
    simp [Rd.listedT]
    omega
  obtain ⟨ds, m, h1, h2, d, rfl, h3⟩ := Rd.listedT_reads ns h (Rd.listedT ns).length
  refine ⟨by omega, [d], 300, ⟨by rw [sz]; omega, ns.length + 10, [], m, by omega, by rw [sz]; exact h1, rfl, by omega⟩, by omega, ?_, by simp, by simp⟩
  rw [Rd.pTops, h3 300 (by omega)]
  rfl
theorem listed_ends (ns : List Int) (hl : ns.length ≤ 12) : ∃ t, Mc.Ends 20000 shN (begin_ GL) [Rd.listedF ns] t ∧ t.kind = 0 ∧ t.ctl = .val (listV ((ns.map Rd.A.num).map .atom)) := by
  obtain ⟨c', _, k, hk⟩ := all_goes (fuel := 20000) (sh := shN) (ns.map Rd.A.num) (by simp; omega)
  exact ⟨_, .one (s := begin_ GL) hk (Or.inr ⟨⟨_, rfl⟩, rfl, rfl⟩), rfl, rfl⟩
theorem listed_run2 (N : Nat → Prop) (B ob : Nat) (g : Gh) (w : World) (ns : List Int) (h : ∀ n ∈ ns, -100 < n ∧ n < 1000) (hl : ns.length ≤ 12) (hM : Mach N B ob GL w g) (hBw : B ≤ w.heap.size) (hNt : N tabBlock) (htab : TabOk w) :
    Calls Tryz.prog 13 #[ptrV ob, .string ⟨(Rd.listedT ns).toArray⟩] w fun e w' => ∃ (st : Nat) (sa : Option Addr) (sn sc : Nat), e = .returned (.tuple #[.agg #[.int .i64 1, .string ⟨(listT ns).toArray⟩, .int .i64 0, .int .i64 st, .slice sa sn sc], .bool true]) ∧ Below B w w' := by
  obtain ⟨t, h1, h2, h3⟩ := listed_ends ns hl
  refine (run13 shN callN N B ob GL g (Rd.listedT ns) [Rd.listedF ns] t (listT ns) w hM hBw hNt htab (listed_forms ns h hl) h1 (by simp) (fun _ v hv => ?_)).mono ?_
  · rw [h3] at hv
    cases hv
    exact listT_shows ns h hl
  · rintro e w' ⟨g', sa, sn, sc, rfl, i1, i2, i3⟩
    refine ⟨t.steps, sa, sn, sc, ?_, i2.below hBw hM.high⟩
    unfold outcome
    rw [if_pos h2]
end Go.Proofs.YtodeeegbajgafaaGreatDoor

namespace Go.Proofs.YtodeeegbajgafaaGreatDoor
open Go.RowKit
open Mc

/-- The numbers that were picked. -/
def picks (z : Nat → Int) (i : Nat) : List Int := (List.range i).map fun j => ((Rd.pickN (z j) 1000 : Nat) : Int)
theorem picks_len (z : Nat → Int) (i : Nat) : (picks z i).length = i := by simp [picks]
theorem picks_in (z : Nat → Int) (i : Nat) : ∀ n ∈ picks z i, -100 < n ∧ n < 1000 := by
  intro n hn
  obtain ⟨j, _, rfl⟩ := List.mem_map.1 hn
  have := Rd.pickN_lt (z j) 1000 (by omega)
  omega
theorem picks_succ (z : Nat → Int) (i : Nat) : Rd.numsT (picks z (i + 1)) = Rd.numsT (picks z i) ++ 32 :: Lib.itoa (Rd.pickN (z i) 1000 : Nat) := by
  have : picks z (i + 1) = picks z i ++ [((Rd.pickN (z i) 1000 : Nat) : Int)] := by simp [picks, List.range_succ]
  rw [this, nums_snoc]
theorem Tryz.info3 : (Tryz.prog.info? 3).map (fun i => (i.zero, i.size, i.bytes)) = some (some (.int .i64 0), 1, 8) := by kernel_rfl

/-- What is owned stays where nothing is written. -/
theorem own_below {B e z n : Nat} {v : Value} {xs : List Value} {w w' : World} (h : w.ownsRow B e z v n xs) (hb : Below w.heap.size w w') : w'.ownsRow B e z v n xs := by
  obtain ⟨a, b | ⟨gb, cap, cur, hv, hB, hh, r⟩⟩ := h
  · exact ⟨a, Or.inl b⟩
  · exact ⟨a, Or.inr ⟨gb, cap, cur, hv, hB, Below.at hb hh, r⟩⟩
theorem ext1 (b : UInt8) (l : List UInt8) : (⟨(b :: l).toArray⟩ : ByteArray).extract 1 (⟨(b :: l).toArray⟩ : ByteArray).size = ⟨l.toArray⟩ := by
  apply ByteArray.ext
  rw [ByteArray.data_extract]
  show (b :: l).toArray.extract 1 (b :: l).toArray.size = l.toArray
  simp
theorem listT_cons (m : Int) (ns : List Int) : (⟨(listT (m :: ns)).toArray⟩ : ByteArray) = ⟨#[40]⟩ ++ (⟨(Rd.numsT (m :: ns)).toArray⟩ : ByteArray).extract 1 (⟨(Rd.numsT (m :: ns)).toArray⟩ : ByteArray).size ++ ⟨#[41]⟩ := by
  have e : Rd.numsT (m :: ns) = 32 :: (Lib.itoa m ++ Rd.numsT ns) := by simp [Rd.numsT]
  rw [e, ext1, show (⟨#[40]⟩ : ByteArray) = ⟨[40].toArray⟩ from rfl, show (⟨#[41]⟩ : ByteArray) = ⟨[41].toArray⟩ from rfl, cat, cat]
  simp [listT]
theorem listT_nil : (⟨(listT []).toArray⟩ : ByteArray) = ⟨#[40]⟩ ++ ⟨(Rd.numsT []).toArray⟩ ++ ⟨#[41]⟩ := rfl
/-- Where the loop stands. -/
structure LstG (z : Nat → Int) (len : Nat) (w1 : World) (k : Nat) (v4 v5 v6 : Value) (wr : World) (i : Nat) (xs : List Value) : Prop where
  sum : i + k = min len 12
  idx : v6 = .int .i64 (i : Nat)
  txt : v5 = .string ⟨(Rd.numsT (picks z i)).toArray⟩
  own : wr.ownsRow w1.heap.size 3 1 v4 i xs
  below : Below w1.heap.size w1 wr

set_option maxHeartbeats 8000000 in
set_option maxRecDepth 20000 in
theorem listed9 (W : World) (ao : Option Addr) (len cap : Nat) (z : Nat → Int) (hl : len ≤ cap) (hcap : cap ≤ maxLen) (hcell : ∀ i, i < len → ∃ a, ao = some a ∧ W.cell? (a.add i) = some (.int .i64 (z i))) (hz : ∀ i, i < len → -9223372036854775808 ≤ z i ∧ z i ≤ 9223372036854775807) (htab : TabOk W) :
    Calls Tryz.prog 9 #[.slice ao len cap] W fun e w' => e = .returned (.bool true) ∧ Below W.heap.size W w' := by
  obtain ⟨i0, hi, hz0, hz1, hz2⟩ := info_parts Tryz.info3
  have hlt := htab.lt
  have HF : Hid (Calls Tryz.prog 10 #[] W fun e w' => ∃ ob g, e = .returned (.pointer (some ⟨ob, 0, none⟩)) ∧ Mach (Old W.heap.size) W.heap.size ob G0 w' g ∧ Below W.heap.size W w') := fresh10 (Old W.heap.size) W (fun _ h => h) hlt htab
  have tabs : ∀ w', Below W.heap.size W w' → TabOk w' := fun w' hb => htab.on (hb.block _ hlt)
  have HT := (show Hid _ from tabs)
  have HC := (show Hid _ from hcell)
  have HZ := (show Hid _ from hz)
  have hm : cap ≤ 9223372036854775807 := by unfold maxLen at hcap; omega
  clear hcell hz tabs htab
  go_enter Tryz.func9, Tryz.ntmps9
  go_wp2_with (first | (go_at_call 10; refine HF.out.mono ?_; rintro e1 w1 ⟨ob, g1, rfl, hM1, hb1⟩; have HM1 := (show Hid _ from hM1); have HB1 := (show Hid _ from hb1); clear hM1 hb1))
  go_loopg [4, 5, 6] (min len 12) (fun k v4 v5 v6 wr => ∃ i xs, LstG z len w1 k v4 v5 v6 wr i xs)
  case atStart => exact ⟨0, [], by omega, rfl, rfl, ⟨rfl, Or.inl ⟨rfl, rfl⟩⟩, Below.refl _ _⟩
  case round =>
    obtain ⟨i, xs, hG⟩ := hrel
    have HG := (show Hid _ from hG)
    obtain rfl := hG.idx
    obtain rfl := hG.txt
    obtain ⟨la, ln, lc, rfl⟩ := owns_slice hG.own
    cases gk with
    | zero =>
      have hi12 : i = min len 12 := by have := hG.sum; omega
      have hln : ln = i := by
        obtain ⟨_, ⟨e, h0⟩ | ⟨gb, cp, cur, e, _⟩⟩ := hG.own
        · cases e; exact h0.symm
        · cases e; rfl
      subst hln
      have hpin := picks_in z ln
      have hpl := picks_len z ln
      have hTl := nums_len (picks z ln) hpin
      have hbr := hG.below
      have hbW : Below W.heap.size W wr := HB1.out.trans (hbr.mono HB1.out.size)
      have hMr := HM1.out.below hbr
      have HR1 : Hid (Calls Tryz.prog 13 #[.pointer (some ⟨ob, 0, none⟩), .string ⟨src3.toArray⟩] wr fun e w' => ∃ g' sa sn sc, e = .returned (.tuple #[.agg #[.int .i64 1, .string ⟨nAll.toArray⟩, .int .i64 0, .int .i64 st3.steps, .slice sa sn sc], .bool true]) ∧ Mach (Old W.heap.size) W.heap.size ob GL w' g' ∧ Below W.heap.size wr w') := listed_run1 _ _ ob g1 wr hMr hbW.size hlt (HT.out _ hbW)
      have HR2 : Hid (∀ w' g', Mach (Old W.heap.size) W.heap.size ob GL w' g' → Below W.heap.size W w' → Calls Tryz.prog 13 #[.pointer (some ⟨ob, 0, none⟩), .string ⟨(Rd.listedT (picks z ln)).toArray⟩] w' fun e w'' => ∃ (st : Nat) (sa : Option Addr) (sn sc : Nat), e = .returned (.tuple #[.agg #[.int .i64 1, .string ⟨(listT (picks z ln)).toArray⟩, .int .i64 0, .int .i64 st, .slice sa sn sc], .bool true]) ∧ Below W.heap.size w' w'') := fun w' g' hM hb => listed_run2 _ _ ob g' w' (picks z ln) hpin (by rw [hpl]; omega) hM hb.size hlt (HT.out _ hb)
      have hlst : (⟨(Rd.listedT (picks z ln)).toArray⟩ : ByteArray) = ⟨#[40, 97, 108, 108, 32, 40, 108, 105, 115, 116]⟩ ++ ⟨(Rd.numsT (picks z ln)).toArray⟩ ++ ⟨#[41, 41]⟩ := by
        rw [show (⟨#[40, 97, 108, 108, 32, 40, 108, 105, 115, 116]⟩ : ByteArray) = ⟨[40, 97, 108, 108, 32, 40, 108, 105, 115, 116].toArray⟩ from rfl, show (⟨#[41, 41]⟩ : ByteArray) = ⟨[41, 41].toArray⟩ from rfl, cat, cat]
        rfl
      rw [hlst] at HR2
      have hsT := sz (Rd.numsT (picks z ln))
      rw [hpl] at hTl
      have HBW := (show Hid _ from hbW)
      have hgt : 0 < ln → (⟨(listT (picks z ln)).toArray⟩ : ByteArray) = ⟨#[40]⟩ ++ (⟨(Rd.numsT (picks z ln)).toArray⟩ : ByteArray).extract 1 (⟨(Rd.numsT (picks z ln)).toArray⟩ : ByteArray).size ++ ⟨#[41]⟩ ∧ 1 ≤ (Rd.numsT (picks z ln)).length := fun h0 => by
        cases hp : picks z ln with
        | nil => rw [hp] at hpl; simp at hpl; omega
        | cons m ns => exact ⟨listT_cons m ns, by simp [Rd.numsT]⟩
      have heq : ln = 0 → (⟨(listT (picks z ln)).toArray⟩ : ByteArray) = ⟨#[40]⟩ ++ ⟨(Rd.numsT (picks z ln)).toArray⟩ ++ ⟨#[41]⟩ := fun h0 => by subst h0; exact listT_nil
      generalize (⟨(listT (picks z ln)).toArray⟩ : ByteArray) = X at *
      generalize hS : (⟨(Rd.numsT (picks z ln)).toArray⟩ : ByteArray) = S at *
      generalize st3.steps = n3 at *
      have s1 : ¬ 9223372036854775807 < 10 + S.size := by omega
      have s2 : ¬ 9223372036854775807 < 10 + S.size + 2 := by omega
      have s3 : ¬ 9223372036854775807 < 1 + S.size := by omega
      have s4 : ¬ 9223372036854775807 < 1 + S.size + 1 := by omega
      clear hG HG hMr hbW hbr hlst hS
      by_cases h0 : ln = 0
      · subst h0
        obtain rfl := heq rfl
        have hlen0 : len = 0 := by omega
        subst hlen0
        clear hgt heq hpin hsT hTl hpl hi12
        go_upto_region 13 with (first | (go_at_call 13; refine HR1.out.mono ?_; rintro e2 w2 ⟨g2, sa2, sn2, sc2, rfl, hM2, hb2⟩; have HM2 : Hid (Mach (Old W.heap.size) W.heap.size ob GL (w2.alloc (.cells #[.int .i64 1, .string ⟨nAll.toArray⟩, .int .i64 0, .int .i64 n3, .slice sa2 sn2 sc2] 34)) g2) := hM2.below ((Below.refl _ w2).alloc (Nat.le_refl _) _); have HB2 : Hid (Below W.heap.size W (w2.alloc (.cells #[.int .i64 1, .string ⟨nAll.toArray⟩, .int .i64 0, .int .i64 n3, .slice sa2 sn2 sc2] 34))) := (HBW.out.trans hb2).alloc (HBW.out.trans hb2).size _; clear hM2 hb2))
        go_wp2_with (first | (go_at_call 13; refine (HR2.out _ _ HM2.out HB2.out).mono ?_; rintro e4 w4 ⟨st4, sa4, sn4, sc4, rfl, hb4⟩; have HB4 := (show Hid _ from HB2.out.trans hb4); clear hb4))
        go_ret
        exact ⟨rfl, HB4.out.alloc HB4.out.size _⟩
      · obtain ⟨rfl, hS1⟩ := hgt (by omega)
        have k1 : (0 : Int) < (ln : Int) := by omega
        have k2 : (1 : Int) ≤ (S.size : Int) := by omega
        have s5 : ¬ 9223372036854775807 < 1 + (S.size - 1) := by omega
        have s6 : ¬ 9223372036854775807 < 1 + (S.size - 1) + 1 := by omega
        by_cases hl2 : ln < len
        · have k3 : (ln : Int) < (len : Int) := by omega
          have k4 : ¬ (ln : Int) < 12 := by omega
          clear hgt heq hpin hsT hTl hpl hi12
          go_upto_region 13 with (first | (go_at_call 13; refine HR1.out.mono ?_; rintro e2 w2 ⟨g2, sa2, sn2, sc2, rfl, hM2, hb2⟩; have HM2 : Hid (Mach (Old W.heap.size) W.heap.size ob GL (w2.alloc (.cells #[.int .i64 1, .string ⟨nAll.toArray⟩, .int .i64 0, .int .i64 n3, .slice sa2 sn2 sc2] 34)) g2) := hM2.below ((Below.refl _ w2).alloc (Nat.le_refl _) _); have HB2 : Hid (Below W.heap.size W (w2.alloc (.cells #[.int .i64 1, .string ⟨nAll.toArray⟩, .int .i64 0, .int .i64 n3, .slice sa2 sn2 sc2] 34))) := (HBW.out.trans hb2).alloc (HBW.out.trans hb2).size _; clear hM2 hb2))
          go_wp2_with (first | (go_at_call 13; refine (HR2.out _ _ HM2.out HB2.out).mono ?_; rintro e4 w4 ⟨st4, sa4, sn4, sc4, rfl, hb4⟩; have HB4 := (show Hid _ from HB2.out.trans hb4); clear hb4))
          go_ret
          exact ⟨rfl, HB4.out.alloc HB4.out.size _⟩
        · have k3 : ¬ (ln : Int) < (len : Int) := by omega
          clear hgt heq hpin hsT hTl hpl hi12
          go_upto_region 13 with (first | (go_at_call 13; refine HR1.out.mono ?_; rintro e2 w2 ⟨g2, sa2, sn2, sc2, rfl, hM2, hb2⟩; have HM2 : Hid (Mach (Old W.heap.size) W.heap.size ob GL (w2.alloc (.cells #[.int .i64 1, .string ⟨nAll.toArray⟩, .int .i64 0, .int .i64 n3, .slice sa2 sn2 sc2] 34)) g2) := hM2.below ((Below.refl _ w2).alloc (Nat.le_refl _) _); have HB2 : Hid (Below W.heap.size W (w2.alloc (.cells #[.int .i64 1, .string ⟨nAll.toArray⟩, .int .i64 0, .int .i64 n3, .slice sa2 sn2 sc2] 34))) := (HBW.out.trans hb2).alloc (HBW.out.trans hb2).size _; clear hM2 hb2))
          go_wp2_with (first | (go_at_call 13; refine (HR2.out _ _ HM2.out HB2.out).mono ?_; rintro e4 w4 ⟨st4, sa4, sn4, sc4, rfl, hb4⟩; have HB4 := (show Hid _ from HB2.out.trans hb4); clear hb4))
          go_ret
          exact ⟨rfl, HB4.out.alloc HB4.out.size _⟩
    | succ k =>
      have h12 : i < 12 := by have := hG.sum; omega
      have hil : i < len := by have := hG.sum; omega
      obtain ⟨a, rfl, hca⟩ := HC.out i hil
      obtain ⟨zl, zu⟩ := HZ.out i hil
      have hab := World.block_lt_of_cell? W _ hca
      have hcr : wr.cell? (a.add i) = some (.int .i64 (z i)) := ((hG.below.cell (by have := HB1.out.size; omega)).trans (HB1.out.cell hab)).trans hca
      have hrl := Rd.pickN_lt (z i) 1000 (by omega)
      have HP : Hid (∀ w, Calls Tryz.prog 14 #[.int .i64 (z i), .int .i64 1000] w fun e w' => e = .returned (.int .i64 (Rd.pickN (z i) 1000 : Nat)) ∧ w' = w) := fun w => pick14 (z i) 1000 zl zu (by omega) (by omega) w
      have hTl := nums_len (picks z i) (picks_in z i)
      rw [picks_len] at hTl
      have hsuc := picks_succ z i
      have HR : Hid (∀ w' v' xs', w'.ownsRow w1.heap.size 3 1 v' (i + 1) xs' → Below w1.heap.size w1 w' → ∃ j ys, LstG z len w1 k v' (.string ⟨(Rd.numsT (picks z (i + 1))).toArray⟩) (.int .i64 ((i : Int) + 1)) w' j ys) := fun w' v' xs' ho hb => ⟨i + 1, xs', by have := hG.sum; omega, by simp, rfl, ho, hb⟩
      rw [hsuc] at HR
      have hil' := itoa_le ((Rd.pickN (z i) 1000 : Nat) : Int) (by omega) (by omega)
      have HI : Hid (∀ w', Below w1.heap.size w1 w' → Calls Tryz.prog 16 #[.int .i64 (Rd.pickN (z i) 1000 : Nat)] w' fun e w'' => e = .returned (.string ⟨(Lib.itoa (Rd.pickN (z i) 1000 : Nat)).toArray⟩) ∧ Below w'.heap.size w' w'') := fun w' hb => itoa16 _ (by omega) (by omega) w' (HT.out _ (HB1.out.trans (hb.mono HB1.out.size)))
      generalize Rd.pickN (z i) 1000 = r at *
      generalize Lib.itoa (r : Int) = I at *
      generalize Rd.numsT (picks z i) = T at *
      have HOW := (show Hid _ from hG.own)
      have hBr := hG.below
      have hbA : Below w1.heap.size w1 (wr.alloc (.cells #[.int .i64 r] 3)) := hBr.alloc hBr.size _
      have hoA : (wr.alloc (.cells #[.int .i64 r] 3)).ownsRow w1.heap.size 3 1 (.slice la ln lc) i xs := hG.own.alloc _
      have HOA := (show Hid _ from hoA)
      have HGR : Hid (∀ w', (wr.alloc (.cells #[.int .i64 r] 3)).grownBy w' (Value.slice la ln lc).ownBlock → Below w1.heap.size w1 w') := fun w' hg => hbA.trans (own_grown hoA (by have := hBr.size; simp; omega) hg)
      have hszA : w1.heap.size ≤ wr.heap.size := hBr.size
      have hS : (⟨(T ++ 32 :: I).toArray⟩ : ByteArray) = ⟨T.toArray⟩ ++ ⟨#[32]⟩ ++ ⟨I.toArray⟩ := by
        rw [show (⟨#[32]⟩ : ByteArray) = ⟨[32].toArray⟩ from rfl, cat, cat]
        simp
      have hsT := sz T
      have hsI := sz I
      generalize (⟨T.toArray⟩ : ByteArray) = S at *
      generalize (⟨I.toArray⟩ : ByteArray) = SI at *
      rw [hS] at HR
      have s1 : ¬ 9223372036854775807 < S.size + 1 := by omega
      have s2 : ¬ 9223372036854775807 < S.size + 1 + SI.size := by omega
      have j1 : (i : Int) < (len : Int) := by omega
      have j2 : (i : Int) < 12 := by omega
      have j3 : -9223372036854775808 ≤ (i : Int) + 1 := by omega
      have j4 : (i : Int) + 1 ≤ 9223372036854775807 := by omega
      have hgk := (show Hid _ from hG.sum)
      clear hG HG hsuc hoA hbA hca hTl hS hsT hsI hil'
      go_upto_region 10 with (first | (go_at_call 14; refine (HP.out _).mono ?_; rintro e2 w2 ⟨rfl, rfl⟩))
      go_wp2_with (at_builtin; refine wpList_append_own_at _ rfl _ _ 22 rfl w1.heap.size 3 i0 (.int .i64 0) 1 8 Tryz.underlying22 hi hz0 hz1 hz2 rfl (by decide) (.slice la ln lc) i xs rfl ?h1 ⟨w2.heap.size, 0, none⟩ 1 1 [.int .i64 r] rfl rfl ?h2 ?h3 ?h4 ?h5 ?h6 ?_)
      case h1 => exact HOA.out
      case h4 => unfold maxLen; omega
      case h5 => omega
      case h6 => first | omega | (simp; omega)
      case h3 => first | rfl | (intro u hu; simp at hu; subst hu; rfl)
      case h2 => first | done | exact cell_one_new _ _ _
      intro v9 w9 ho9 hg9 _ _
      have hb9 := HGR.out _ hg9
      have HO9 := (show Hid _ from ho9)
      obtain ⟨a9, k9, c9, rfl⟩ := owns_slice ho9
      clear ho9 hg9
      go_wp2_with (first | (go_at_call 16; refine (HI.out _ hb9).mono ?_; rintro e3 w3 ⟨rfl, hb3⟩; have hb13 := hb9.trans (hb3.mono hb9.size); have HO3 := (show Hid _ from own_below HO9.out hb3)))
      go_roundg k
      case measure => omega
      case rel => exact HR.out _ _ _ HO3.out hb13
end Go.Proofs.YtodeeegbajgafaaGreatDoor
