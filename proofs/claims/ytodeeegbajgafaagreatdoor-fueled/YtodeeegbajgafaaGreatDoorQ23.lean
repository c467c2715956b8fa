/- Sums, products, differences of numbers. Products; sums of two numbers as procedures. The reader reads a list, and one datum. The reader meets a word that may not stand. The reader reads data one behind the other, or meets a token that may not stand. The reader reads a datum behind a quote mark. -/
import Derived.Test.YtodeeegbajgafaaGreatDoorQ05
import Derived.Test.YtodeeegbajgafaaGreatDoorQ18
import Derived.Test.YtodeeegbajgafaaGreatDoorQ01
import Derived.Deep.LoopGhost
import Derived.Deep.RegionHeld3
namespace Go.Proofs.YtodeeegbajgafaaGreatDoor
open Go.RowKit
set_option maxHeartbeats 1000000 in
theorem plus_any (a b : Int) (w : World) (h0 : -9223372036854775808 ≤ a + b) (h1 : a + b ≤ 9223372036854775807) :
    Calls Tryz.prog 117 #[.int .i64 a, .int .i64 b] w fun e w' => e = .returned (.tuple #[.int .i64 (a + b), .bool true]) ∧ w' = w := by
  by_cases hb : 0 ≤ b
  · have hc : a ≤ a + b := by omega
    go_enter Tryz.func117, Tryz.ntmps117
    go_wp2
    go_ret2
    exact ⟨rfl, rfl⟩
  · have hc : ¬ a ≤ a + b := by omega
    go_enter Tryz.func117, Tryz.ntmps117
    go_wp2
    go_ret2
    exact ⟨rfl, rfl⟩
set_option maxHeartbeats 1000000 in
theorem minus_any (a b : Int) (w : World) (h0 : -9223372036854775808 ≤ a - b) (h1 : a - b ≤ 9223372036854775807) :
    Calls Tryz.prog 119 #[.int .i64 a, .int .i64 b] w fun e w' => e = .returned (.tuple #[.int .i64 (a - b), .bool true]) ∧ w' = w := by
  by_cases hb : 0 ≤ b
  · have hc : a - b ≤ a := by omega
    go_enter Tryz.func119, Tryz.ntmps119
    go_wp2
    go_ret2
    exact ⟨rfl, rfl⟩
  · have hc : ¬ a - b ≤ a := by omega
    go_enter Tryz.func119, Tryz.ntmps119
    go_wp2
    go_ret2
    exact ⟨rfl, rfl⟩
set_option maxHeartbeats 1000000 in
theorem less1_any (a b : Int) (w : World) : Calls Tryz.prog 124 #[.int .i64 a, .int .i64 b] w fun e w' => e = .returned (.bool (decide (a < b))) ∧ w' = w := by
  go_enter Tryz.func124, Tryz.ntmps124
  go_wp2
  go_ret
  exact ⟨rfl, rfl⟩
/-- Numbers in a row. -/
def NumsAt (w : World) (x : Value) (ns : List Int) : Prop := ∃ g o cap, x = .slice (some ⟨g, o, none⟩) ns.length cap ∧ ns.length ≤ cap ∧ cap ≤ 1000000 ∧ ∀ i (hi : i < ns.length), w.cell? ⟨g, o + i, none⟩ = some (.int .i64 ns[i])
/-- A function that joins two numbers. -/
def Joins (jn : Nat) (f : Int → Int → Int) (A : Int → Prop) : Prop := ∀ (a b : Int) (w : World), A a → -9223372036854775808 ≤ f a b → f a b ≤ 9223372036854775807 → Calls Tryz.prog jn #[.int .i64 a, .int .i64 b] w fun e w' => e = .returned (.tuple #[.int .i64 (f a b), .bool true]) ∧ w' = w
end Go.Proofs.YtodeeegbajgafaaGreatDoor

namespace Go.Proofs.YtodeeegbajgafaaGreatDoor
open Go.RowKit
set_option maxHeartbeats 1000000 in
theorem wraps_any (a b : Int) (w : World) (h : ¬ (a = -9223372036854775808 ∧ b = -1)) : Calls Tryz.prog 152 #[.int .i64 a, .int .i64 b] w fun e w' => e = .returned (.bool false) ∧ w' = w := by
  by_cases ha : a = -9223372036854775808
  · subst ha
    have hb : ¬ b = -1 := fun e => h ⟨rfl, e⟩
    have hb2 : (b == -1) = false := by simpa using hb
    go_enter Tryz.func152, Tryz.ntmps152
    go_wp2
    go_ret
    exact ⟨rfl, rfl⟩
  · clear h
    go_enter Tryz.func152, Tryz.ntmps152
    go_wp2
    go_ret
    exact ⟨rfl, rfl⟩
set_option maxHeartbeats 1000000 in
theorem times_any : Joins 118 (fun a b => a * b) (fun a => -9223372036854775808 ≤ a ∧ a ≤ 9223372036854775807) := by
  rintro a b w ⟨ha0, ha1⟩ h0 h1
  simp only at h0 h1
  by_cases hb : b = 0
  · subst hb
    simp only [Int.mul_zero]
    go_enter Tryz.func118, Tryz.ntmps118
    go_wp2
    go_ret2
    exact ⟨rfl, rfl⟩
  · have hq : (a * b).tdiv b = a := Int.mul_tdiv_cancel a hb
    have HW := wraps_any a b w (by rintro ⟨rfl, rfl⟩; omega)
    have hwr : wrap64 (a * b) = a * b := by
      generalize a * b = c at *
      unfold wrap64
      omega
    go_enter Tryz.func118, Tryz.ntmps118
    go_wp2_with (first | (go_at_call 152; refine HW.mono ?_; rintro e2 w2 ⟨rfl, rfl⟩))
    go_ret2
    exact ⟨rfl, rfl⟩
end Go.Proofs.YtodeeegbajgafaaGreatDoor

namespace Go.Proofs.YtodeeegbajgafaaGreatDoor
open Go.RowKit
theorem app_none (ty : TypeId) (b : Option Addr) (n cap : Nat) (w : World) (h : n ≤ cap) : (Builtin.append_ #[55, 55] ty #[.slice b n cap, .slice none 0 0]).run Tryz.prog w = .ok (.slice b n cap) w := by
  obtain ⟨i0, hi, _⟩ := info_parts Tryz.info62
  cases b with
  | none => simp [Builtin.append_, run_underlying Tryz.underlying55, sizeOf, typeInfo, hi, Builtin.lenOf, Builtin.firstCells, h]
  | some a => simp [Builtin.append_, run_underlying Tryz.underlying55, sizeOf, typeInfo, hi, Builtin.lenOf, Builtin.firstCells, h, storeCells]
/-- 'append(s, nothing...)' in a region that draws its order. -/
theorem step_append_none {P : Program} {ops : Array Oper} {o : Oper} {a : Act} {w : World} {K : Act → World → Prop} {Q : Exit → Act → World → Prop} {E : Prop}
    (hg : o.guard = none) (s x : Operand) (t : TypeId) (hop : o.op = Op.call { callee := Callee.builtin Builtin.append, args := #[s, x], argTypes := #[t, t] })
    (b : Option Addr) (n cap : Nat) (hs : a.eval s = .slice b n cap) (hx : a.eval x = .slice none 0 0)
    (hrun : (Builtin.append_ #[t, t] o.type #[.slice b n cap, .slice none 0 0]).run P w = .ok (.slice b n cap) w)
    (hK : K (a.put o.dst (.slice b n cap)) w) :
    if Region.wanted o (yielded ops a.tmps) = true then Oper.wp P o a w K Q else E := by
  have hw : Region.wanted o (yielded ops a.tmps) = true := by simp [Region.wanted, hg]
  rw [if_pos hw]
  unfold Oper.wp
  simp [execOp, hop, resolve, invoke, builtin, hs, hx, hrun, Result.andThen]
  exact hK
theorem RdAt.deep {rb : Nat} {s : ByteArray} {l : List UInt8} {d : Int} {w : World} (h : RdAt rb s l d w) (d' : Int) : RdAt rb s l d' (w.setCell ⟨rb, 4, none⟩ (.int .i64 d')) := by
  obtain ⟨T, h⟩ := h
  exact ⟨T, by rw [at_setCell h 4 _]; simp [rdCells]⟩
theorem kept_set (w : World) (rb o : Nat) (v : Value) : Kept (· = rb) w (w.setCell ⟨rb, o, none⟩ v) := by
  have h := Kept.refl (fun k => k = rb) w
  exact h.setCell (p := ⟨rb, o, none⟩) (fun _ => rfl) v
theorem RdAt.alloc {rb : Nat} {s : ByteArray} {l : List UInt8} {d : Int} {w : World} (h : RdAt rb s l d w) (o : Obj) : RdAt rb s l d (w.alloc o) := by
  obtain ⟨T, h⟩ := h
  exact ⟨T, at_alloc h o⟩
end Go.Proofs.YtodeeegbajgafaaGreatDoor

namespace Go.Proofs.YtodeeegbajgafaaGreatDoor
open Go.RowKit
/-- An interface's value, or none. -/
def IfV (v : Value) : Prop := v = .nilIface ∨ ∃ t x, v = .iface t x
theorem ErrsAt.kept {M : Nat → Prop} {w w' : World} (h : ErrsAt w) (hk : Kept M w w') (h4 : ¬ M 4) (h5 : ¬ M 5) : ErrsAt w' := by
  obtain ⟨⟨t, p, c⟩, ⟨t', p', c'⟩⟩ := h
  exact ⟨⟨t, p, (World.cell?_of_block (hk.block 4 (World.block_lt_of_cell? w _ c) h4)).trans c⟩, ⟨t', p', (World.cell?_of_block (hk.block 5 (World.block_lt_of_cell? w _ c') h5)).trans c'⟩⟩
set_option maxHeartbeats 400000 in
theorem atomOf_bad (s : ByteArray) (w : World) (hs : s.size ≤ 500) (hpos : 0 < s.size) (hE : ErrsAt w) (h : Rd.atomOf s.data.toList = none) :
    (Calls Tryz.prog 133 #[.string s] w fun e w' => e = .returned (.tuple #[.nilIface, .bool false]) ∧ Below w.heap.size w w') ∨ (Calls Tryz.prog 133 #[.string s] w fun e w' => (∃ t x, e = .returned (.tuple #[.iface t x, .bool false])) ∧ Below w.heap.size w w') := by
  unfold Rd.atomOf at h
  by_cases h1 : s.data.toList = [35, 116]
  · rw [if_pos h1] at h; cases h
  rw [if_neg h1] at h
  by_cases h2 : s.data.toList = [35, 102]
  · rw [if_pos h2] at h; cases h
  rw [if_neg h2] at h
  have e1 : (s.toList == [35, 116]) = false := by rw [Lib.toList_data]; simpa using h1
  have e1' : ¬ s.toList = [35, 116] := by rw [Lib.toList_data]; exact h1
  have e2 : (s.toList == [35, 102]) = false := by rw [Lib.toList_data]; simpa using h2
  clear h1 h2
  cases hL : s.data.toList with
  | nil => rw [Lib.size_eq, hL] at hpos; simp at hpos
  | cons b r =>
    rw [hL] at h
    have hb0 : s[0] = b := by
      have := drop_cons s 0 hpos
      rw [List.drop_zero, hL] at this
      exact (List.cons.inj this).1.symm
    simp only at h
    by_cases h3 : b.toNat = 35
    · have c3 := beqT _ 35 h3
      clear h h3 hL
      refine Or.inl ?_
      go_enter Tryz.func133, Tryz.ntmps133
      go_wp2_with fail
      go_ret2
      exact ⟨rfl, Below.refl _ _⟩
    · rw [if_neg h3] at h
      have c3 := beqF _ 35 h3
      rw [← hL] at h
      cases hn : Rd.beginsNum s.data.toList
      · rw [hn] at h; cases h
      · rw [hn] at h
        simp only [if_true] at h
        obtain ⟨⟨t4, p4, c4⟩, ⟨t5, p5, c5⟩⟩ := hE
        have HN := (show Hid _ from hn)
        cases hp : Lib.parseIntB 64 s.data.toList with
        | ok v => rw [hp] at h; cases h
        | «syntax» =>
          have HP := (show Hid _ from hp)
          clear h h3 hL hn hp
          refine Or.inr ?_
          go_enter Tryz.func133, Tryz.ntmps133
          go_wp2_with (first | (go_at_call 154; refine (beginsAsNumber_any s _).mono ?_; rintro e w' ⟨rfl, rfl⟩; rw [HN.out]) | (go_at_call 155; refine (Tryz.strconv_ParseInt_10_at64_syntax s (by omega) HP.out _ _ c4 (Or.inr ⟨_, _, rfl⟩)).mono ?_; rintro e w' ⟨N, rfl, _, _, hb⟩))
          go_region
          all_goals
            go_wp2
            go_ret2
            exact ⟨⟨_, _, rfl⟩, hb.drew⟩
        | range =>
          have HP := (show Hid _ from hp)
          clear h h3 hL hn hp
          refine Or.inr ?_
          go_enter Tryz.func133, Tryz.ntmps133
          go_wp2_with (first | (go_at_call 154; refine (beginsAsNumber_any s _).mono ?_; rintro e w' ⟨rfl, rfl⟩; rw [HN.out]) | (go_at_call 155; refine (Tryz.strconv_ParseInt_10_at64_range s (by omega) HP.out _ _ c5 (Or.inr ⟨_, _, rfl⟩)).mono ?_; rintro e w' ⟨N, rfl, _, _, hb⟩))
          go_region
          all_goals
            go_wp2
            go_ret2
            exact ⟨⟨_, _, rfl⟩, hb.drew⟩
set_option maxHeartbeats 1000000 in
theorem rdAtom_bad (rb : Nat) (s : ByteArray) (l : List UInt8) (d : Int) (w : World) (hs : s.size ≤ 500) (hl : l <:+ s.data.toList) (hr : RdAt rb s l d w) (hq : Rd.kindAt l = 5) (ha : Rd.atomOf (Rd.textOf l) = none) (hE : ErrsAt w) :
    Calls Tryz.prog 93 #[.pointer (some ⟨rb, 0, none⟩)] w fun e w' => ∃ v, IfV v ∧ e = .returned (.tuple #[.agg #[.int .i64 (s.size - l.length : Nat), .slice none 0 0, v], .bool false]) ∧ RdAt rb s l d w' ∧ Kept (· = rb) w w' := by
  have hm : s.size ≤ maxLen := by unfold maxLen; omega
  obtain ⟨T, hr1⟩ := id hr
  have c2 : w.cell? ⟨rb, 2, none⟩ = some (.int .i64 (s.size - l.length : Nat)) := cell_of_at hr1 2
  have c3 : w.cell? ⟨rb, 3, none⟩ = some (.string ⟨(Rd.textOf l).toArray⟩) := cell_of_at hr1 3
  have htx : (⟨(Rd.textOf l).toArray⟩ : ByteArray).size ≤ 500 := by
    rw [textOf_size]
    have h1 := Rd.text_len l
    have h2 := hl.length_le
    simp at h2; omega
  have hpos : 0 < (⟨(Rd.textOf l).toArray⟩ : ByteArray).size := by
    rw [textOf_size]
    cases l with
    | nil => cases hq
    | cons b r =>
      have hk : Rd.kindOf b = 5 := hq
      show 0 < (if Rd.kindOf b = 5 then (b :: r).takeWhile Rd.isWord else [b]).length
      rw [if_pos hk, List.takeWhile_cons, if_pos (Rd.kindOf_word b hk)]
      simp
  have hlt := lt_of_at hr1
  clear hr1 hq
  have HE : Hid (ErrsAt (w.alloc (.cells #[.int .i64 0, .slice none 0 0, .nilIface] 62))) := hE.kept (M := fun _ => False) ((Kept.refl _ w).alloc _) id id
  generalize hpl : s.size - l.length = pl at *
  generalize htxx : (⟨(Rd.textOf l).toArray⟩ : ByteArray) = tx at *
  have ha' : Rd.atomOf tx.data.toList = none := by rw [← htxx]; exact ha
  have HC := atomOf_bad tx (w.alloc (.cells #[.int .i64 0, .slice none 0 0, .nilIface] 62)) htx hpos HE.out ha'
  have hne : w.heap.size ≠ rb := by omega
  have hkA : Kept (· = rb) w (w.alloc (.cells #[.int .i64 0, .slice none 0 0, .nilIface] 62)) := (Kept.refl _ w).alloc _
  have hrA := hr.alloc (.cells #[.int .i64 0, .slice none 0 0, .nilIface] 62)
  have hnA := at_new w (.cells #[.int .i64 0, .slice none 0 0, .nilIface] 62)
  clear ha ha' htxx hpl hE
  rcases HC with HC | HC
  · go_enter Tryz.func93, Tryz.ntmps93
    go_wp2_with (first | (go_at_call 133; refine HC.mono ?_; rintro e w1 ⟨rfl, hb⟩; have hn1 := Below.at hb hnA; obtain ⟨c20, c21, c22, f20, f21, f22⟩ := cells3 hn1))
    have hst := stored3 hn1 (.int .i64 pl) (.slice none 0 0) .nilIface
    obtain ⟨d0, d1, d2, _, _, _⟩ := cells3 hst
    refine bodyPost_ret (v := .tuple #[.agg #[.int .i64 pl, .slice none 0 0, .nilIface], .bool false]) ?_ rfl ⟨.nilIface, Or.inl rfl, rfl, ?_, kept_stored3 (hkA.trans (Kept.of_below hb _)) (fun h => absurd h (Nat.lt_irrefl _)) _ _ _⟩
    · simp [results, Tryz.results93, go_sem, d0, d1, d2]
    · obtain ⟨T2, h2⟩ := hrA.kept hb
      exact ⟨T2, at_stored3 h2 (by omega) _ _ _⟩
  · go_enter Tryz.func93, Tryz.ntmps93
    go_wp2_with (first | (go_at_call 133; refine HC.mono ?_; rintro e w1 ⟨⟨t0, x0, rfl⟩, hb⟩; have hn1 := Below.at hb hnA; obtain ⟨c20, c21, c22, f20, f21, f22⟩ := cells3 hn1))
    have hst := stored3 hn1 (.int .i64 pl) (.slice none 0 0) (.iface t0 x0)
    obtain ⟨d0, d1, d2, _, _, _⟩ := cells3 hst
    refine bodyPost_ret (v := .tuple #[.agg #[.int .i64 pl, .slice none 0 0, .iface t0 x0], .bool false]) ?_ rfl ⟨.iface t0 x0, Or.inr ⟨_, _, rfl⟩, rfl, ?_, kept_stored3 (hkA.trans (Kept.of_below hb _)) (fun h => absurd h (Nat.lt_irrefl _)) _ _ _⟩
    · simp [results, Tryz.results93, go_sem, d0, d1, d2]
    · obtain ⟨T2, h2⟩ := hrA.kept hb
      exact ⟨T2, at_stored3 h2 (by omega) _ _ _⟩
end Go.Proofs.YtodeeegbajgafaaGreatDoor

namespace Go.Proofs.YtodeeegbajgafaaGreatDoor
open Go.RowKit
/-- The cells of a slice of data are there, in blocks from B on. -/
def RawS (B bd : Nat) (w : World) (po : Option Addr) (n c : Nat) : Prop := (n = 0 ∧ po = none ∧ c = 0) ∨ ∃ (g o : Nat) (news : List Value), po = some ⟨g, o, none⟩ ∧ B ≤ g ∧ 0 < n ∧ n ≤ c ∧ n ≤ bd ∧ news.length = n * 3 ∧ (∀ j u, news[j]? = some u → w.cell? ⟨g, o + j, none⟩ = some u) ∧ ∀ u ∈ news, u.oneCell' = true
def DatR (rb : Nat) (s : ByteArray) (d bd : Nat) (r : Rd.RR Rd.D) (w : World) : Ending → World → Prop := fun e w' => match r with
  | .ok dd l' m => ∃ (p : Nat) (po : Option Addr) (n c : Nat) (ti : TypeId) (xv : Value), e = .returned (.tuple #[.agg #[.int .i64 p, .slice po n c, .iface ti xv], .bool true]) ∧ RepD (fun k => w.heap.size ≤ k) w' (.agg #[.int .i64 p, .slice po n c, .iface ti xv]) dd ∧ RawS w.heap.size bd w' po n c ∧ RdAt rb s l' (max d m : Nat) w' ∧ Kept (· = rb) w w'
  | .bad l' => ∃ (p : Int) (po : Option Addr) (n c : Nat) (x : Value) (d' : Nat), e = .returned (.tuple #[.agg #[.int .i64 p, .slice po n c, x], .bool false]) ∧ RawS w.heap.size bd w' po n c ∧ IfV x ∧ RdAt rb s l' d' w' ∧ Kept (· = rb) w w'
def DatumT (f : Nat) : Prop := ∀ (rb : Nat) (s : ByteArray) (l : List UInt8) (d dep : Nat) (w : World), s.size ≤ 500 → l <:+ s.data.toList → RdAt rb s l d w → ErrsAt w → 5 < rb → 2 * l.length + 1 ≤ f → dep + f ≤ 4000 →
  Calls Tryz.prog 44 #[.pointer (some ⟨rb, 0, none⟩), .int .i64 dep] w (DatR rb s d (l.length + 1) (Rd.tD f s.size dep l) w)
def DataR (rb : Nat) (s : ByteArray) (d : Nat) (r : Rd.RR (List Rd.D)) (w : World) : Ending → World → Prop := fun e w' => match r with
  | .ok ds l' m => ∃ sl xs, e = .returned (.tuple #[sl, .bool true]) ∧ w'.ownsRow w.heap.size 62 3 sl ds.length xs ∧ (∀ i (hi : i < ds.length), RepD (fun k => w.heap.size ≤ k ∧ some k ≠ sl.ownBlock) w' (el3 xs i) ds[i]) ∧ (ds.length = 0 → sl = .slice none 0 0) ∧ RdAt rb s l' (max d m : Nat) w' ∧ Kept (· = rb) w w'
  | .bad l' => ∃ d' : Nat, e = .returned (.tuple #[.slice none 0 0, .bool false]) ∧ RdAt rb s l' d' w' ∧ Kept (· = rb) w w'
def DataT (f : Nat) : Prop := ∀ (rb : Nat) (s : ByteArray) (l : List UInt8) (d dep : Nat) (w : World), s.size ≤ 500 → l <:+ s.data.toList → RdAt rb s l d w → ErrsAt w → 5 < rb → 2 * l.length + 2 ≤ f → dep + f ≤ 4000 →
  Calls Tryz.prog 31 #[.pointer (some ⟨rb, 0, none⟩), .int .i64 dep] w (DataR rb s d (Rd.tL f s.size dep l) w)
namespace Rd
def joinR (done : List D) (mt : Nat) : RR (List D) → RR (List D)
  | .ok ds l m => .ok (done ++ ds) l (max mt m)
  | .bad l => .bad l
end Rd
/-- Where the loop stands. -/
structure AheadT (rb : Nat) (s : ByteArray) (w : World) (R : Rd.RR (List Rd.D)) (d dep f k : Nat) (v : Value) (wr : World) (done : List Rd.D) (lc : List UInt8) (mt : Nat) (xs : List Value) : Prop where
  le : k ≤ f
  res : R = Rd.joinR done mt (Rd.tL k s.size dep lc)
  enough : 2 * lc.length + 2 ≤ k
  suf : lc <:+ s.data.toList
  few : done.length + lc.length ≤ 500
  rd : RdAt rb s lc (max d mt : Nat) wr
  kept : Kept (· = rb) w wr
  own : wr.ownsRow w.heap.size 62 3 v done.length xs
  els : ∀ i (hi : i < done.length), RepD (fun k => w.heap.size ≤ k ∧ some k ≠ v.ownBlock) wr (el3 xs i) done[i]
  nil : done.length = 0 → v = .slice none 0 0
theorem aheadT_push {rb : Nat} {s : ByteArray} {w : World} {R : Rd.RR (List Rd.D)} {d dep f k : Nat} {v : Value} {wr : World} {done : List Rd.D} {lc : List UInt8} {mt : Nat} {xs : List Value} (h : AheadT rb s w R d dep f (k + 1) v wr done lc mt xs) (hlt : rb < w.heap.size) (hkind : Rd.kindAt lc = 5 ∨ Rd.kindAt lc = 4 ∨ Rd.kindAt lc = 1)
    {dd : Rd.D} {l1 : List UInt8} {m1 : Nat} (hd : Rd.tD k s.size dep lc = .ok dd l1 m1) {w1 : World} {v0 v1 v2 : Value} (hrep : RepD (fun k => wr.heap.size ≤ k) w1 (.agg #[v0, v1, v2]) dd) (hr1 : RdAt rb s l1 (max (max d mt) m1 : Nat) w1) (hk1 : Kept (· = rb) wr w1)
    {o1 o2 : Obj} {v' : Value} {w2 : World} (hown' : w2.ownsRow w.heap.size 62 3 v' (done.length + 1) (xs ++ [v0, v1, v2])) (hg : ((w1.alloc o1).alloc o2).grownBy w2 v.ownBlock)
    (hat : v'.ownBlock = v.ownBlock ∨ v'.ownBlock = some (w1.heap.size + 1 + 1)) : AheadT rb s w R d dep f k v' w2 (done ++ [dd]) l1 (max mt m1) (xs ++ [v0, v1, v2]) := by
  have hleft := Rd.tD_left k s.size dep lc
  rw [hd] at hleft
  obtain ⟨lf1, lf2, lf3⟩ := hleft
  have hen := h.enough
  have hfew := h.few
  have hown := h.own
  have hkc := h.kept
  have hels := h.els
  have hres : R = Rd.joinR (done ++ [dd]) (max mt m1) (Rd.tL k s.size dep l1) := by
    rw [h.res, Rd.tL, if_pos hkind, hd]
    simp only
    generalize Rd.tL k s.size dep l1 = r
    cases r with
    | bad l' => rfl
    | ok ds l' m => simp [Rd.joinR, Nat.max_assoc]
  have hob := ownBlock_of hown
  have hkW : Kept (· = rb) wr ((w1.alloc o1).alloc o2) := (hk1.alloc o1).alloc o2
  have hsz := hkc.size
  have hs1 := hk1.size
  have hsW := hkW.size
  have hstep : ∀ j, j < w1.heap.size → some j ≠ v.ownBlock → w2.heap[j]? = w1.heap[j]? := by
    intro j hj hne
    have e1 : ((w1.alloc o1).alloc o2).heap[j]? = w1.heap[j]? := by
      rw [Below.heap_alloc _ _ _ (by simp; omega), Below.heap_alloc _ _ _ hj]
    rw [hg.block j (by simp; omega) hne, e1]
  have hrb : some rb ≠ v.ownBlock := by
    intro e
    have := (hob rb e.symm).1
    omega
  refine ⟨by have := h.le; omega, hres, by omega, lf1.trans h.suf, by simp; omega, ?_, ?_, by simpa using hown', ?_, fun e => by simp at e⟩
  · obtain ⟨T, h⟩ := hr1
    rw [Nat.max_assoc] at h
    exact ⟨T, (hstep rb (lt_of_at h) hrb).trans h⟩
  · exact (hkc.trans hkW).grown hg (fun g e hlt' => by have := (hob g e).1; omega)
  · intro i hi
    have hxl : xs.length = done.length * 3 := hown.1
    simp only [List.length_append, List.length_cons, List.length_nil] at hi
    by_cases hlast : i < done.length
    · have e1 : el3 (xs ++ [v0, v1, v2]) i = el3 xs i := by
        unfold el3
        simp only [List.getD_eq_getElem?_getD]
        rw [List.getElem?_append_left (by omega), List.getElem?_append_left (by omega), List.getElem?_append_left (by omega)]
      rw [e1]
      have e2 : (done ++ [dd])[i] = done[i] := List.getElem_append_left hlast
      rw [e2]
      refine (hels i hlast).mono ?_
      intro j hj ⟨h1, h2⟩
      refine ⟨⟨h1, ?_⟩, ?_⟩
      · rcases hat with h | h
        · rw [h]; exact h2
        · rw [h]; intro e; cases e; omega
      · rw [hstep j (by omega) h2]
        exact hk1.block j hj (fun (e : j = rb) => by omega)
    · have hi' : i = done.length := by omega
      subst hi'
      have e1 : el3 (xs ++ [v0, v1, v2]) done.length = .agg #[v0, v1, v2] := by
        unfold el3
        simp only [List.getD_eq_getElem?_getD]
        rw [List.getElem?_append_right (by omega), List.getElem?_append_right (by omega), List.getElem?_append_right (by omega)]
        rw [show 3 * done.length - xs.length = 0 by omega, show 3 * done.length + 1 - xs.length = 1 by omega, show 3 * done.length + 2 - xs.length = 2 by omega]
        rfl
      have e2 : (done ++ [dd])[done.length] = dd := by simp
      rw [e1, e2]
      refine hrep.mono ?_
      intro j hj h1
      refine ⟨⟨by omega, ?_⟩, ?_⟩
      · rcases hat with h | h
        · rw [h]; intro e
          have := (hob j e.symm).2
          omega
        · rw [h]; intro e; cases e; omega
      · refine hstep j hj ?_
        intro e
        have := (hob j e.symm).2
        omega
set_option maxHeartbeats 4000000 in
set_option maxRecDepth 100000 in
theorem dataAhead_t (f : Nat) (H : ∀ g, g < f → DatumT g) : DataT f := by
  intro rb s l d dep w hs hl hr hE hrb5 hen hdep
  obtain ⟨i0, hi, hz0, hz1, hz2⟩ := info_parts Tryz.info62
  have hlt : rb < w.heap.size := by obtain ⟨T, h⟩ := hr; exact lt_of_at h
  have hll : l.length ≤ 500 := by have := hl.length_le; simp at this; omega
  have HEW : Hid (∀ w', Kept (· = rb) w w' → ErrsAt w') := fun w' hk => hE.kept hk (by omega) (by omega)
  obtain ⟨R, hR⟩ : ∃ R, R = Rd.tL f s.size dep l := ⟨_, rfl⟩
  have hA0 : AheadT rb s w R d dep f f (.slice none 0 0) w [] l 0 [] := ⟨Nat.le_refl _, by rw [hR]; cases Rd.tL f s.size dep l <;> simp [Rd.joinR], hen, hl, by simpa using hll, by simpa using hr, Kept.refl _ _, ⟨rfl, Or.inl ⟨rfl, rfl⟩⟩, fun i hi => absurd hi (Nat.not_lt_zero _), fun _ => rfl⟩
  have HA0 := (show Hid _ from hA0)
  rw [← hR]
  clear hR hr hA0 hE
  go_enter Tryz.func31, Tryz.ntmps31
  go_wp2
  go_loopg [6] f (fun k v wr => ∃ done lc mt xs, AheadT rb s w R d dep f k v wr done lc mt xs)
  case atStart => exact ⟨[], l, 0, [], HA0.out⟩
  case round =>
    obtain ⟨done, lc, mt, xs, hA⟩ := hrel
    obtain ⟨T, hrc1⟩ := hA.rd
    have c1 : wr.cell? ⟨rb, 1, none⟩ = some (.int .i64 (Rd.kindAt lc : Nat)) := cell_of_at hrc1 1
    have hen2 := hA.enough
    have HA := (show Hid _ from hA)
    have hszr := hA.kept.size
    have hle := hA.le
    have hfew := hA.few
    clear hrc1
    cases gk with
    | zero => omega
    | succ k =>
      by_cases hmore : Rd.kindAt lc = 5 ∨ Rd.kindAt lc = 4 ∨ Rd.kindAt lc = 1
      · have hDk := H k (by omega) rb s lc (max d mt) dep wr hs hA.suf hA.rd (HEW.out _ hA.kept) hrb5 (by omega) (by omega)
        unfold DatR at hDk
        cases hrd : Rd.tD k s.size dep lc with
        | ok dd l1 m1 =>
          rw [hrd] at hDk
          simp only at hDk
          have HP : Hid (∀ (w1 w2 : World) (v0 v1 v2 v' : Value) (o1 o2 : Obj), RepD (fun k => wr.heap.size ≤ k) w1 (.agg #[v0, v1, v2]) dd → RdAt rb s l1 (max (max d mt) m1 : Nat) w1 → Kept (· = rb) wr w1 → w2.ownsRow w.heap.size 62 3 v' (done.length + 1) (xs ++ [v0, v1, v2]) → ((w1.alloc o1).alloc o2).grownBy w2 u6.ownBlock → (v'.ownBlock = u6.ownBlock ∨ v'.ownBlock = some (w1.heap.size + 1 + 1)) → ∃ done lc mt xs, AheadT rb s w R d dep f k v' w2 done lc mt xs) := fun w1 w2 v0 v1 v2 v' o1 o2 h1 h2 h3 h4 h5 h6 => ⟨_, _, _, _, aheadT_push HA.out hlt hmore hrd h1 h2 h3 h4 h5 h6⟩
          have HO : Hid (∀ w1 o1 o2, Kept (· = rb) wr w1 → ((w1.alloc o1).alloc o2).ownsRow w.heap.size 62 3 u6 done.length xs) := fun w1 o1 o2 hk => ownsRow_kept (M := (· = rb)) HA.out.own ((hk.alloc _).alloc _) (fun g hg e => by subst e; exact absurd hg (Nat.not_le.2 hlt))
          have HDK := (show Hid _ from hDk)
          clear hA hrd HA
          rcases hmore with h5 | h5 | h5 <;>
          (rw [h5] at c1
           clear h5
           go_wp2_with (first | (go_at_call 44; refine Calls.mono hDk ?_; rintro e w1 ⟨pp, po, pn, pc, ti, xv, rfl, hrep, hraw, hr1, hk1⟩) | (at_builtin; refine wpList_append_own_at _ rfl _ _ 55 rfl w.heap.size 62 i0 (.agg #[.int .i64 0, .slice none 0 0, .nilIface]) 3 48 Tryz.underlying55 hi hz0 hz1 hz2 rfl (by decide) u6 done.length xs rfl ?h1 ⟨w1.heap.size + 1, 0, none⟩ 1 1 [.int .i64 pp, .slice po pn pc, .iface ti xv] rfl rfl ?h2 ?h3 ?h4 ?h5 ?h6 ?_))
           case h1 => exact HO.out _ _ _ hk1
           case h2 => exact cell_three (by simpa using at_new (w1.alloc (.cells #[.int .i64 pp, .slice po pn pc, .iface ti xv] 62)) (.cells #[.int .i64 pp, .slice po pn pc, .iface ti xv] 62))
           case h3 => intro u hu; simp at hu; rcases hu with rfl | rfl | rfl <;> rfl
           case h4 => unfold maxLen; omega
           case h5 => omega
           case h6 => have := hk1.size; simp; omega
           intro v' w2 hown' hgrow _ hat
           have HAh := (show Hid _ from HP.out _ _ _ _ _ _ _ _ hrep hr1 hk1 hown' hgrow hat)
           clear hrep hr1 hk1 hown' hgrow hat hraw
           go_wp2
           go_roundg k
           case measure => omega
           case rel => exact HAh.out)
        | bad l1 =>
          rw [hrd] at hDk
          simp only at hDk
          have HRB : Hid (R = .bad l1) := by
            show R = .bad l1
            rw [hA.res, Rd.tL, if_pos hmore, hrd]
            rfl
          have HKW : Hid (Kept (· = rb) w wr) := hA.kept
          clear hA hrd HA
          rcases hmore with h5 | h5 | h5 <;>
          (rw [h5] at c1
           clear h5
           go_wp2_with (first | (go_at_call 44; refine Calls.mono hDk ?_; rintro e w1 ⟨pp, po, pn, pc, x, d1, rfl, hraw, hx, hr1, hk1⟩; rcases hx with rfl | ⟨t0, x0, rfl⟩))
           all_goals
             go_wp2
             go_ret2
             rw [HRB.out]
             refine ⟨d1, rfl, hr1.alloc _, HKW.out.trans (hk1.alloc _)⟩)
      · have HRO : Hid (R = .ok done lc mt) := by
          show R = .ok done lc mt
          rw [hA.res, Rd.tL, if_neg hmore]
          simp [Rd.joinR]
        have t5 : ((Rd.kindAt lc : Int) == 5) = false := by simp; omega
        have t4 : ((Rd.kindAt lc : Int) == 4) = false := by simp; omega
        have t1 : ((Rd.kindAt lc : Int) == 1) = false := by simp; omega
        clear hmore hA
        go_wp2
        go_ret2
        rw [HRO.out]
        exact ⟨u6, xs, rfl, HA.out.own, HA.out.els, HA.out.nil, HA.out.rd, HA.out.kept⟩
end Go.Proofs.YtodeeegbajgafaaGreatDoor

namespace Go.Proofs.YtodeeegbajgafaaGreatDoor
open Go.RowKit
theorem six_cells {B bd : Nat} {W : World} {k : Nat} {a b c a' b' c' : Value} {T : TypeId} (hB : B ≤ k) (hbd : 2 ≤ bd) (h : W.heap[k]? = some (.cells #[a, b, c, a', b', c'] T (0, 0))) (ha : a.oneCell' = true) (hb : b.oneCell' = true) (hc : c.oneCell' = true) (ha' : a'.oneCell' = true) (hb' : b'.oneCell' = true) (hc' : c'.oneCell' = true) : RawS B bd W (some ⟨k, 0, none⟩) 2 2 := by
  refine Or.inr ⟨k, 0, [a, b, c, a', b', c'], rfl, hB, by omega, by omega, hbd, rfl, fun j u hj => ?_, fun u hu => ?_⟩
  · rw [Nat.zero_add, cell_of_at h]
    simpa using hj
  · simp only [List.mem_cons, List.not_mem_nil, or_false] at hu
    rcases hu with rfl | rfl | rfl | rfl | rfl | rfl <;> assumption
theorem rep_quote {ok : Nat → Prop} {W : World} {k pl p : Nat} {po : Option Addr} {n c : Nat} {ti : TypeId} {xv : Value} {dd : Rd.D} {T : TypeId} (h : W.heap[k]? = some (.cells #[.int .i64 pl, .slice none 0 0, .iface 115 (.string ⟨#[113, 117, 111, 116, 101]⟩), .int .i64 p, .slice po n c, .iface ti xv] T (0, 0))) (hk : ok k) (hd : RepD ok W (.agg #[.int .i64 p, .slice po n c, .iface ti xv]) dd) :
    RepD ok W (.agg #[.int .i64 pl, .slice (some ⟨k, 0, none⟩) 2 2, .iface 146 (.agg #[])]) (Rd.quoteD pl dd) := by
  refine RepD.node pl .empty k 0 2 _ T [.mk pl [] (.sym Rd.kwQuote), dd] (fun i => if i = 0 then .int .i64 pl else .int .i64 p) (fun i => if i = 0 then .slice none 0 0 else .slice po n c) (fun i => if i = 0 then .iface 115 (.string ⟨#[113, 117, 111, 116, 101]⟩) else .iface ti xv) hk h (by simp) (fun i hi => ?_) (fun i hi => ?_)
  · simp only [List.length_cons, List.length_nil] at hi
    have hi' : i = 0 ∨ i = 1 := by omega
    rcases hi' with rfl | rfl <;> exact ⟨rfl, rfl, rfl⟩
  · simp only [List.length_cons, List.length_nil] at hi
    have hi' : i = 0 ∨ i = 1 := by omega
    rcases hi' with rfl | rfl
    · exact RepD.leaf pl (.sym Rd.kwQuote)
    · exact hd
set_option maxHeartbeats 4000000 in
set_option maxRecDepth 100000 in
theorem quoted_t (f : Nat) (HD : DatumT f) (rb : Nat) (s : ByteArray) (l : List UInt8) (d dep : Nat) (w : World) (hs : s.size ≤ 500) (hl : l <:+ s.data.toList) (hr : RdAt rb s l d w) (hE : ErrsAt w) (hrb5 : 5 < rb) (hk : Rd.kindAt l = 4) (hen : 2 * l.length ≤ f + 1) (hdep : dep + f ≤ 4000) :
    Calls Tryz.prog 94 #[.pointer (some ⟨rb, 0, none⟩), .int .i64 dep] w (DatR rb s d (l.length + 1) (Rd.quoteR (s.size - l.length) dep (Rd.tD f s.size dep (Rd.skip (Rd.behind l)))) w) := by
  have hm : s.size ≤ maxLen := by unfold maxLen; omega
  obtain ⟨T, hr1⟩ := id hr
  have c2 : w.cell? ⟨rb, 2, none⟩ = some (.int .i64 (s.size - l.length : Nat)) := cell_of_at hr1 2
  have c4 : w.cell? ⟨rb, 4, none⟩ = some (.int .i64 d) := cell_of_at hr1 4
  have f4 := free_of_at hr1 4
  have hlt := lt_of_at hr1
  have hne : w.heap.size ≠ rb := by omega
  clear hr1
  have hl1 : Rd.skip (Rd.behind l) <:+ s.data.toList := (Rd.next_suffix l).trans hl
  have hll := Rd.next_lt (l := l) (by omega)
  generalize hpl : s.size - l.length = pl at *
  have HK := (show Hid _ from hk)
  clear hk hpl
  have HMX : Hid ((max (d : Int) (dep : Int)) = ((max d dep : Nat) : Int)) := by unfold Hid; omega
  have HDT : Hid (∀ w1, RdAt rb s (Rd.skip (Rd.behind l)) (max d dep : Nat) w1 → Kept (· = rb) w w1 → Calls Tryz.prog 44 #[.pointer (some ⟨rb, 0, none⟩), .int .i64 dep] w1 (DatR rb s (max d dep) ((Rd.skip (Rd.behind l)).length + 1) (Rd.tD f s.size dep (Rd.skip (Rd.behind l))) w1)) := fun w1 h1 h2 => HD rb s _ (max d dep) dep w1 hs hl1 h1 (hE.kept h2 (by omega) (by omega)) hrb5 (by omega) hdep
  go_enter Tryz.func94, Tryz.ntmps94
  go_wp2_with fail
  rw [HMX.out]
  refine (pass_yes rb s l ((max d dep : Nat) : Int) 4 _ hm hl (RdAt.alloc (hr.deep _) _) HK.out).mono ?_
  rintro e w1 ⟨rfl, hr1, hk1⟩
  have hn1 : w1.heap[w.heap.size]? = some (.cells #[.int .i64 0, .slice none 0 0, .nilIface] 62 (0, 0)) := by
    have h := hk1.at (by simpa [World.setCell] using hne) (at_new (w.setCell ⟨rb, 4, none⟩ (.int .i64 ((max d dep : Nat) : Int))) _)
    simpa [World.setCell] using h
  have hsz1 : w.heap.size + 1 ≤ w1.heap.size := by have := hk1.size; simpa [World.setCell] using this
  have hkA : Kept (· = rb) w w1 := ((kept_set w rb 4 _).alloc _).trans hk1
  have HDK := HDT.out w1 hr1 hkA
  unfold DatR at HDK
  cases hres : Rd.tD f s.size dep (Rd.skip (Rd.behind l)) with
  | ok dd l' m =>
    rw [hres] at HDK
    simp only at HDK
    have HRES : Hid (Rd.quoteR pl dep (Rd.tD f s.size dep (Rd.skip (Rd.behind l))) = .ok (Rd.quoteD pl dd) l' (max dep m)) := by
      show _ = _
      rw [hres]
      rfl
    clear HDT HD hres
    go_wp2_with (first | (go_at_call 44; refine Calls.mono HDK ?_; rintro e w2 ⟨pp, po, pn, pc, ti, xv, rfl, hrep, hraw, hr2, hk2⟩; have hn2 := hk2.at (by simpa using hne) hn1; have hs2 := hk2.size; have hlt2 : w.heap.size < w2.heap.size := (by omega); have hlt3 : w.heap.size < w2.heap.size + 1 := (by omega); have hlt4 : w.heap.size < w2.heap.size + 1 + 1 := (by omega); have hne2 : w2.heap.size ≠ w.heap.size := (by omega); have hne3 : w2.heap.size + 1 ≠ w.heap.size := (by omega); have hne4 : w2.heap.size + 1 + 1 ≠ w.heap.size := (by omega); obtain ⟨c20, c21, c22, f20, f21, f22⟩ := cells3 hn2))
    · skip
      have hst := stored3 hn2 (.int .i64 pl) (.slice (some ⟨w2.heap.size + 1 + 1, 0, none⟩) 2 2) (.iface 146 (.agg #[]))
      have hszs : (((w2.setCell ⟨w.heap.size, 0, none⟩ (.int .i64 pl)).setCell ⟨w.heap.size, 1, none⟩ (.slice (some ⟨w2.heap.size + 1 + 1, 0, none⟩) 2 2)).setCell ⟨w.heap.size, 2, none⟩ (.iface 146 (.agg #[]))).heap.size = w2.heap.size := by simp [World.setCell]
      have hkS : Kept (· = rb) w (((w2.setCell ⟨w.heap.size, 0, none⟩ (.int .i64 pl)).setCell ⟨w.heap.size, 1, none⟩ (.slice (some ⟨w2.heap.size + 1 + 1, 0, none⟩) 2 2)).setCell ⟨w.heap.size, 2, none⟩ (.iface 146 (.agg #[]))) := kept_stored3 (hkA.trans hk2) (fun h => absurd h (Nat.lt_irrefl _)) _ _ _
      have hbS : ∀ k, k ≠ w.heap.size → (((w2.setCell ⟨w.heap.size, 0, none⟩ (.int .i64 pl)).setCell ⟨w.heap.size, 1, none⟩ (.slice (some ⟨w2.heap.size + 1 + 1, 0, none⟩) 2 2)).setCell ⟨w.heap.size, 2, none⟩ (.iface 146 (.agg #[]))).heap[k]? = w2.heap[k]? := fun k hk => by rw [Below.heap_setCell _ _ _ _ hk, Below.heap_setCell _ _ _ _ hk, Below.heap_setCell _ _ _ _ hk]
      generalize ((w2.setCell ⟨w.heap.size, 0, none⟩ (.int .i64 pl)).setCell ⟨w.heap.size, 1, none⟩ (.slice (some ⟨w2.heap.size + 1 + 1, 0, none⟩) 2 2)).setCell ⟨w.heap.size, 2, none⟩ (.iface 146 (.agg #[])) = ws at *
      have hw3 : Below ws.heap.size ws (((ws.alloc (.cells #[.int .i64 pp, .slice po pn pc, .iface ti xv] 62)).alloc (.cells #[.int .i64 pl, .slice none 0 0, .iface 115 (.string ⟨#[113, 117, 111, 116, 101]⟩)] 62)).alloc (.cells #[.int .i64 pl, .slice none 0 0, .iface 115 (.string ⟨#[113, 117, 111, 116, 101]⟩), .int .i64 pp, .slice po pn pc, .iface ti xv] 62)) := (((Below.refl _ ws).alloc (Nat.le_refl _) _).alloc (by simp) _).alloc (by simp; omega) _
      have hq3 : (((ws.alloc (.cells #[.int .i64 pp, .slice po pn pc, .iface ti xv] 62)).alloc (.cells #[.int .i64 pl, .slice none 0 0, .iface 115 (.string ⟨#[113, 117, 111, 116, 101]⟩)] 62)).alloc (.cells #[.int .i64 pl, .slice none 0 0, .iface 115 (.string ⟨#[113, 117, 111, 116, 101]⟩), .int .i64 pp, .slice po pn pc, .iface ti xv] 62)).heap[w2.heap.size + 1 + 1]? = some (.cells #[.int .i64 pl, .slice none 0 0, .iface 115 (.string ⟨#[113, 117, 111, 116, 101]⟩), .int .i64 pp, .slice po pn pc, .iface ti xv] 62 (0, 0)) := by
        have := at_new ((ws.alloc (.cells #[.int .i64 pp, .slice po pn pc, .iface ti xv] 62)).alloc (.cells #[.int .i64 pl, .slice none 0 0, .iface 115 (.string ⟨#[113, 117, 111, 116, 101]⟩)] 62)) (.cells #[.int .i64 pl, .slice none 0 0, .iface 115 (.string ⟨#[113, 117, 111, 116, 101]⟩), .int .i64 pp, .slice po pn pc, .iface ti xv] 62)
        simpa [hszs] using this
      generalize ((ws.alloc (.cells #[.int .i64 pp, .slice po pn pc, .iface ti xv] 62)).alloc (.cells #[.int .i64 pl, .slice none 0 0, .iface 115 (.string ⟨#[113, 117, 111, 116, 101]⟩)] 62)).alloc (.cells #[.int .i64 pl, .slice none 0 0, .iface 115 (.string ⟨#[113, 117, 111, 116, 101]⟩), .int .i64 pp, .slice po pn pc, .iface ti xv] 62) = w3 at *
      have hk3 : Kept (· = rb) w w3 := hkS.trans (Kept.of_below hw3 _)
      obtain ⟨d0, d1, d2, _, _, _⟩ := cells3 (Below.at hw3 hst)
      refine bodyPost_ret (v := .tuple #[.agg #[.int .i64 pl, .slice (some ⟨w2.heap.size + 1 + 1, 0, none⟩) 2 2, .iface 146 (.agg #[])], .bool true]) ?_ rfl ?_
      · simp [results, Tryz.results94, go_sem, d0, d1, d2]
      · rw [HRES.out]
        refine ⟨pl, some ⟨w2.heap.size + 1 + 1, 0, none⟩, 2, 2, 146, .agg #[], rfl, rep_quote hq3 (by omega) (hrep.mono fun k hk hge => ⟨by omega, (hw3.block k (by omega)).trans (hbS k (by omega))⟩), six_cells (by omega) (by omega) hq3 rfl rfl rfl rfl rfl rfl, ?_, hk3⟩
        obtain ⟨T2, h2⟩ := hr2
        have e : max (max d dep) m = max d (max dep m) := by omega
        rw [e] at h2
        exact ⟨T2, Below.at hw3 ((hbS rb (by omega)).trans h2)⟩
  | bad l' =>
    rw [hres] at HDK
    simp only at HDK
    have HRES : Hid (Rd.quoteR pl dep (Rd.tD f s.size dep (Rd.skip (Rd.behind l))) = .bad l') := by
      show _ = _
      rw [hres]
      rfl
    clear HDT HD hres
    go_wp2_with (first | (go_at_call 44; refine Calls.mono HDK ?_; rintro e w2 ⟨pp, po, pn, pc, x, d1', rfl, hraw, hx, hr2, hk2⟩; have hn2 := hk2.at (by simpa using hne) hn1; have hs2 := hk2.size; have hlt2 : w.heap.size < w2.heap.size := (by omega); have hlt3 : w.heap.size < w2.heap.size + 1 := (by omega); have hlt4 : w.heap.size < w2.heap.size + 1 + 1 := (by omega); have hne2 : w2.heap.size ≠ w.heap.size := (by omega); have hne3 : w2.heap.size + 1 ≠ w.heap.size := (by omega); have hne4 : w2.heap.size + 1 + 1 ≠ w.heap.size := (by omega); obtain ⟨c20, c21, c22, f20, f21, f22⟩ := cells3 hn2; rcases hx with rfl | ⟨t0, x0, rfl⟩))
    · skip
      have hst := stored3 hn2 (.int .i64 pl) (.slice (some ⟨w2.heap.size + 1 + 1, 0, none⟩) 2 2) (.iface 146 (.agg #[]))
      have hszs : (((w2.setCell ⟨w.heap.size, 0, none⟩ (.int .i64 pl)).setCell ⟨w.heap.size, 1, none⟩ (.slice (some ⟨w2.heap.size + 1 + 1, 0, none⟩) 2 2)).setCell ⟨w.heap.size, 2, none⟩ (.iface 146 (.agg #[]))).heap.size = w2.heap.size := by simp [World.setCell]
      have hkS : Kept (· = rb) w (((w2.setCell ⟨w.heap.size, 0, none⟩ (.int .i64 pl)).setCell ⟨w.heap.size, 1, none⟩ (.slice (some ⟨w2.heap.size + 1 + 1, 0, none⟩) 2 2)).setCell ⟨w.heap.size, 2, none⟩ (.iface 146 (.agg #[]))) := kept_stored3 (hkA.trans hk2) (fun h => absurd h (Nat.lt_irrefl _)) _ _ _
      have hbS : ∀ k, k ≠ w.heap.size → (((w2.setCell ⟨w.heap.size, 0, none⟩ (.int .i64 pl)).setCell ⟨w.heap.size, 1, none⟩ (.slice (some ⟨w2.heap.size + 1 + 1, 0, none⟩) 2 2)).setCell ⟨w.heap.size, 2, none⟩ (.iface 146 (.agg #[]))).heap[k]? = w2.heap[k]? := fun k hk => by rw [Below.heap_setCell _ _ _ _ hk, Below.heap_setCell _ _ _ _ hk, Below.heap_setCell _ _ _ _ hk]
      generalize ((w2.setCell ⟨w.heap.size, 0, none⟩ (.int .i64 pl)).setCell ⟨w.heap.size, 1, none⟩ (.slice (some ⟨w2.heap.size + 1 + 1, 0, none⟩) 2 2)).setCell ⟨w.heap.size, 2, none⟩ (.iface 146 (.agg #[])) = ws at *
      have hw3 : Below ws.heap.size ws (((ws.alloc (.cells #[.int .i64 pp, .slice po pn pc, .nilIface] 62)).alloc (.cells #[.int .i64 pl, .slice none 0 0, .iface 115 (.string ⟨#[113, 117, 111, 116, 101]⟩)] 62)).alloc (.cells #[.int .i64 pl, .slice none 0 0, .iface 115 (.string ⟨#[113, 117, 111, 116, 101]⟩), .int .i64 pp, .slice po pn pc, .nilIface] 62)) := (((Below.refl _ ws).alloc (Nat.le_refl _) _).alloc (by simp) _).alloc (by simp; omega) _
      have hq3 : (((ws.alloc (.cells #[.int .i64 pp, .slice po pn pc, .nilIface] 62)).alloc (.cells #[.int .i64 pl, .slice none 0 0, .iface 115 (.string ⟨#[113, 117, 111, 116, 101]⟩)] 62)).alloc (.cells #[.int .i64 pl, .slice none 0 0, .iface 115 (.string ⟨#[113, 117, 111, 116, 101]⟩), .int .i64 pp, .slice po pn pc, .nilIface] 62)).heap[w2.heap.size + 1 + 1]? = some (.cells #[.int .i64 pl, .slice none 0 0, .iface 115 (.string ⟨#[113, 117, 111, 116, 101]⟩), .int .i64 pp, .slice po pn pc, .nilIface] 62 (0, 0)) := by
        have := at_new ((ws.alloc (.cells #[.int .i64 pp, .slice po pn pc, .nilIface] 62)).alloc (.cells #[.int .i64 pl, .slice none 0 0, .iface 115 (.string ⟨#[113, 117, 111, 116, 101]⟩)] 62)) (.cells #[.int .i64 pl, .slice none 0 0, .iface 115 (.string ⟨#[113, 117, 111, 116, 101]⟩), .int .i64 pp, .slice po pn pc, .nilIface] 62)
        simpa [hszs] using this
      generalize ((ws.alloc (.cells #[.int .i64 pp, .slice po pn pc, .nilIface] 62)).alloc (.cells #[.int .i64 pl, .slice none 0 0, .iface 115 (.string ⟨#[113, 117, 111, 116, 101]⟩)] 62)).alloc (.cells #[.int .i64 pl, .slice none 0 0, .iface 115 (.string ⟨#[113, 117, 111, 116, 101]⟩), .int .i64 pp, .slice po pn pc, .nilIface] 62) = w3 at *
      have hk3 : Kept (· = rb) w w3 := hkS.trans (Kept.of_below hw3 _)
      obtain ⟨d0, d1, d2, _, _, _⟩ := cells3 (Below.at hw3 hst)
      refine bodyPost_ret (v := .tuple #[.agg #[.int .i64 pl, .slice (some ⟨w2.heap.size + 1 + 1, 0, none⟩) 2 2, .iface 146 (.agg #[])], .bool false]) ?_ rfl ?_
      · simp [results, Tryz.results94, go_sem, d0, d1, d2]
      · rw [HRES.out]
        refine ⟨pl, some ⟨w2.heap.size + 1 + 1, 0, none⟩, 2, 2, .iface 146 (.agg #[]), d1', rfl, six_cells (by omega) (by omega) hq3 rfl rfl rfl rfl rfl rfl, Or.inr ⟨_, _, rfl⟩, ?_, hk3⟩
        obtain ⟨T2, h2⟩ := hr2
        exact ⟨T2, Below.at hw3 ((hbS rb (by omega)).trans h2)⟩
    · skip
      have hst := stored3 hn2 (.int .i64 pl) (.slice (some ⟨w2.heap.size + 1 + 1, 0, none⟩) 2 2) (.iface 146 (.agg #[]))
      have hszs : (((w2.setCell ⟨w.heap.size, 0, none⟩ (.int .i64 pl)).setCell ⟨w.heap.size, 1, none⟩ (.slice (some ⟨w2.heap.size + 1 + 1, 0, none⟩) 2 2)).setCell ⟨w.heap.size, 2, none⟩ (.iface 146 (.agg #[]))).heap.size = w2.heap.size := by simp [World.setCell]
      have hkS : Kept (· = rb) w (((w2.setCell ⟨w.heap.size, 0, none⟩ (.int .i64 pl)).setCell ⟨w.heap.size, 1, none⟩ (.slice (some ⟨w2.heap.size + 1 + 1, 0, none⟩) 2 2)).setCell ⟨w.heap.size, 2, none⟩ (.iface 146 (.agg #[]))) := kept_stored3 (hkA.trans hk2) (fun h => absurd h (Nat.lt_irrefl _)) _ _ _
      have hbS : ∀ k, k ≠ w.heap.size → (((w2.setCell ⟨w.heap.size, 0, none⟩ (.int .i64 pl)).setCell ⟨w.heap.size, 1, none⟩ (.slice (some ⟨w2.heap.size + 1 + 1, 0, none⟩) 2 2)).setCell ⟨w.heap.size, 2, none⟩ (.iface 146 (.agg #[]))).heap[k]? = w2.heap[k]? := fun k hk => by rw [Below.heap_setCell _ _ _ _ hk, Below.heap_setCell _ _ _ _ hk, Below.heap_setCell _ _ _ _ hk]
      generalize ((w2.setCell ⟨w.heap.size, 0, none⟩ (.int .i64 pl)).setCell ⟨w.heap.size, 1, none⟩ (.slice (some ⟨w2.heap.size + 1 + 1, 0, none⟩) 2 2)).setCell ⟨w.heap.size, 2, none⟩ (.iface 146 (.agg #[])) = ws at *
      have hw3 : Below ws.heap.size ws (((ws.alloc (.cells #[.int .i64 pp, .slice po pn pc, .iface t0 x0] 62)).alloc (.cells #[.int .i64 pl, .slice none 0 0, .iface 115 (.string ⟨#[113, 117, 111, 116, 101]⟩)] 62)).alloc (.cells #[.int .i64 pl, .slice none 0 0, .iface 115 (.string ⟨#[113, 117, 111, 116, 101]⟩), .int .i64 pp, .slice po pn pc, .iface t0 x0] 62)) := (((Below.refl _ ws).alloc (Nat.le_refl _) _).alloc (by simp) _).alloc (by simp; omega) _
      have hq3 : (((ws.alloc (.cells #[.int .i64 pp, .slice po pn pc, .iface t0 x0] 62)).alloc (.cells #[.int .i64 pl, .slice none 0 0, .iface 115 (.string ⟨#[113, 117, 111, 116, 101]⟩)] 62)).alloc (.cells #[.int .i64 pl, .slice none 0 0, .iface 115 (.string ⟨#[113, 117, 111, 116, 101]⟩), .int .i64 pp, .slice po pn pc, .iface t0 x0] 62)).heap[w2.heap.size + 1 + 1]? = some (.cells #[.int .i64 pl, .slice none 0 0, .iface 115 (.string ⟨#[113, 117, 111, 116, 101]⟩), .int .i64 pp, .slice po pn pc, .iface t0 x0] 62 (0, 0)) := by
        have := at_new ((ws.alloc (.cells #[.int .i64 pp, .slice po pn pc, .iface t0 x0] 62)).alloc (.cells #[.int .i64 pl, .slice none 0 0, .iface 115 (.string ⟨#[113, 117, 111, 116, 101]⟩)] 62)) (.cells #[.int .i64 pl, .slice none 0 0, .iface 115 (.string ⟨#[113, 117, 111, 116, 101]⟩), .int .i64 pp, .slice po pn pc, .iface t0 x0] 62)
        simpa [hszs] using this
      generalize ((ws.alloc (.cells #[.int .i64 pp, .slice po pn pc, .iface t0 x0] 62)).alloc (.cells #[.int .i64 pl, .slice none 0 0, .iface 115 (.string ⟨#[113, 117, 111, 116, 101]⟩)] 62)).alloc (.cells #[.int .i64 pl, .slice none 0 0, .iface 115 (.string ⟨#[113, 117, 111, 116, 101]⟩), .int .i64 pp, .slice po pn pc, .iface t0 x0] 62) = w3 at *
      have hk3 : Kept (· = rb) w w3 := hkS.trans (Kept.of_below hw3 _)
      obtain ⟨d0, d1, d2, _, _, _⟩ := cells3 (Below.at hw3 hst)
      refine bodyPost_ret (v := .tuple #[.agg #[.int .i64 pl, .slice (some ⟨w2.heap.size + 1 + 1, 0, none⟩) 2 2, .iface 146 (.agg #[])], .bool false]) ?_ rfl ?_
      · simp [results, Tryz.results94, go_sem, d0, d1, d2]
      · rw [HRES.out]
        refine ⟨pl, some ⟨w2.heap.size + 1 + 1, 0, none⟩, 2, 2, .iface 146 (.agg #[]), d1', rfl, six_cells (by omega) (by omega) hq3 rfl rfl rfl rfl rfl rfl, Or.inr ⟨_, _, rfl⟩, ?_, hk3⟩
        obtain ⟨T2, h2⟩ := hr2
        exact ⟨T2, Below.at hw3 ((hbS rb (by omega)).trans h2)⟩
end Go.Proofs.YtodeeegbajgafaaGreatDoor
