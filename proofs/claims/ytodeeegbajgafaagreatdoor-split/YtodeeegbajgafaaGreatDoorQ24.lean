/- The reader reads a list, and one datum. The reader reads one datum, whatever its depth. Reading a source that is well formed. Sums, products, differences of numbers. Products; sums of two numbers as procedures. -/
import Derived.Test.YtodeeegbajgafaaGreatDoorQ18
import Derived.Test.YtodeeegbajgafaaGreatDoorQ05
import Derived.Test.YtodeeegbajgafaaGreatDoorQ01
import Derived.Deep.RegionHeld3
import Derived.Deep.LoopGhost
namespace Go.Proofs.YtodeeegbajgafaaGreatDoor
open Go.RowKit

theorem app_none (ty : TypeId) (b : Option Addr) (n cap : Nat) (w : World) (h : n ≤ cap) : (Builtin.append_ #[55, 55] ty #[.slice b n cap, .slice none 0 0]).run Tryz.prog w = .ok (.slice b n cap) w := by
  obtain ⟨i0, hi, _⟩ := info_parts Tryz.info62
  cases b with
  | none => simp [Builtin.append_, run_underlying Tryz.underlying55, sizeOf, typeInfo, hi, Builtin.lenOf, Builtin.firstCells, h]
  | some a => simp [Builtin.append_, run_underlying Tryz.underlying55, sizeOf, typeInfo, hi, Builtin.lenOf, Builtin.firstCells, h, storeCells]

/-- 'append(s, nothing...)' in a region that draws its order. -/
theorem step_append_none {P : Program} {ops : Array Oper} {o : Oper} {a : Act} {w : World} {K : Act → World → Prop} {Q : Exit → Act → World → Prop} {E : Prop}
    (hg : o.guard = none) (s x : Operand) (t : TypeId) (hop : o.op = Op.call { callee := Callee.builtin Builtin.append, args := #[s, x], argTypes := #[t, t] })
    (b : Option Addr) (n cap : Nat) (hs : a.eval s = .slice b n cap) (hx : a.eval x = .slice none 0 0)
    (hrun : (Builtin.append_ #[t, t] o.type #[.slice b n cap, .slice none 0 0]).run P w = .ok (.slice b n cap) w)
    (hK : K (a.put o.dst (.slice b n cap)) w) :
    if Region.wanted o (yielded ops a.tmps) = true then Oper.wp P o a w K Q else E := by
  have hw : Region.wanted o (yielded ops a.tmps) = true := by simp [Region.wanted, hg]
  rw [if_pos hw]
  unfold Oper.wp
  simp [execOp, hop, resolve, invoke, builtin, hs, hx, hrun, Result.andThen]
  exact hK

theorem RepS.shape {ok : Nat → Prop} {w : World} {sl : Value} {ds : List Rd.D} (h : RepS ok w sl ds) : ∃ b cap, sl = .slice b ds.length cap ∧ ds.length ≤ cap := by
  rcases h with ⟨rfl, rfl⟩ | ⟨g, o, cap, c, T, va, vb, vc, rfl, _, _, hn, _⟩
  · exact ⟨none, 0, rfl, Nat.le_refl _⟩
  · exact ⟨_, cap, rfl, hn⟩

theorem RdAt.deep {rb : Nat} {s : ByteArray} {l : List UInt8} {d : Int} {w : World} (h : RdAt rb s l d w) (d' : Int) : RdAt rb s l d' (w.setCell ⟨rb, 4, none⟩ (.int .i64 d')) := by
  obtain ⟨T, h⟩ := h
  exact ⟨T, by rw [at_setCell h 4 _]; simp [rdCells]⟩

theorem kept_set (w : World) (rb o : Nat) (v : Value) : Kept (· = rb) w (w.setCell ⟨rb, o, none⟩ v) := by
  have h := Kept.refl (fun k => k = rb) w
  exact h.setCell (p := ⟨rb, o, none⟩) (fun _ => rfl) v
theorem RdAt.alloc {rb : Nat} {s : ByteArray} {l : List UInt8} {d : Int} {w : World} (h : RdAt rb s l d w) (o : Obj) : RdAt rb s l d (w.alloc o) := by
  obtain ⟨T, h⟩ := h
  exact ⟨T, at_alloc h o⟩

set_option maxHeartbeats 1000000 in
set_option maxRecDepth 100000 in
theorem rdList_any (f : Nat) (HD : DataC f) (rb : Nat) (s : ByteArray) (l : List UInt8) (d dep : Nat) (w : World) (ds : List Rd.D) (l' : List UInt8) (m : Nat) (hs : s.size ≤ 500) (hl : l <:+ s.data.toList) (hr : RdAt rb s l d w)
    (hk : Rd.kindAt l = 1) (hrd : Rd.rdList f s.size dep (Rd.skip (Rd.behind l)) = some (ds, l', m)) (hk2 : Rd.kindAt l' = 2) (hdep : dep + f ≤ 4000) :
    Calls Tryz.prog 95 #[.pointer (some ⟨rb, 0, none⟩), .int .i64 dep] w fun e w' => ∃ sl, e = .returned (.tuple #[.agg #[.int .i64 (s.size - l.length : Nat), sl, .iface 146 (.agg #[])], .bool true]) ∧ RepS (fun k => w.heap.size ≤ k) w' sl ds ∧ RdAt rb s (Rd.skip (Rd.behind l')) (max d (max dep m) : Nat) w' ∧ Rd.skip (Rd.behind l') <:+ s.data.toList ∧ Kept (· = rb) w w' := by
  have hm : s.size ≤ maxLen := by unfold maxLen; omega
  obtain ⟨T, hr1⟩ := id hr
  have c2 : w.cell? ⟨rb, 2, none⟩ = some (.int .i64 (s.size - l.length : Nat)) := cell_of_at hr1 2
  have c4 : w.cell? ⟨rb, 4, none⟩ = some (.int .i64 d) := cell_of_at hr1 4
  have f4 := free_of_at hr1 4
  have hlt := lt_of_at hr1
  have hne : w.heap.size ≠ rb := by omega
  clear hr1
  have hl1 : Rd.skip (Rd.behind l) <:+ s.data.toList := (Rd.skip_suffix _).trans ((Rd.behind_suffix l).trans hl)
  generalize hpl : s.size - l.length = pl at *
  have HK := (show Hid _ from hk)
  have HK2 := (show Hid _ from hk2)
  have HR := (show Hid _ from hrd)
  clear hk hk2 hrd hpl
  have HMX : Hid ((max (d : Int) (dep : Int)) = ((max d dep : Nat) : Int)) := by unfold Hid; omega
  go_enter Tryz.func95, Tryz.ntmps95
  go_wp2_with fail
  rw [HMX.out]
  refine (pass_yes rb s l ((max d dep : Nat) : Int) 1 _ hm hl (RdAt.alloc (hr.deep _) _) HK.out).mono ?_
  rintro e w1 ⟨rfl, hr1, hk1⟩
  have hn1 : w1.heap[w.heap.size]? = some (.cells #[.int .i64 0, .slice none 0 0, .nilIface] 62 (0, 0)) := by
    have h := hk1.at (by simpa [World.setCell] using hne) (at_new (w.setCell ⟨rb, 4, none⟩ (.int .i64 ((max d dep : Nat) : Int))) _)
    simpa [World.setCell] using h
  have hsz1 : w.heap.size + 1 ≤ w1.heap.size := by have := hk1.size; simpa [World.setCell] using this
  have hkA : Kept (· = rb) w w1 := ((kept_set w rb 4 _).alloc _).trans hk1
  go_wp2_with fail
  refine (HD rb s _ (max d dep) dep _ ds l' m hs hl1 hr1 HR.out hdep).mono ?_
  rintro e w2 ⟨sl, rfl, hrep, hr2, hl2, hk2⟩
  obtain ⟨pb, pc, rfl, hpc⟩ := hrep.shape
  have hn2 := hk2.at (by simpa [World.setCell] using hne) hn1
  have hkB := hkA.trans hk2
  have hsz2 := hk2.size
  have hshort := Rd.rdList_short _ _ _ _ _ _ _ HR.out
  have hn3 := at_alloc hn2 (.cells #[.int .i64 0, .slice none 0 0, .iface 146 (.agg #[])] 62)
  have hr3 := hr2.alloc (.cells #[.int .i64 0, .slice none 0 0, .iface 146 (.agg #[])] 62)
  obtain ⟨c20, c21, c22, f20, f21, f22⟩ := cells3 hn3
  have ht3 := at_new w2 (.cells #[.int .i64 0, .slice none 0 0, .iface 146 (.agg #[])] 62)
  obtain ⟨t20, t21, t22, _, _, _⟩ := cells3 ht3
  have hne2 : w2.heap.size ≠ rb := by omega
  have hne3 : w2.heap.size ≠ w.heap.size := by omega
  have hkC := hkB.alloc (.cells #[.int .i64 0, .slice none 0 0, .iface 146 (.agg #[])] 62)
  have hrepC := hrep.mono (ok' := fun k => w.heap.size ≤ k ∧ k ≠ w.heap.size) (w' := w2.alloc (.cells #[.int .i64 0, .slice none 0 0, .iface 146 (.agg #[])] 62)) (fun k hk hge => ⟨⟨by omega, by omega⟩, Below.heap_alloc _ _ _ hk⟩)
  rcases (Decidable.em ((0 : Int) < (ds.length : Int))) with t0 | t0 <;>
  (clear HD HR
   go_wp2_with (first | (go_at_call_of 32 (Value.int IntKind.i64 3); refine (pass_no rb s l' _ 3 _ hr3 (by rw [HK2.out]; decide)).mono ?_; rintro e w3 ⟨rfl, rfl⟩))
   clear hn1 hn2 hrep hr1 hr2 hkA hkB hk1 hk2 hsz1 hsz2 hr c2 c4 f4
   generalize hT : w2.heap.size = tb at *
   generalize hG : w2.alloc (.cells #[.int .i64 0, .slice none 0 0, .iface 146 (.agg #[])] 62) = W3 at *
   go_region_held3 (fun x => x.cell? ⟨tb, 1, none⟩ = some (.slice none 0 0) ∧ x.cell? ⟨tb, 2, none⟩ = some (.iface 146 (.agg #[]))) (first | go_keep | (constructor <;> (rw [cell_stored3_ne _ _ _ _ hne3]; assumption))) (first | (refine step_append_none rfl (.tmp 52) (.tmp 54) 55 rfl pb ds.length pc (by simp [Act.eval]) (by simp [Act.eval]) (app_none _ _ _ _ _ hpc) ?_) | (go_at_call 32; refine (pass_yes rb s l' _ 2 _ hm hl2 (hr3.kept ((Below.refl _ _).drew)) HK2.out).mono ?_; rintro e w4 ⟨rfl, hr4, hk4⟩; obtain ⟨e20, e21, e22, g20, g21, g22⟩ := cells3 (hk4.at (by simpa using hne) (at_drew hn3)); obtain ⟨t40, t41, t42, _, _, _⟩ := cells3 (hk4.at (by simpa using hne2) (at_drew ht3))))
   go_wp2
   have hkD : Kept (· = rb) w w4 := hkC.drew.trans hk4
   have hst := stored3 (hk4.at (by simpa using hne) (at_drew hn3)) (.int .i64 pl) (.slice pb ds.length pc) (.iface 146 (.agg #[]))
   obtain ⟨d0, d1, d2, _, _, _⟩ := cells3 hst
   refine bodyPost_ret (v := .tuple #[.agg #[.int .i64 pl, .slice pb ds.length pc, .iface 146 (.agg #[])], .bool true]) ?_ rfl ⟨_, rfl, ?_, ?_, ?_, kept_stored3 hkD (fun h => absurd h (Nat.lt_irrefl _)) _ _ _⟩
   · simp [results, Tryz.results95, go_sem, d0, d1, d2]
   · refine hrepC.mono ?_
     intro k hk ⟨h1, h2⟩
     refine ⟨h1, ?_⟩
     have e1 : ∀ a b c, (((w4.setCell ⟨w.heap.size, 0, none⟩ a).setCell ⟨w.heap.size, 1, none⟩ b).setCell ⟨w.heap.size, 2, none⟩ c).heap[k]? = w4.heap[k]? := by
       intro a b c
       rw [Below.heap_setCell _ _ _ _ h2, Below.heap_setCell _ _ _ _ h2, Below.heap_setCell _ _ _ _ h2]
     rw [e1]
     exact hk4.block k hk (fun (e : k = rb) => by omega)
   · obtain ⟨T2, h2⟩ := hr4
     have e : max (max d dep) m = max d (max dep m) := by omega
     rw [e] at h2
     exact ⟨T2, at_stored3 h2 (by omega) _ _ _⟩
   · exact (Rd.skip_suffix _).trans ((Rd.behind_suffix l').trans hl2))
end Go.Proofs.YtodeeegbajgafaaGreatDoor

namespace Go.Proofs.YtodeeegbajgafaaGreatDoor
open Go.RowKit

set_option maxHeartbeats 1000000 in
theorem datum_step (f : Nat) (HD : DataC f) : DatumC (f + 1) := by
  intro rb s l d dep w dd l' m hs hl hr hrd hdep
  obtain ⟨T, hr1⟩ := id hr
  have c1 : w.cell? ⟨rb, 1, none⟩ = some (.int .i64 (Rd.kindAt l : Nat)) := cell_of_at hr1 1
  have hlt := lt_of_at hr1
  have hne : w.heap.size ≠ rb := by omega
  clear hr1
  have hl1 : Rd.skip (Rd.behind l) <:+ s.data.toList := (Rd.skip_suffix _).trans ((Rd.behind_suffix l).trans hl)
  by_cases h5 : Rd.kindAt l = 5
  · obtain ⟨a, ha, he⟩ := Rd.rdDatum_word hrd h5
    simp only [Prod.mk.injEq] at he
    obtain ⟨rfl, rfl, rfl⟩ := he
    obtain ⟨ti, xv, hav⟩ := aV_iface a
    rw [h5] at c1
    have HC : Hid (∀ W, RdAt rb s l d W → Calls Tryz.prog 93 #[.pointer (some ⟨rb, 0, none⟩)] W fun e w' => e = .returned (.tuple #[.agg #[.int .i64 (s.size - l.length : Nat), .slice none 0 0, .iface ti xv], .bool true]) ∧ RdAt rb s (Rd.skip (Rd.behind l)) d w' ∧ Kept (· = rb) W w') := by
      intro W hW; rw [← hav]; exact rdAtom_any rb s l d a W hs hl hW h5 ha
    have hrep : ∀ W, RepD (fun k => w.heap.size ≤ k) W (.agg #[.int .i64 (s.size - l.length : Nat), .slice none 0 0, .iface ti xv]) (.mk (s.size - l.length) [] a) := fun W => by rw [← hav]; exact .leaf _ _
    have HREP := (show Hid _ from hrep)
    clear hrep h5 hrd ha hav
    generalize s.size - l.length = pl at *
    go_enter Tryz.func44, Tryz.ntmps44
    go_wp2_with (go_at_call 93; refine (HC.out _ (hr.alloc _)).mono ?_; rintro e w1 ⟨rfl, hr2, hk1⟩; obtain ⟨c20, c21, c22, f20, f21, f22⟩ := cells3 (hk1.at (by simpa using hne) (at_new w _)))
    have hst := stored3 (hk1.at (by simpa using hne) (at_new w _)) (.int .i64 pl) (.slice none 0 0) (.iface ti xv)
    obtain ⟨d0, d1, d2, _, _, _⟩ := cells3 hst
    refine bodyPost_ret (v := .tuple #[.agg #[.int .i64 pl, .slice none 0 0, .iface ti xv], .bool true]) ?_ rfl ⟨pl, none, 0, 0, ti, xv, rfl, HREP.out _, ?_, hl1, kept_stored3 (((Kept.refl _ w).alloc _).trans hk1) (fun h => absurd h (Nat.lt_irrefl _)) _ _ _⟩
    · simp [results, Tryz.results44, go_sem, d0, d1, d2]
    · obtain ⟨T2, h2⟩ := hr2
      rw [Nat.max_zero]
      exact ⟨T2, at_stored3 h2 (by omega) _ _ _⟩
  · obtain ⟨h1, ds, lm, mm, hrl, hk2, he⟩ := Rd.rdDatum_list hrd h5
    simp only [Prod.mk.injEq] at he
    obtain ⟨rfl, rfl, rfl⟩ := he
    rw [h1] at c1
    have HC := (show Hid _ from fun W (hW : RdAt rb s l d W) => rdList_any f HD rb s l d (dep + 1) W ds lm mm hs hl hW h1 hrl hk2 (by omega))
    have hb1 : (dep : Int) + 1 ≤ 4000 := by omega
    clear h5 hrd hrl h1 hk2 HD
    generalize s.size - l.length = pl at *
    go_enter Tryz.func44, Tryz.ntmps44
    go_wp2_with (go_at_call 95; refine (HC.out _ (hr.alloc _)).mono ?_; rintro e w1 ⟨sl, rfl, hrep, hr2, hl2, hk1⟩; obtain ⟨pb, pc, rfl, hpc⟩ := hrep.shape; obtain ⟨c20, c21, c22, f20, f21, f22⟩ := cells3 (hk1.at (by simpa using hne) (at_new w _)))
    have hst := stored3 (hk1.at (by simpa using hne) (at_new w _)) (.int .i64 pl) (.slice pb ds.length pc) (.iface 146 (.agg #[]))
    obtain ⟨d0, d1, d2, _, _, _⟩ := cells3 hst
    refine bodyPost_ret (v := .tuple #[.agg #[.int .i64 pl, .slice pb ds.length pc, .iface 146 (.agg #[])], .bool true]) ?_ rfl ⟨pl, pb, ds.length, pc, 146, .agg #[], rfl, ?_, ?_, hl2, kept_stored3 (((Kept.refl _ w).alloc _).trans hk1) (fun h => absurd h (Nat.lt_irrefl _)) _ _ _⟩
    · simp [results, Tryz.results44, go_sem, d0, d1, d2]
    · refine RepS.datum (en := .empty) ?_ pl
      refine hrep.mono ?_
      intro k hk hge
      have hge : w.heap.size + 1 ≤ k := by simpa using hge
      have hk0 : k ≠ w.heap.size := by omega
      refine ⟨by omega, ?_⟩
      rw [Below.heap_setCell _ _ _ _ hk0, Below.heap_setCell _ _ _ _ hk0, Below.heap_setCell _ _ _ _ hk0]
    · obtain ⟨T2, h2⟩ := hr2
      exact ⟨T2, at_stored3 h2 (by omega) _ _ _⟩

theorem datum_all : ∀ f, DatumC f := by
  intro f
  induction f using Nat.strongRecOn with
  | _ f ih =>
    cases f with
    | zero =>
      intro rb s l d dep w dd l' m hs hl hr hrd
      rw [Rd.rdDatum] at hrd; cases hrd
    | succ f => exact datum_step f (dataAhead_any f fun g hg => ih g (by omega))

theorem data_all (f : Nat) : DataC f := dataAhead_any f fun g _ => datum_all g
end Go.Proofs.YtodeeegbajgafaaGreatDoor

namespace Go.Proofs.YtodeeegbajgafaaGreatDoor
open Go.RowKit

/-- The source reads as these data. -/
def Reads (s : ByteArray) (ds : List Rd.D) : Prop := s.size ≤ 500 ∧ ∃ f l' m, f ≤ 4000 ∧ Rd.rdList f s.size 0 (Rd.skip s.data.toList) = some (ds, l', m) ∧ Rd.kindAt l' = 0 ∧ m ≤ 20

set_option maxHeartbeats 1000000 in
theorem read_any (s : ByteArray) (ds : List Rd.D) (w : World) (h : Reads s ds) :
    Calls Tryz.prog 24 #[.string s] w fun e w' => ∃ sl, e = .returned (.tuple #[sl, .int .i64 0, .int .i64 0]) ∧ RepS (fun k => w.heap.size ≤ k) w' sl ds ∧ Below w.heap.size w w' := by
  obtain ⟨hs, f, l', m, hf, hrd, hk, hm20⟩ := h
  have hm : s.size ≤ maxLen := by unfold maxLen; omega
  have hl0 : Rd.skip s.data.toList <:+ s.data.toList := Rd.skip_suffix _
  have HC : Hid (∀ W, Calls Tryz.prog 30 #[.string s, .int .i64 0] W fun e w' => e = .returned (tokV s.size (Rd.skip s.data.toList)) ∧ Below W.heap.size W w') := by
    intro W
    have := nextToken_any s 0 W (Nat.zero_le _) hm
    simpa using this
  have HR := (show Hid _ from hrd)
  have HK := (show Hid _ from hk)
  have hsz : ¬ (500 : Int) < (s.size : Int) := by omega
  clear hrd hk
  generalize hL : Rd.skip s.data.toList = L at *
  clear hL
  go_enter Tryz.func24, Tryz.ntmps24
  go_wp2_with (go_at_call 30; refine (HC.out _).mono ?_; rintro e w1 ⟨rfl, hb⟩; simp only [tokV])
  have hr2 : RdAt w1.heap.size s L (0 : Nat) (w1.alloc (.cells #[.string s, .int .i64 (Rd.kindAt L : Nat), .int .i64 (s.size - L.length : Nat), .string ⟨(Rd.textOf L).toArray⟩, .int .i64 0] 81)) := ⟨81, at_new _ _⟩
  refine (data_all f w1.heap.size s L 0 0 _ ds l' m hs hl0 hr2 HR.out (by omega)).mono ?_
  rintro e w2 ⟨sl, rfl, hrep, hr3, hl3, hk2⟩
  have hd : ((max 0 m : Nat) : Int) ≤ 20 := by omega
  have hsz1 := hb.size
  have hsz2 := hk2.size
  generalize hRB : w1.heap.size = rb at *
  have HM : Hid (rb = w1.heap.size) := hRB.symm
  clear hRB
  go_wp2_with (go_at_call 32; refine (pass_yes rb s l' _ 0 _ hm hl3 hr3 HK.out).mono ?_; rintro e w3 ⟨rfl, hr4, hk3⟩; obtain ⟨T4, hr5⟩ := hr4; have c4 := cell_of_at hr5 4; simp only [rdCells, List.getElem?_toArray, List.getElem?_cons_zero, List.getElem?_cons_succ] at c4)
  go_ret3
  have hrb : w.heap.size ≤ rb := hsz1
  have hMe := HM.out
  have hsz3 : w.heap.size ≤ w1.heap.size := by omega
  refine ⟨sl, rfl, ?_, ?_⟩
  · refine hrep.mono ?_
    intro k hk hge
    have hge : w1.heap.size + 1 ≤ k := by simpa using hge
    have e := HM.out
    exact ⟨by omega, hk3.block k hk (fun (e' : k = rb) => by omega)⟩
  · have h1 : Below w.heap.size w (w1.alloc (.cells #[.string s, .int .i64 (Rd.kindAt L : Nat), .int .i64 (s.size - L.length : Nat), .string ⟨(Rd.textOf L).toArray⟩, .int .i64 0] 81)) := hb.alloc hsz3 _
    have h2 := (hk2.trans hk3).below (B := w.heap.size) (by simp; omega) (fun k (e : k = rb) => by omega)
    exact h1.trans h2
end Go.Proofs.YtodeeegbajgafaaGreatDoor

namespace Go.Proofs.YtodeeegbajgafaaGreatDoor
open Go.RowKit

set_option maxHeartbeats 1000000 in
theorem plus_any (a b : Int) (w : World) (h0 : -9223372036854775808 ≤ a + b) (h1 : a + b ≤ 9223372036854775807) :
    Calls Tryz.prog 117 #[.int .i64 a, .int .i64 b] w fun e w' => e = .returned (.tuple #[.int .i64 (a + b), .bool true]) ∧ w' = w := by
  by_cases hb : 0 ≤ b
  · have hc : a ≤ a + b := by omega
    go_enter Tryz.func117, Tryz.ntmps117
    go_wp2
    go_ret2
    exact ⟨rfl, rfl⟩
  · have hc : ¬ a ≤ a + b := by omega
    go_enter Tryz.func117, Tryz.ntmps117
    go_wp2
    go_ret2
    exact ⟨rfl, rfl⟩
set_option maxHeartbeats 1000000 in
theorem minus_any (a b : Int) (w : World) (h0 : -9223372036854775808 ≤ a - b) (h1 : a - b ≤ 9223372036854775807) :
    Calls Tryz.prog 119 #[.int .i64 a, .int .i64 b] w fun e w' => e = .returned (.tuple #[.int .i64 (a - b), .bool true]) ∧ w' = w := by
  by_cases hb : 0 ≤ b
  · have hc : a - b ≤ a := by omega
    go_enter Tryz.func119, Tryz.ntmps119
    go_wp2
    go_ret2
    exact ⟨rfl, rfl⟩
  · have hc : ¬ a - b ≤ a := by omega
    go_enter Tryz.func119, Tryz.ntmps119
    go_wp2
    go_ret2
    exact ⟨rfl, rfl⟩
set_option maxHeartbeats 1000000 in
theorem less1_any (a b : Int) (w : World) : Calls Tryz.prog 124 #[.int .i64 a, .int .i64 b] w fun e w' => e = .returned (.bool (decide (a < b))) ∧ w' = w := by
  go_enter Tryz.func124, Tryz.ntmps124
  go_wp2
  go_ret
  exact ⟨rfl, rfl⟩

/-- Numbers in a row. -/
def NumsAt (w : World) (x : Value) (ns : List Int) : Prop := ∃ g o cap, x = .slice (some ⟨g, o, none⟩) ns.length cap ∧ ns.length ≤ cap ∧ cap ≤ 1000000 ∧ ∀ i (hi : i < ns.length), w.cell? ⟨g, o + i, none⟩ = some (.int .i64 ns[i])
/-- A function that joins two numbers. -/
def Joins (jn : Nat) (f : Int → Int → Int) (A : Int → Prop) : Prop := ∀ (a b : Int) (w : World), A a → -9223372036854775808 ≤ f a b → f a b ≤ 9223372036854775807 → Calls Tryz.prog jn #[.int .i64 a, .int .i64 b] w fun e w' => e = .returned (.tuple #[.int .i64 (f a b), .bool true]) ∧ w' = w
theorem fold_more {f : Int → Int → Int} {a n r : Int} {ns : List Int} (h : Mc.fold f a (n :: ns) = some r) : -9223372036854775808 ≤ f a n ∧ f a n ≤ 9223372036854775807 ∧ Mc.fold f (f a n) ns = some r := by
  rw [Mc.fold] at h
  split at h
  · rename_i hr
    simp only [Mc.inRange, Bool.and_eq_true, decide_eq_true_eq] at hr
    exact ⟨hr.1, hr.2, h⟩
  · cases h
def Folding (f : Int → Int → Int) (A : Int → Prop) (ns : List Int) (r : Int) (w : World) (k : Nat) (p q : Value) (wr : World) : Prop := ∃ i a, i + k = ns.length ∧ A a ∧ q = .int .i64 (i : Nat) ∧ p = .int .i64 a ∧ Mc.fold f a (ns.drop i) = some r ∧ wr = w

set_option maxHeartbeats 4000000 in
theorem fromLeft_any (jn : Nat) (f : Int → Int → Int) (A : Int → Prop) (HJ : Joins jn f A) (hA : ∀ y, -9223372036854775808 ≤ y → y ≤ 9223372036854775807 → A y) (a r : Int) (ha : A a) (ns : List Int) (x : Value) (w : World) (hx : NumsAt w x ns) (hr : Mc.fold f a ns = some r) (hjn : jn = 117 ∨ jn = 118 ∨ jn = 119) :
    Calls Tryz.prog 116 #[.func (.func jn) #[] #[], .int .i64 a, x] w fun e w' => e = .returned (.tuple #[.iface 147 (.int .i64 r), .int .i64 0]) ∧ w' = w := by
  obtain ⟨g, o, cap, rfl, hn, hcap, hc⟩ := hx
  have HC := (show Hid _ from hc)
  have HR : Hid (Mc.fold f a (ns.drop 0) = some r) := hr
  have HJ' := (show Hid _ from HJ)
  have HA : Hid (A a) := ha
  have HAY := (show Hid _ from hA)
  clear hc hr HJ ha hA
  go_enter Tryz.func116, Tryz.ntmps116
  go_wp2
  go_loopg [1, 14] ns.length (fun k p q wr => Folding f A ns r w k p q wr)
  case atStart => exact ⟨0, a, by omega, HA.out, rfl, rfl, HR.out, rfl⟩
  case round =>
    obtain ⟨i, b, hi, hab, rfl, rfl, hf, rfl⟩ := hrel
    cases gk with
    | zero =>
      obtain rfl : i = ns.length := by omega
      rw [List.drop_length] at hf
      cases hf
      clear hi hab
      go_wp2
      go_ret2
      exact ⟨rfl, rfl⟩
    | succ k =>
      have hlt : i < ns.length := by omega
      rw [List.drop_eq_getElem_cons hlt] at hf
      obtain ⟨b0, b1, hf'⟩ := fold_more hf
      have c := HC.out i hlt
      have i1 : (i : Int) < (ns.length : Int) := by omega
      have i2 : -9223372036854775808 ≤ (i : Int) + 1 := by omega
      have i3 : (i : Int) + 1 ≤ 9223372036854775807 := by omega
      have HJC : Hid (Calls Tryz.prog jn #[.int .i64 b, .int .i64 ns[i]] wr fun e w' => e = .returned (.tuple #[.int .i64 (f b ns[i]), .bool true]) ∧ w' = wr) := HJ'.out b ns[i] wr hab b0 b1
      have HR' : Hid (Folding f A ns r wr k (.int .i64 (f b ns[i])) (.int .i64 ((i + 1 : Nat) : Int)) wr) := ⟨i + 1, _, by omega, HAY.out _ b0 b1, rfl, rfl, hf', rfl⟩
      clear hf hf' HC HJ' HR b0 b1 hab HA HAY
      generalize ns[i] = m at *
      generalize f b m = y at *
      rcases hjn with rfl | rfl | rfl
      · go_wp2_with (first | (go_at_call 117; refine HJC.out.mono ?_; rintro e2 w2 ⟨rfl, rfl⟩))
        go_roundg k
        case measure => omega
        case rel => exact HR'.out
      · go_wp2_with (first | (go_at_call 118; refine HJC.out.mono ?_; rintro e2 w2 ⟨rfl, rfl⟩))
        go_roundg k
        case measure => omega
        case rel => exact HR'.out
      · go_wp2_with (first | (go_at_call 119; refine HJC.out.mono ?_; rintro e2 w2 ⟨rfl, rfl⟩))
        go_roundg k
        case measure => omega
        case rel => exact HR'.out
end Go.Proofs.YtodeeegbajgafaaGreatDoor

namespace Go.Proofs.YtodeeegbajgafaaGreatDoor
open Go.RowKit

set_option maxHeartbeats 1000000 in
theorem wraps_any (a b : Int) (w : World) (h : ¬ (a = -9223372036854775808 ∧ b = -1)) : Calls Tryz.prog 152 #[.int .i64 a, .int .i64 b] w fun e w' => e = .returned (.bool false) ∧ w' = w := by
  by_cases ha : a = -9223372036854775808
  · subst ha
    have hb : ¬ b = -1 := fun e => h ⟨rfl, e⟩
    have hb2 : (b == -1) = false := by simpa using hb
    go_enter Tryz.func152, Tryz.ntmps152
    go_wp2
    go_ret
    exact ⟨rfl, rfl⟩
  · clear h
    go_enter Tryz.func152, Tryz.ntmps152
    go_wp2
    go_ret
    exact ⟨rfl, rfl⟩
set_option maxHeartbeats 1000000 in
theorem times_any : Joins 118 (fun a b => a * b) (fun a => -9223372036854775808 ≤ a ∧ a ≤ 9223372036854775807) := by
  rintro a b w ⟨ha0, ha1⟩ h0 h1
  simp only at h0 h1
  by_cases hb : b = 0
  · subst hb
    simp only [Int.mul_zero]
    go_enter Tryz.func118, Tryz.ntmps118
    go_wp2
    go_ret2
    exact ⟨rfl, rfl⟩
  · have hq : (a * b).tdiv b = a := Int.mul_tdiv_cancel a hb
    have HW := wraps_any a b w (by rintro ⟨rfl, rfl⟩; omega)
    have hwr : wrap64 (a * b) = a * b := by
      generalize a * b = c at *
      unfold wrap64
      omega
    go_enter Tryz.func118, Tryz.ntmps118
    go_wp2_with (first | (go_at_call 152; refine HW.mono ?_; rintro e2 w2 ⟨rfl, rfl⟩))
    go_ret2
    exact ⟨rfl, rfl⟩

theorem plus_joins : Joins 117 (fun a b => a + b) (fun _ => True) := fun a b w _ h0 h1 => plus_any a b w h0 h1
theorem minus_joins : Joins 119 (fun a b => a - b) (fun _ => True) := fun a b w _ h0 h1 => minus_any a b w h0 h1
/-- A function of numbers that comes to a value. -/
def NumFn (k : Nat) (w : World) (x v : Value) : Prop := Calls Tryz.prog k #[x] w fun e w' => e = .returned (.tuple #[v, .int .i64 0]) ∧ w' = w
set_option maxHeartbeats 1000000 in
theorem sum_any (r : Int) (ns : List Int) (x : Value) (w : World) (hx : NumsAt w x ns) (hr : Mc.fold (fun a b => a + b) 0 ns = some r) : NumFn 68 w x (.iface 147 (.int .i64 r)) := by
  have HF := fromLeft_any 117 _ _ plus_joins (fun _ _ _ => trivial) 0 r trivial ns x w hx hr (Or.inl rfl)
  obtain ⟨g, o, cap, rfl, hn, hcap, hc⟩ := hx
  clear hc hr
  unfold NumFn
  go_enter Tryz.func68, Tryz.ntmps68
  go_wp2_with (first | (go_at_call 116; refine HF.mono ?_; rintro e2 w2 ⟨rfl, rfl⟩))
  go_ret2
  exact ⟨rfl, rfl⟩
set_option maxHeartbeats 1000000 in
theorem product_any (r : Int) (ns : List Int) (x : Value) (w : World) (hx : NumsAt w x ns) (hr : Mc.fold (fun a b => a * b) 1 ns = some r) : NumFn 69 w x (.iface 147 (.int .i64 r)) := by
  have HF := fromLeft_any 118 _ _ times_any (fun _ h h' => ⟨h, h'⟩) 1 r (by omega) ns x w hx hr (Or.inr (Or.inl rfl))
  obtain ⟨g, o, cap, rfl, hn, hcap, hc⟩ := hx
  clear hc hr
  unfold NumFn
  go_enter Tryz.func69, Tryz.ntmps69
  go_wp2_with (first | (go_at_call 116; refine HF.mono ?_; rintro e2 w2 ⟨rfl, rfl⟩))
  go_ret2
  exact ⟨rfl, rfl⟩
set_option maxHeartbeats 2000000 in
theorem difference_any (a b r : Int) (x : Value) (w : World) (hx : NumsAt w x [a, b]) (hr : Mc.fold (fun a b => a - b) a [b] = some r) : ∀ w0, w0 = w → Calls Tryz.prog 70 #[x] w fun e w' => e = .returned (.tuple #[.iface 147 (.int .i64 r), .int .i64 0]) ∧ w' = w0.drew := by
  rintro w0 rfl
  obtain ⟨g, o, cap, rfl, hn, hcap, hc⟩ := hx
  simp only [List.length_cons, List.length_nil] at *
  have HF := fromLeft_any 119 _ _ minus_joins (fun _ _ _ => trivial) a r trivial [b] (.slice (some ⟨g, o + 1, none⟩) 1 (cap - 1)) w0.drew ⟨g, o + 1, cap - 1, rfl, by simp; omega, by omega, fun i hi => by
    have : i = 0 := by simpa using hi
    subst this
    exact hc 1 (by omega)⟩ hr (Or.inr (Or.inr rfl))
  have c0 := hc 0 (by omega)
  simp only [Nat.add_zero, List.getElem_cons_zero] at c0
  clear hc hr
  have j1 : ¬ cap = 0 := by omega
  have j2 : ¬ cap = 1 := by omega
  have j3 : (1 : Int) ≤ (cap : Int) := by omega
  have j4 : ¬ (cap : Int) < 1 := by omega
  go_enter Tryz.func70, Tryz.ntmps70
  go_wp2
  go_region_held3 (fun X => X.cell? ⟨g, o, none⟩ = some (.int .i64 a)) (go_keep) (first | (go_at_call 116; refine HF.mono ?_; rintro e2 w2 ⟨rfl, rfl⟩))
  all_goals
    go_wp2
    go_ret2
    exact ⟨rfl, rfl⟩
end Go.Proofs.YtodeeegbajgafaaGreatDoor
