/- Any datum as a form, or not. Written by gen_kform2.py. The form of any datum, by its rule. Written by gen_kform3.py. Functions of any numbers. Numbers held against one another, and divided. Numbers divided; functions whose arguments must be numbers. Functions whose arguments must be numbers. Procedures that are there, of any arguments. Written by gen_kbas.py. How any value is shown: atoms, procedures, pairs. Written by gen_kshow.py. How many parts a value has, and Show of any value. Forms are evaluated in turn, whatever they come to. Written by gen_kall.py. -/
import Derived.Test.YtodeeegbajgafaaGreatDoorQ44
import Derived.Test.YtodeeegbajgafaaGreatDoorQ34
import Derived.Test.YtodeeegbajgafaaGreatDoorQ24
import Derived.Test.YtodeeegbajgafaaGreatDoorQ23
import Derived.Test.YtodeeegbajgafaaGreatDoorQ08
import Derived.Test.YtodeeegbajgafaaGreatDoorQ26
import Derived.Test.YtodeeegbajgafaaGreatDoorQ19
import Derived.Test.YtodeeegbajgafaaGreatDoorQ35
import Derived.Test.YtodeeegbajgafaaGreatDoorQ29
import Derived.Test.YtodeeegbajgafaaGreatDoorQ39
import Derived.Lib.ItoaLen
namespace Go.Proofs.YtodeeegbajgafaaGreatDoor
open Go.RowKit
set_option maxHeartbeats 1000000 in
set_option maxRecDepth 10000 in
theorem patom_name_v (fv : Value) (pb sb kb : Nat) (env : List (List Rd.Sym)) (p : Int) (ad : Option Addr) (c : Nat) (n : Rd.Sym) (w : World) (hp : PAtV fv pb sb kb env w) (he : env.length ≤ 5000) (hk : Rd.keys.contains n = false) :
    Calls Tryz.prog 109 #[.pointer (some ⟨pb, 0, none⟩), .agg #[.int .i64 p, .slice ad 0 c, .iface 115 (symV n)]] w fun e w' => e = .returned (.iface 178 (nameV n (Rd.findName n env 0))) ∧ Below w.heap.size w w' := by
  have t1 := ta_hit115
  have t3 := fun v w => ta_miss147 115 v w (by decide)
  have t4 := fun v w => ta_miss150 115 v w (by decide)
  have hp2 := hp.kept ((Below.refl _ w).alloc (Nat.le_refl _) (.cells #[.int .i64 p, .slice ad 0 c, .iface 115 (symV n)] 62))
  simp only [symV] at hp2 ⊢
  obtain ⟨⟨T, h1⟩, _, hr, _⟩ := id hp2
  have c2 := cell_of_at h1 2
  simp only [List.getElem?_toArray, List.getElem?_cons_zero, List.getElem?_cons_succ] at c2
  have hlk := lookup_sym Tryz.underlying92 zero188 hr n
  rw [rules_none n hk] at hlk
  simp only [Option.map_none, Option.getD_none] at hlk
  have hq := eqf_nil
  clear h1 hr hk
  go_enter Tryz.func109, Tryz.ntmps109
  go_wp2_with (go_at_call 106; refine (find_v fv pb sb kb env n _ hp2 (by omega)).mono ?_; rintro e w1 ⟨rfl, hb⟩; simp only [nameV])
  go_ret
  exact ⟨by simp only [nameV]; rfl, ((Below.refl _ w).alloc (Nat.le_refl _) _).trans (hb.mono (by simp))⟩
set_option maxHeartbeats 1000000 in
set_option maxRecDepth 10000 in
theorem patom_no (pb sb kb : Nat) (env : List (List Rd.Sym)) (fl : Option Nat) (fv : Value) (n m : Nat) (p : Nat) (ad : Option Addr) (c : Nat) (en : Rd.A) (w : World) (hp : PAtK pb sb kb env fl fv n w) (hnz : n + m ≤ 4000) (hm : 1 ≤ m) (he : en = .empty ∨ ∃ s, en = .sym s ∧ Rd.keys.contains s = true) :
    Calls Tryz.prog 109 #[.pointer (some ⟨pb, 0, none⟩), .agg #[.int .i64 p, .slice ad 0 c, aV en]] w (RuleK pb sb kb env fl fv n m w (.no p)) := by
  rcases he with rfl | ⟨s, rfl, hk⟩
  · simp only [aV]
    have hB := box_below w (.cells #[.int .i64 p, .slice ad 0 c, .iface 146 (.agg #[])] 62)
    have HREF : Hid (Calls Tryz.prog 59 #[.pointer (some ⟨pb, 0, none⟩), .agg #[.int .i64 p, .slice ad 0 c, .iface 146 (.agg #[])]] (w.alloc (.cells #[.int .i64 p, .slice ad 0 c, .iface 146 (.agg #[])] 62)) fun e w' => e = .returned .nilIface ∧ RuleK pb sb kb env fl fv n m w (.no p) e w') := refuse_d pb sb kb env fl fv n m w p _ _ _ _ _ hp hnz hm _ hB
    have t2 := fun v w => ta_miss115 146 v w (by decide)
    have t3 := fun v w => ta_miss147 146 v w (by decide)
    have t4 := fun v w => ta_miss150 146 v w (by decide)
    clear hp
    go_enter Tryz.func109, Tryz.ntmps109
    go_wp2_with (first | (go_at_call 59; refine HREF.out.mono ?_; rintro e w1 ⟨rfl, hfin⟩; have HFIN := (show Hid _ from hfin); clear hfin))
    go_ret
    exact HFIN.out
  · simp only [aV]
    have hB := box_below w (.cells #[.int .i64 p, .slice ad 0 c, .iface 115 (.string ⟨s.toArray⟩)] 62)
    have HREF : Hid (Calls Tryz.prog 59 #[.pointer (some ⟨pb, 0, none⟩), .agg #[.int .i64 p, .slice ad 0 c, .iface 115 (.string ⟨s.toArray⟩)]] (w.alloc (.cells #[.int .i64 p, .slice ad 0 c, .iface 115 (.string ⟨s.toArray⟩)] 62)) fun e w' => e = .returned .nilIface ∧ RuleK pb sb kb env fl fv n m w (.no p) e w') := refuse_d pb sb kb env fl fv n m w p _ _ _ _ _ hp hnz hm _ hB
    have t1 := ta_hit115
    have t3 := fun v w => ta_miss147 115 v w (by decide)
    have t4 := fun v w => ta_miss150 115 v w (by decide)
    obtain ⟨c2, hlk⟩ := form_factsV (hp.kept hB).par s
    obtain ⟨k, hkk⟩ := rules_some s hk
    rw [hkk] at hlk
    have hq := eqf_func k
    clear hp hkk hk
    go_enter Tryz.func109, Tryz.ntmps109
    go_wp2_with (first | (go_at_call 59; refine HREF.out.mono ?_; rintro e w1 ⟨rfl, hfin⟩; have HFIN := (show Hid _ from hfin); clear hfin))
    go_ret
    exact HFIN.out
theorem flOr_ok {α : Type} (fl : Option Nat) (x : α) : flOr fl (Rd.PR.ok x) = fl := by cases fl <;> rfl
theorem RuleK.plain {pb sb kb : Nat} {env : List (List Rd.Sym)} {fl : Option Nat} {fv : Value} {n m : Nat} {w w' : World} {x : Rd.F} {t : TypeId} {v : Value} (hp : PAtK pb sb kb env fl fv n w) (hb : Below w.heap.size w w') (hr : RepF (NewOk w fv) w' (.iface t v) x) : RuleK pb sb kb env fl fv n m w (.ok x) (.returned (.iface t v)) w' :=
  ⟨_, fv, n, rfl, ⟨_, _, rfl⟩, fun y hy => (by cases hy; exact hr), by rw [flOr_ok]; exact hp.kept hb, by omega, Kept.of_below hb _, NewF.refl _ _⟩
/-- What kForm says of a leaf. -/
def leafK (env : List (List Rd.Sym)) (p : Nat) : Rd.A → Rd.PR Rd.F
  | .num i => .ok (.const (.num i))
  | .truth b => .ok (.const (.truth b))
  | .sym s => if Rd.keys.contains s then .no p else .ok (.name s (Rd.findName s env 0))
  | .empty => .no p
theorem atom_k (pb sb kb : Nat) (env : List (List Rd.Sym)) (fl : Option Nat) (fv : Value) (n m : Nat) (p : Nat) (ad : Option Addr) (c : Nat) (en : Rd.A) (w : World) (hp : PAtK pb sb kb env fl fv n w) (hnz : n + m ≤ 4000) (hm : 1 ≤ m) (he : env.length ≤ 5000) :
    Calls Tryz.prog 109 #[.pointer (some ⟨pb, 0, none⟩), .agg #[.int .i64 p, .slice ad 0 c, aV en]] w (RuleK pb sb kb env fl fv n m w (leafK env p en)) := by
  cases en with
  | num i =>
    refine (patom_const pb p ad 0 c (.num i) w (Or.inl ⟨i, rfl⟩)).mono ?_
    rintro e w' ⟨rfl, hb⟩
    exact RuleK.plain hp hb (.const (.num i))
  | truth b =>
    refine (patom_const pb p ad 0 c (.truth b) w (Or.inr ⟨b, rfl⟩)).mono ?_
    rintro e w' ⟨rfl, hb⟩
    exact RuleK.plain hp hb (.const (.truth b))
  | sym s =>
    by_cases hk : Rd.keys.contains s = true
    · have : leafK env p (.sym s) = .no p := if_pos hk
      rw [this]
      exact patom_no pb sb kb env fl fv n m p ad c (.sym s) w hp hnz hm (.inr ⟨s, rfl, hk⟩)
    · have : leafK env p (.sym s) = .ok (.name s (Rd.findName s env 0)) := if_neg hk
      rw [this]
      refine (patom_name_v fv pb sb kb env p ad c s w hp.par he (by simpa using hk)).mono ?_
      rintro e w' ⟨rfl, hb⟩
      exact RuleK.plain hp hb (.name s _)
  | empty => exact patom_no pb sb kb env fl fv n m p ad c .empty w hp hnz hm (.inl rfl)
set_option maxHeartbeats 2000000 in
set_option maxRecDepth 10000 in
theorem formLeaf_k (pb sb kb : Nat) (env : List (List Rd.Sym)) (fl : Option Nat) (fv : Value) (n m : Nat) (p : Nat) (ad : Option Addr) (c : Nat) (en : Rd.A) (w : World) (hp : PAtK pb sb kb env fl fv n w) (hnz : n + m ≤ 4000) (hm : 1 ≤ m) (he : env.length ≤ 5000) :
    Calls Tryz.prog 63 #[.pointer (some ⟨pb, 0, none⟩), .agg #[.int .i64 p, .slice ad 0 c, aV en]] w (RuleK pb sb kb env fl fv n m w (leafK env p en)) := by
  obtain ⟨ti, xv, hav⟩ : ∃ t x, aV en = .iface t x := by cases en <;> exact ⟨_, _, rfl⟩
  have hB := box_below w (.cells #[.int .i64 p, .slice ad 0 c, .iface ti xv] 62)
  have HA : Hid (Calls Tryz.prog 109 #[.pointer (some ⟨pb, 0, none⟩), .agg #[.int .i64 p, .slice ad 0 c, .iface ti xv]] (w.alloc (.cells #[.int .i64 p, .slice ad 0 c, .iface ti xv] 62)) (RuleK pb sb kb env fl fv n m (w.alloc (.cells #[.int .i64 p, .slice ad 0 c, .iface ti xv] 62)) (leafK env p en))) := by
    have := atom_k pb sb kb env fl fv n m p ad c en _ (hp.kept hB) hnz hm he
    rw [hav] at this
    exact this
  rw [hav]
  generalize leafK env p en = R at *
  clear hp hav
  go_enter Tryz.func63, Tryz.ntmps63
  go_wp2_with (go_at_call 109; refine HA.out.mono ?_; rintro e w1 hfin; obtain ⟨v, hv⟩ : ∃ v, e = .returned v := (by obtain ⟨v, _, _, h, _⟩ := hfin; exact ⟨v, h⟩); subst hv; have HFIN := (show Hid _ from hfin); clear hfin)
  go_ret
  exact RuleK.from hB HFIN.out
set_option maxHeartbeats 2000000 in
set_option maxRecDepth 10000 in
theorem formNot_k (pb sb kb : Nat) (env : List (List Rd.Sym)) (fl : Option Nat) (fv : Value) (n m : Nat) (w : World) (p : Nat) (sa : Option Addr) (L cap : Nat) (en : Rd.A) (hp : PAtK pb sb kb env fl fv n w) (hl : 0 < L) (hnz : n + m ≤ 4000) (hm : 1 ≤ m) (hen : en ≠ .empty) :
    Calls Tryz.prog 63 #[.pointer (some ⟨pb, 0, none⟩), .agg #[.int .i64 p, .slice sa L cap, aV en]] w (RuleK pb sb kb env fl fv n m w (.no p)) := by
  obtain ⟨ti, xv, hav⟩ : ∃ t x, aV en = .iface t x := by cases en <;> exact ⟨_, _, rfl⟩
  have hie : en.isEmpty = false := by cases en <;> first | rfl | exact absurd rfl hen
  have HI : Hid (∀ W, Calls Tryz.prog 60 #[.agg #[.int .i64 p, .slice sa L cap, .iface ti xv]] W fun e w' => e = .returned (.bool false) ∧ Below W.heap.size W w') := fun W => by
    have := isList_any p sa L cap en W
    rw [hie, hav] at this
    exact this
  have hB := box_below w (.cells #[.int .i64 p, .slice sa L cap, .iface ti xv] 62)
  have HREF : Hid (∀ W, Below (w.alloc (.cells #[.int .i64 p, .slice sa L cap, .iface ti xv] 62)).heap.size (w.alloc (.cells #[.int .i64 p, .slice sa L cap, .iface ti xv] 62)) W → Calls Tryz.prog 59 #[.pointer (some ⟨pb, 0, none⟩), .agg #[.int .i64 p, .slice sa L cap, .iface ti xv]] W fun e w' => e = .returned .nilIface ∧ RuleK pb sb kb env fl fv n m w (.no p) e w') := fun W hW => refuse_d pb sb kb env fl fv n m w p _ _ _ _ _ hp hnz hm W (hB.trans (hW.mono (by simp)))
  have hL0 : ¬ (L : Int) = 0 := by omega
  rw [hav]
  clear hp hav hie hen
  go_enter Tryz.func63, Tryz.ntmps63
  go_wp2_with (first | (go_at_call 60; refine (HI.out _).mono ?_; rintro e w1 ⟨rfl, hb1⟩; have hsz1 : w.heap.size < w1.heap.size := (by have := hb1.size; simp at this; omega); obtain ⟨q0, q1, q2, _, _, _⟩ := cells3 (Below.at hb1 (at_new w _))) | (go_at_call 59; refine (HREF.out _ hb1).mono ?_; rintro e w2 ⟨rfl, hfin⟩; have HFIN := (show Hid _ from hfin); clear hfin))
  go_ret
  exact HFIN.out
set_option maxHeartbeats 2000000 in
set_option maxRecDepth 10000 in
theorem formCall_k (f : Nat) (HF : FormsCK f) (pb sb kb : Nat) (env : List (List Rd.Sym)) (fl : Option Nat) (fv : Value) (n m : Nat) (w : World) (p : Nat) (g o cap : Nat) (d0 : Rd.D) (rest : List Rd.D) (hp : PAtK pb sb kb env fl fv n w) (hf2 : 2 * Rd.kzL (d0 :: rest) + 1 ≤ f) (hf : env.length + f ≤ 5000) (hnz : n + m ≤ 4000) (hm : Rd.kzL (d0 :: rest) ≤ m) (hs : RepS (fun k => ¬ PMK pb sb fv k) w (.slice (some ⟨g, o, none⟩) (rest.length + 1) cap) (d0 :: rest))
    (hk : ∀ s, d0.sym = some s → Rd.keys.contains s = false) :
    Calls Tryz.prog 63 #[.pointer (some ⟨pb, 0, none⟩), lsV p g o (rest.length + 1) cap] w (RuleK pb sb kb env fl fv n m w ((Rd.kForms f env (d0 :: rest)).map .call)) := by
  have hlz := Rd.kzL_len (d0 :: rest)
  simp only [List.length_cons] at hlz
  have hB := box_below w (.cells #[.int .i64 p, .slice (some ⟨g, o, none⟩) (rest.length + 1) cap, .iface 146 (.agg #[])] 62)
  have HC : Hid (∀ W, Below (w.alloc (.cells #[.int .i64 p, .slice (some ⟨g, o, none⟩) (rest.length + 1) cap, .iface 146 (.agg #[])] 62)).heap.size (w.alloc (.cells #[.int .i64 p, .slice (some ⟨g, o, none⟩) (rest.length + 1) cap, .iface 146 (.agg #[])] 62)) W → Calls Tryz.prog 101 #[.pointer (some ⟨pb, 0, none⟩), .slice (some ⟨g, o, none⟩) (rest.length + 1) cap] W (RulesK pb sb kb env fl fv n (Rd.kzL (d0 :: rest)) (rest.length + 1) W (Rd.kForms f env (d0 :: rest)))) := fun W hW => HF pb sb kb env fl fv n W (d0 :: rest) _ (hp.kept (hB.trans (hW.mono (by simp)))) hf2 hf (by omega) (hs.mono fun k hk h => ⟨h, (hB.trans (hW.mono (by simp))).block k hk⟩)
  have HPP : Hid (∀ W, Below (w.alloc (.cells #[.int .i64 p, .slice (some ⟨g, o, none⟩) (rest.length + 1) cap, .iface 146 (.agg #[])] 62)).heap.size (w.alloc (.cells #[.int .i64 p, .slice (some ⟨g, o, none⟩) (rest.length + 1) cap, .iface 146 (.agg #[])] 62)) W → PAtV fv pb sb kb env W) := fun W hW => (hp.kept (hB.trans (hW.mono (by simp)))).par
  have HBT : Hid (∀ W, Below (w.alloc (.cells #[.int .i64 p, .slice (some ⟨g, o, none⟩) (rest.length + 1) cap, .iface 146 (.agg #[])] 62)).heap.size (w.alloc (.cells #[.int .i64 p, .slice (some ⟨g, o, none⟩) (rest.length + 1) cap, .iface 146 (.agg #[])] 62)) W → Below w.heap.size w W) := fun W hW => hB.trans (hW.mono (by simp))
  generalize Rd.kForms f env (d0 :: rest) = K at *
  generalize Rd.kzL (d0 :: rest) = Z at *
  obtain ⟨q, ps, en⟩ := d0
  have hcap := hs.len.2
  simp only [List.length_cons] at hcap
  have hs2 := hs.mono (ok' := fun k => ¬ PMK pb sb fv k) (w' := w.alloc (.cells #[.int .i64 p, .slice (some ⟨g, o, none⟩) (rest.length + 1) cap, .iface 146 (.agg #[])] 62)) (fun k hk h => ⟨h, Below.heap_alloc _ _ _ hk⟩)
  obtain ⟨po, pc, e0, e1, e2, hok, _⟩ := hs2.listAt 0 (by simp) (p := q) (ps := ps) (en := en) rfl
  simp only [Nat.mul_zero, Nat.add_zero] at e0 e1 e2
  have hS : ∃ (wd : Rd.Sym) (b : Bool), symIx wd ruleList 0 = none ∧ ∀ W, Calls Tryz.prog 61 #[.agg #[.int .i64 q, .slice po ps.length pc, aV en]] W fun e w' => e = .returned (.tuple #[.string ⟨wd.toArray⟩, .bool b]) ∧ Below W.heap.size W w' := by
    cases ps with
    | cons a ps => exact ⟨[], false, by kernel_rfl, fun W => symbol_list q po _ pc en W (by simp)⟩
    | nil =>
      cases en with
      | sym n => exact ⟨n, true, rules_none n (hk n rfl), fun W => symbol_leaf q po pc (.sym n) W⟩
      | num i => exact ⟨[], false, by kernel_rfl, fun W => symbol_leaf q po pc (.num i) W⟩
      | truth b => exact ⟨[], false, by kernel_rfl, fun W => symbol_leaf q po pc (.truth b) W⟩
      | empty => exact ⟨[], false, by kernel_rfl, fun W => symbol_leaf q po pc .empty W⟩
  obtain ⟨wd, wb, hwd, hS⟩ := hS
  obtain ⟨ti, xv, hav⟩ : ∃ t x, aV en = .iface t x := by cases en <;> exact ⟨_, _, rfl⟩
  rw [hav] at hS e2
  have HI : Hid (∀ W, Calls Tryz.prog 60 #[.agg #[.int .i64 p, .slice (some ⟨g, o, none⟩) (rest.length + 1) cap, .iface 146 (.agg #[])]] W fun e w' => e = .returned (.bool true) ∧ Below W.heap.size W w') := fun W => isList_any p _ (rest.length + 1) cap .empty W
  have HS := (show Hid _ from hS)
  have HW := (show Hid _ from hwd)
  have hne := nef_nil
  have hnz0 : (((rest.length : Int) + 1) == 0) = false := by simp; omega
  clear hS hs hk hwd hav hs2 hp HF
  unfold lsV
  go_enter Tryz.func63, Tryz.ntmps63
  go_wp2_with (first | (go_at_call 60; refine (HI.out _).mono ?_; rintro e w1 ⟨rfl, hb1⟩; have hsz1 : w.heap.size < w1.heap.size := (by have := hb1.size; simp at this; omega); obtain ⟨q0, q1, q2, _, _, _⟩ := cells3 (Below.at hb1 (at_new w _)); have y0 := (Kept.of_below hb1 (PMK pb sb fv)).cell hok e0; have y1 := (Kept.of_below hb1 (PMK pb sb fv)).cell hok e1; have y2 := (Kept.of_below hb1 (PMK pb sb fv)).cell hok e2) | (go_at_call 61; refine (HS.out _).mono ?_; rintro e w2 ⟨rfl, hb2⟩; have hb12 := hb1.trans (hb2.mono hb1.size); obtain ⟨r0, r1, r2, _, _, _⟩ := cells3 (Below.at hb12 (at_new w _)); obtain ⟨c2, hlk⟩ := form_factsV (HPP.out _ hb12) wd; rw [HW.out] at hlk; simp only [Option.map_none, Option.getD_none] at hlk) | (go_at_call 101; refine (HC.out _ hb12).mono ?_; rintro e w3 ⟨v, fv', n', rfl, hsh, hrep, hp1, hn1, hk1, hnw1⟩; obtain ⟨sg, scap, sc, sT, rfl, _, _, _, _⟩ := id hsh))
  go_ret
  have hb02 := HBT.out _ hb12
  refine ⟨_, fv', n', rfl, shp_map _ _ _ _, ?_, by rw [flOr_map]; exact hp1, by omega, hk1.below_then hb02, hnw1.below hb02⟩
  intro x hx
  cases K with
  | bad q => cases hx
  | no q => cases hx
  | ok xs =>
    cases hx
    exact .call _ _ (NewOk.of hb02 (hrep xs rfl))
end Go.Proofs.YtodeeegbajgafaaGreatDoor

namespace Go.Proofs.YtodeeegbajgafaaGreatDoor
open Go.RowKit
namespace Rd
theorem kForm_leaf (f : Nat) (env : List (List Sym)) (p : Nat) (en : A) : kForm (f + 1) env (.mk p [] en) = leafK env p en := by
  rw [kForm.eq_def]
  cases en <;> rfl
end Rd
theorem RuleK.more {pb sb kb : Nat} {env : List (List Rd.Sym)} {fl : Option Nat} {fv : Value} {n m m' : Nat} {w w' : World} {r : Rd.PR Rd.F} {e : Ending} (h : RuleK pb sb kb env fl fv n m w r e w') (hm : m ≤ m') : RuleK pb sb kb env fl fv n m' w r e w' := by
  obtain ⟨v, fv', n', h1, h2, h3, h4, h5, h6, h7⟩ := h
  exact ⟨v, fv', n', h1, h2, h3, h4, by omega, h6, h7⟩
mutual
theorem szD_kz : ∀ d, szD d = Rd.kzD d
  | .mk _ ds _ => by rw [szD, Rd.kzD, szL_kz ds]
theorem szL_kz : ∀ ds, szL ds = Rd.kzL ds
  | [] => by rw [szL, Rd.kzL]
  | d :: ds => by rw [szL, Rd.kzL, szD_kz d, szL_kz ds]
end
theorem Rd.kzL_mem {d : Rd.D} : ∀ {ds : List Rd.D}, d ∈ ds → Rd.kzD d ≤ Rd.kzL ds
  | [], h => by simp at h
  | e :: ds, h => by
    rw [Rd.kzL]
    rcases List.mem_cons.1 h with rfl | h
    · omega
    · have := Rd.kzL_mem h; omega
theorem three_of {α : Type} : ∀ (l : List α), l.length = 3 → ∃ a b c, l = [a, b, c]
  | [a, b, c], _ => ⟨a, b, c, rfl⟩
  | [], h => by simp at h
  | [_], h => by simp at h
  | [_, _], h => by simp at h
  | _ :: _ :: _ :: _ :: _, h => by simp at h
theorem cons_of {α : Type} : ∀ {l : List α}, l ≠ [] → ∃ a b, l = a :: b
  | [], h => absurd rfl h
  | a :: b, _ => ⟨a, b, rfl⟩
set_option maxHeartbeats 1000000 in
theorem form_step_k (f : Nat) (HF : FormsCK f) (H1 : FormCK f) : FormCK (f + 1) := by
  intro pb sb kb env fl fv n w d v hp hf2 hf hnz hrep
  obtain ⟨p, ds, en⟩ := d
  cases ds with
  | nil =>
    obtain ⟨sl, rfl, hs⟩ := hrep.inv
    obtain ⟨b, c, rfl⟩ : ∃ b c, sl = .slice b 0 c := by
      rcases hs with ⟨rfl, _⟩ | ⟨g, o, cap, c, T, va, vb, vc, rfl, _⟩ <;> exact ⟨_, _, rfl⟩
    rw [Rd.kForm_leaf]
    exact formLeaf_k pb sb kb env fl fv n _ p b c en w hp hnz (Rd.kzD_pos _) (by omega)
  | cons d0 rest =>
    by_cases hen : en = .empty
    case neg =>
      rw [Rd.kForm_dot f env p d0 rest en hen]
      obtain ⟨sl, rfl, hs⟩ := hrep.inv
      obtain ⟨b, c, rfl⟩ : ∃ b c, sl = .slice b (rest.length + 1) c := by
        rcases hs with ⟨rfl, h⟩ | ⟨g, o, cap, c, T, va, vb, vc, rfl, _⟩
        · cases h
        · exact ⟨_, _, rfl⟩
      exact formNot_k pb sb kb env fl fv n _ w p b (rest.length + 1) c en hp (by omega) hnz (Rd.kzD_pos _) hen
    subst hen
    obtain ⟨g, o, cap, rfl, hs⟩ := hrep.ls
    have hz : Rd.kzD (.mk p (d0 :: rest) .empty) = 1 + (Rd.kzD d0 + Rd.kzL rest) := by rw [Rd.kzD, Rd.kzL]
    have hz0 := Rd.kzD_pos d0
    have hzl := Rd.kzL_len rest
    have hsz : ∀ d ∈ rest, szD d ≤ 4000 := fun d hd => by
      have := Rd.kzL_mem hd
      rw [szD_kz]
      omega
    rw [hz] at hnz hf2 ⊢
    have hc : Rd.kzL (d0 :: rest) = Rd.kzD d0 + Rd.kzL rest := by rw [Rd.kzL]
    have hpW : ∀ W, Below w.heap.size w W → PAtK pb sb kb env fl fv n W := fun W hW => hp.kept hW
    have hsW : ∀ W, Below w.heap.size w W → RepS (fun k => ¬ PMK pb sb fv k) W (.slice (some ⟨g, o, none⟩) (rest.length + 1) cap) (d0 :: rest) := fun W hW => hs.mono fun k hk h => ⟨h, hW.block k hk⟩
    generalize hR : Rd.kForm (f + 1) env (.mk p (d0 :: rest) .empty) = R
    rw [Rd.kForm_kw] at hR
    cases hkw : d0.sym with
    | none =>
      rw [hkw] at hR
      simp only at hR
      subst hR
      exact formCall_k f HF pb sb kb env fl fv n _ w p g o cap d0 rest hp (by omega) (by omega) (by omega) (by omega) hs (fun s h => by rw [hkw] at h; cases h)
    | some kw =>
      rw [hkw] at hR
      simp only at hR
      by_cases kQuote : kw = Rd.kwQuote
      · subst kQuote
        rw [if_pos rfl] at hR
        refine formQuote_k pb sb kb env fl fv n _ w p g o cap d0 rest R hp (by omega) hs hkw fun W hW => ?_
        exact (quote_k pb sb kb env fl fv n W p g o cap d0 rest (hpW W hW) (hsW W hW) hsz (by omega) R (fun d h => by subst h; exact hR.symm) (fun h => by rw [← hR]; split <;> first | rfl | exact absurd rfl h)).mono fun e w' h => h.more (by omega)
      rw [if_neg kQuote] at hR
      by_cases kIf : kw = Rd.kwIf
      · subst kIf
        rw [if_pos rfl] at hR
        refine formIf_k pb sb kb env fl fv n _ w p g o cap d0 rest R hp (by omega) hs hkw fun W hW => ?_
        exact (choice_k pb sb kb env fl fv n W p g o cap d0 rest (hpW W hW) (hsW W hW) (by omega) R f HF (by omega) (by omega) (fun h => by obtain ⟨a, b, rfl⟩ := two_of _ h; exact hR.symm) (fun h => by obtain ⟨a, b, c, rfl⟩ := three_of _ h; exact hR.symm) (fun h2 h3 => by rw [← hR]; split <;> first | rfl | exact absurd rfl h2 | exact absurd rfl h3)).mono fun e w' h => h.more (by omega)
      rw [if_neg kIf] at hR
      by_cases kLambda : kw = Rd.kwLambda
      · subst kLambda
        rw [if_pos rfl] at hR
        refine formLambda_k pb sb kb env fl fv n _ w p g o cap d0 rest R hp (by omega) hs hkw fun W hW => ?_
        exact (lambda_k f HF pb sb kb env fl fv n W p g o cap d0 rest (hpW W hW) (hsW W hW) (by omega) (by omega) (by omega) R (fun h => by rw [← hR]; split <;> first | rfl | (simp at h; try omega)) (fun d1 r h hl => by subst h; rw [← hR]; split <;> first | rfl | (rename_i e; cases e; rw [if_neg (by simp [hl])])) (fun d1 r h hr hl hn => by subst h; rw [← hR]; split <;> first | rfl | (rename_i e; cases e; rw [if_pos hl, hn])) (fun d1 r ns h hr hl hn => by subst h; obtain ⟨b, bs, rfl⟩ := cons_of hr; rw [← hR]; simp only [hl, if_true, hn])).mono fun e w' h => h.more (by omega)
      rw [if_neg kLambda] at hR
      by_cases kBegin : kw = Rd.kwBegin
      · subst kBegin
        rw [if_pos rfl] at hR
        refine formBegin_k pb sb kb env fl fv n _ w p g o cap d0 rest R hp (by omega) hs hkw fun W hW => ?_
        exact (begin_k f HF pb sb kb env fl fv n W p g o cap d0 rest (hpW W hW) (hsW W hW) (by omega) (by omega) (by omega) R (fun h => by subst h; exact hR.symm) (fun h => by obtain ⟨b, bs, rfl⟩ := cons_of h; exact hR.symm)).mono fun e w' h => h.more (by omega)
      rw [if_neg kBegin] at hR
      by_cases kLet : kw = Rd.kwLet
      · subst kLet
        rw [if_pos rfl] at hR
        refine formLet_k pb sb kb env fl fv n _ w p g o cap d0 rest R hp (by omega) hs hkw fun W hW => ?_
        exact (let_k f HF pb sb kb env fl fv n W p g o cap d0 rest (hpW W hW) (hsW W hW) (by omega) (by omega) (by omega) R (fun h => by rw [← hR]; split <;> first | rfl | (simp at h; try omega)) (fun d1 r h hl => by subst h; rw [← hR]; split <;> first | rfl | (rename_i e; cases e; rw [if_neg (by simp [hl])])) (fun d1 r h hr hl hn => by subst h; obtain ⟨b, bs, rfl⟩ := cons_of hr; rw [← hR]; simp only [hl, if_true, hn]) (fun d1 r ks vs h hr hl hb hn => by subst h; obtain ⟨b, bs, rfl⟩ := cons_of hr; rw [← hR]; simp only [hl, if_true, hb, hn]) (fun d1 r ks vs ns h hr hl hb hn => by subst h; obtain ⟨b, bs, rfl⟩ := cons_of hr; rw [← hR]; simp only [hl, if_true, hb, hn]; cases Rd.kForms f env vs <;> rfl)).mono fun e w' h => h.more (by omega)
      rw [if_neg kLet] at hR
      by_cases kSet : kw = Rd.kwSet
      · subst kSet
        rw [if_pos rfl] at hR
        refine formSet_k pb sb kb env fl fv n _ w p g o cap d0 rest R hp (by omega) hs hkw fun W hW => ?_
        exact (set_k f H1 pb sb kb env fl fv n W p g o cap d0 rest (hpW W hW) (hsW W hW) (by omega) (by omega) (by omega) R (fun h => by rw [← hR]; split <;> first | rfl | exact absurd rfl h) (fun d1 d2 h hn => by subst h; rw [← hR]; simp only [hn]) (fun d1 d2 m h hn => by subst h; rw [← hR]; simp only [hn])).mono fun e w' h => h.more (by omega)
      rw [if_neg kSet] at hR
      by_cases kAnd : kw = Rd.kwAnd
      · subst kAnd
        rw [if_pos rfl] at hR
        refine formAnd_k pb sb kb env fl fv n _ w p g o cap d0 rest R hp (by omega) hs hkw fun W hW => ?_
        exact (and_k f HF pb sb kb env fl fv n W p g o cap d0 rest (hpW W hW) (hsW W hW) (by omega) (by omega) (by omega) R (fun h => by subst h; exact hR.symm) (fun h => by obtain ⟨b, bs, rfl⟩ := cons_of h; exact hR.symm)).mono fun e w' h => h.more (by omega)
      rw [if_neg kAnd] at hR
      by_cases kOr : kw = Rd.kwOr
      · subst kOr
        rw [if_pos rfl] at hR
        refine formOr_k pb sb kb env fl fv n _ w p g o cap d0 rest R hp (by omega) hs hkw fun W hW => ?_
        exact (or_k f HF pb sb kb env fl fv n W p g o cap d0 rest (hpW W hW) (hsW W hW) (by omega) (by omega) (by omega) R (fun h => by subst h; exact hR.symm) (fun h => by obtain ⟨b, bs, rfl⟩ := cons_of h; exact hR.symm)).mono fun e w' h => h.more (by omega)
      rw [if_neg kOr] at hR
      by_cases kReset : kw = Rd.kwReset
      · subst kReset
        rw [if_pos rfl] at hR
        refine formReset_k pb sb kb env fl fv n _ w p g o cap d0 rest R hp (by omega) hs hkw fun W hW => ?_
        exact (reset_k f HF pb sb kb env fl fv n W p g o cap d0 rest (hpW W hW) (hsW W hW) (by omega) (by omega) (by omega) R (fun h => by subst h; exact hR.symm) (fun h => by obtain ⟨b, bs, rfl⟩ := cons_of h; exact hR.symm)).mono fun e w' h => h.more (by omega)
      rw [if_neg kReset] at hR
      by_cases kShift : kw = Rd.kwShift
      · subst kShift
        rw [if_pos rfl] at hR
        refine formShift_k pb sb kb env fl fv n _ w p g o cap d0 rest R hp (by omega) hs hkw fun W hW => ?_
        exact (shift_k f HF pb sb kb env fl fv n W p g o cap d0 rest (hpW W hW) (hsW W hW) (by omega) (by omega) (by omega) R (fun h => by rw [← hR]; split <;> first | rfl | (simp at h; try omega)) (fun d1 r h hn => by subst h; rw [← hR]; split <;> first | rfl | (rename_i e; cases e; rw [hn])) (fun d1 r m h hr hn => by subst h; obtain ⟨b, bs, rfl⟩ := cons_of hr; rw [← hR]; simp only [hn])).mono fun e w' h => h.more (by omega)
      rw [if_neg kShift] at hR
      by_cases kDefine : kw = Rd.kwDefine
      · subst kDefine
        rw [if_pos rfl] at hR
        subst hR
        refine formDefine_k pb sb kb env fl fv n _ w p g o cap d0 rest _ hp (by omega) hs hkw fun W hW => ?_
        exact (refuse_d pb sb kb env fl fv n _ W p _ _ _ _ _ (hpW W hW) (by omega) (by omega) W (Below.refl _ W)).mono fun e w' h => h.2
      rw [if_neg kDefine] at hR
      subst hR
      refine formCall_k f HF pb sb kb env fl fv n _ w p g o cap d0 rest hp (by omega) (by omega) (by omega) (by omega) hs fun s h => ?_
      rw [hkw] at h
      cases h
      simp [Rd.keys, kQuote, kIf, kLambda, kBegin, kLet, kSet, kAnd, kOr, kReset, kShift, kDefine]
theorem form_k : ∀ f, FormCK f := by
  intro f
  induction f using Nat.strongRecOn with
  | _ f ih =>
    cases f with
    | zero =>
      intro pb sb kb env fl fv n w d v hp hf2
      have := Rd.kzD_pos d
      omega
    | succ f => exact form_step_k f (forms_k f fun g hg => ih g (by omega)) (ih f (by omega))
theorem forms_all_k (f : Nat) : FormsCK f := forms_k f fun g _ => form_k g
end Go.Proofs.YtodeeegbajgafaaGreatDoor

namespace Go.Proofs.YtodeeegbajgafaaGreatDoor
namespace Kc
open Go.RowKit
/-- What is answered: a plain value, or why there is none. -/
def ResA : Res → Value → Nat → Prop
  | .val (.atom a), v, y => v = aV a ∧ y = 0
  | .wrong k, v, y => v = .nilIface ∧ y = k
  | _, _, _ => False
def NumR (w : World) (r : Res) : Ending → World → Prop := fun e w' => (∃ v y, e = .returned (.tuple #[v, .int .i64 (y : Nat)]) ∧ ResA r v y) ∧ Below w.heap.size w w'
/-- A function that joins two numbers. -/
def JoinK (jn : Nat) (f : Int → Int → Int) : Prop := ∀ (a b : Int) (w : World), inR a → inR b → (inR (f a b) → Calls Tryz.prog jn #[.int .i64 a, .int .i64 b] w fun e w' => e = .returned (.tuple #[.int .i64 (f a b), .bool true]) ∧ w' = w) ∧ (¬ inR (f a b) → Calls Tryz.prog jn #[.int .i64 a, .int .i64 b] w fun e w' => (∃ c, e = .returned (.tuple #[.int .i64 c, .bool false])) ∧ w' = w)
theorem plus_k : JoinK 117 (fun a b => a + b) := fun a b w ha hb => ⟨fun h => plus_any a b w h.1 h.2, fun h => plus_over a b w ha hb h⟩
theorem minus_k : JoinK 119 (fun a b => a - b) := fun a b w ha hb => ⟨fun h => minus_any a b w h.1 h.2, fun h => minus_over a b w ha hb h⟩
theorem times_k : JoinK 118 (fun a b => a * b) := fun a b w ha hb => ⟨fun h => times_any a b w ha h.1 h.2, fun h => times_over a b w ha hb h⟩
def FoldingK (f : Int → Int → Int) (ns : List Int) (R : Option Int) (w : World) (k : Nat) (p q : Value) (wr : World) : Prop := ∃ i a, i + k = ns.length ∧ inR a ∧ q = .int .i64 (i : Nat) ∧ p = .int .i64 a ∧ fold f a (ns.drop i) = R ∧ wr = w
theorem fold_in {f : Int → Int → Int} {a n : Int} {ns : List Int} (h : inR (f a n)) : fold f a (n :: ns) = fold f (f a n) ns := by
  rw [fold, if_pos ((inRange_iff _).2 h)]
theorem fold_out {f : Int → Int → Int} {a n : Int} {ns : List Int} (h : ¬ inR (f a n)) : fold f a (n :: ns) = none := by
  rw [fold, inRange_not h]
  rfl
def FoldR (R : Option Int) (w : World) : Ending → World → Prop := fun e w' => (∃ v y, e = .returned (.tuple #[v, .int .i64 (y : Nat)]) ∧ ResA (numR R) v y) ∧ w' = w
set_option maxHeartbeats 4000000 in
theorem fromLeft_k (jn : Nat) (f : Int → Int → Int) (HJ : JoinK jn f) (a : Int) (ha : inR a) (ns : List Int) (hns : ∀ n ∈ ns, inR n) (x : Value) (w : World) (hx : NumsAt w x ns) (hjn : jn = 117 ∨ jn = 118 ∨ jn = 119) :
    Calls Tryz.prog 116 #[.func (.func jn) #[] #[], .int .i64 a, x] w (FoldR (fold f a ns) w) := by
  obtain ⟨g, o, cap, rfl, hn, hcap, hc⟩ := hx
  have HC := (show Hid _ from hc)
  generalize hRR : fold f a ns = R
  have HR : Hid (fold f a (ns.drop 0) = R) := hRR
  have HJ' := (show Hid _ from HJ)
  have HA : Hid (inR a) := ha
  have HNS := (show Hid _ from hns)
  clear hc hRR HJ ha hns
  go_enter Tryz.func116, Tryz.ntmps116
  go_wp2
  go_loopg [1, 14] ns.length (fun k p q wr => FoldingK f ns R w k p q wr)
  case atStart => exact ⟨0, a, by omega, HA.out, rfl, rfl, HR.out, rfl⟩
  case round =>
    obtain ⟨i, b, hi, hab, rfl, rfl, hf, rfl⟩ := hrel
    cases gk with
    | zero =>
      obtain rfl : i = ns.length := by omega
      rw [List.drop_length, fold] at hf
      have HFIN : Hid (FoldR R wr (.returned (.tuple #[.iface 147 (.int .i64 b), .int .i64 0])) wr) := ⟨⟨_, 0, rfl, by rw [← hf]; exact ⟨rfl, rfl⟩⟩, rfl⟩
      clear hi hab hf
      go_wp2
      go_ret2
      exact HFIN.out
    | succ k =>
      have hlt : i < ns.length := by omega
      rw [List.drop_eq_getElem_cons hlt] at hf
      have c := HC.out i hlt
      have i1 : (i : Int) < (ns.length : Int) := by omega
      have i2 : -9223372036854775808 ≤ (i : Int) + 1 := by omega
      have i3 : (i : Int) + 1 ≤ 9223372036854775807 := by omega
      obtain ⟨hj1, hj2⟩ := HJ'.out b ns[i] wr hab (HNS.out _ (List.getElem_mem hlt))
      by_cases hin : inR (f b ns[i])
      · rw [fold_in hin] at hf
        have HJC : Hid (Calls Tryz.prog jn #[.int .i64 b, .int .i64 ns[i]] wr fun e w' => e = .returned (.tuple #[.int .i64 (f b ns[i]), .bool true]) ∧ w' = wr) := hj1 hin
        have HR' : Hid (FoldingK f ns R wr k (.int .i64 (f b ns[i])) (.int .i64 ((i + 1 : Nat) : Int)) wr) := ⟨i + 1, _, by omega, hin, rfl, rfl, hf, rfl⟩
        clear hf HC HJ' HR hab HA HNS hj1 hj2 hin
        generalize ns[i] = m at *
        generalize f b m = y at *
        rcases hjn with rfl | rfl | rfl
        · go_wp2_with (first | (go_at_call 117; refine HJC.out.mono ?_; rintro e2 w2 ⟨rfl, rfl⟩))
          go_roundg k
          case measure => omega
          case rel => exact HR'.out
        · go_wp2_with (first | (go_at_call 118; refine HJC.out.mono ?_; rintro e2 w2 ⟨rfl, rfl⟩))
          go_roundg k
          case measure => omega
          case rel => exact HR'.out
        · go_wp2_with (first | (go_at_call 119; refine HJC.out.mono ?_; rintro e2 w2 ⟨rfl, rfl⟩))
          go_roundg k
          case measure => omega
          case rel => exact HR'.out
      · rw [fold_out hin] at hf
        have HJC : Hid (Calls Tryz.prog jn #[.int .i64 b, .int .i64 ns[i]] wr fun e w' => (∃ c, e = .returned (.tuple #[.int .i64 c, .bool false])) ∧ w' = wr) := hj2 hin
        have HFIN : Hid (FoldR R wr (.returned (.tuple #[.nilIface, .int .i64 5])) wr) := ⟨⟨_, 5, rfl, by rw [← hf]; exact ⟨rfl, rfl⟩⟩, rfl⟩
        clear hf HC HJ' HR hab HA HNS hj1 hj2 hin
        generalize ns[i] = m at *
        rcases hjn with rfl | rfl | rfl
        · go_wp2_with (first | (go_at_call 117; refine HJC.out.mono ?_; rintro e2 w2 ⟨⟨c2, rfl⟩, rfl⟩))
          go_ret2
          exact HFIN.out
        · go_wp2_with (first | (go_at_call 118; refine HJC.out.mono ?_; rintro e2 w2 ⟨⟨c2, rfl⟩, rfl⟩))
          go_ret2
          exact HFIN.out
        · go_wp2_with (first | (go_at_call 119; refine HJC.out.mono ?_; rintro e2 w2 ⟨⟨c2, rfl⟩, rfl⟩))
          go_ret2
          exact HFIN.out
/-- A function of numbers, as a procedure that is there has it. -/
def NumK (k : Nat) (do_ : List Int → Res) (P : List Int → Prop) : Prop := ∀ (ns : List Int) (x : Value) (w : World), P ns → (∀ n ∈ ns, inR n) → NumsAt w x ns → Calls Tryz.prog k #[x] w (NumR w (do_ ns))
set_option maxHeartbeats 1000000 in
theorem sum_k : NumK 68 (fun ns => numR (fold (· + ·) 0 ns)) (fun _ => True) := by
  intro ns x w _ hns hx
  have HF := fromLeft_k 117 _ plus_k 0 (by simp [inR]) ns hns x w hx (Or.inl rfl)
  obtain ⟨g, o, cap, rfl, hn, hcap, hc⟩ := hx
  show Calls _ _ _ _ (NumR w (numR (fold (fun a b => a + b) 0 ns)))
  generalize fold (fun a b => a + b) 0 ns = R at *
  clear hc hns
  go_enter Tryz.func68, Tryz.ntmps68
  go_wp2_with (first | (go_at_call 116; refine HF.mono ?_; rintro e2 w2 ⟨⟨v, y, rfl, hv⟩, rfl⟩))
  go_ret2
  exact ⟨⟨v, y, rfl, hv⟩, Below.refl _ _⟩
set_option maxHeartbeats 1000000 in
theorem product_k : NumK 69 (fun ns => numR (fold (· * ·) 1 ns)) (fun _ => True) := by
  intro ns x w _ hns hx
  have HF := fromLeft_k 118 _ times_k 1 (by simp [inR]) ns hns x w hx (Or.inr (Or.inl rfl))
  obtain ⟨g, o, cap, rfl, hn, hcap, hc⟩ := hx
  show Calls _ _ _ _ (NumR w (numR (fold (fun a b => a * b) 1 ns)))
  generalize fold (fun a b => a * b) 1 ns = R at *
  clear hc hns
  go_enter Tryz.func69, Tryz.ntmps69
  go_wp2_with (first | (go_at_call 116; refine HF.mono ?_; rintro e2 w2 ⟨⟨v, y, rfl, hv⟩, rfl⟩))
  go_ret2
  exact ⟨⟨v, y, rfl, hv⟩, Below.refl _ _⟩
def diffR (ns : List Int) : Res := match ns with
  | [] => .wrong 0
  | [n] => numR (fold (· - ·) 0 [n])
  | n :: ns => numR (fold (· - ·) n ns)
set_option maxHeartbeats 2000000 in
theorem difference_k : NumK 70 diffR (fun ns => ns ≠ []) := by
  intro ns x w hne hns hx
  obtain ⟨a, ns, rfl⟩ := cons_of hne
  cases ns with
  | nil =>
    have HF := fromLeft_k 119 _ minus_k 0 (by simp [inR]) [a] hns x w hx (Or.inr (Or.inr rfl))
    obtain ⟨g, o, cap, rfl, hn, hcap, hc⟩ := hx
    show Calls _ _ _ _ (NumR w (numR (fold (fun a b => a - b) 0 [a])))
    generalize fold (fun a b => a - b) 0 [a] = R at *
    clear hc hns hne
    simp only [List.length_cons, List.length_nil] at *
    go_enter Tryz.func70, Tryz.ntmps70
    go_wp2_with (first | (go_at_call 116; refine HF.mono ?_; rintro e2 w2 ⟨⟨v, y, rfl, hv⟩, rfl⟩))
    go_ret2
    exact ⟨⟨v, y, rfl, hv⟩, Below.refl _ _⟩
  | cons b ns =>
    obtain ⟨g, o, cap, rfl, hn, hcap, hc⟩ := hx
    simp only [List.length_cons] at *
    have HF := fromLeft_k 119 _ minus_k a (hns a (by simp)) (b :: ns) (fun n h => hns n (by simp only [List.mem_cons] at h ⊢; exact Or.inr h)) (.slice (some ⟨g, o + 1, none⟩) (ns.length + 1) (cap - 1)) w.drew ⟨g, o + 1, cap - 1, rfl, by simp; omega, by omega, fun i hi => by
      have := hc (i + 1) (by simp at hi ⊢; omega)
      rw [show o + 1 + i = o + (i + 1) by omega]
      simpa using this⟩ (Or.inr (Or.inr rfl))
    have c0 := hc 0 (by omega)
    simp only [Nat.add_zero, List.getElem_cons_zero] at c0
    show Calls _ _ _ _ (NumR w (numR (fold (fun a b => a - b) a (b :: ns))))
    generalize fold (fun a b => a - b) a (b :: ns) = R at *
    have hB : Below w.heap.size w w.drew := (Below.refl _ w).drew
    clear hc hns hne
    have j1 : ¬ cap = 0 := by omega
    have j2 : ¬ cap = 1 := by omega
    have j3 : (1 : Int) ≤ (ns.length : Int) + 1 + 1 := by omega
    have j4 : (ns.length : Int) + 1 + 1 ≤ (cap : Int) := by omega
    have j5 : ¬ ((ns.length : Int) + 1 + 1 = 1) := by omega
    have j6 : (((ns.length : Int) + 1 + 1) == 1) = false := by simp; omega
    have j7 : (0 : Int) < (ns.length : Int) + 1 + 1 := by omega
    go_enter Tryz.func70, Tryz.ntmps70
    go_wp2
    go_region_held3 (fun X => X.cell? ⟨g, o, none⟩ = some (.int .i64 a)) (go_keep) (first | (go_at_call 116; refine HF.mono ?_; rintro e2 w2 ⟨⟨v, y, rfl, hv⟩, rfl⟩))
    all_goals
      go_wp2
      go_ret2
      exact ⟨⟨v, y, rfl, hv⟩, hB⟩
end Kc
end Go.Proofs.YtodeeegbajgafaaGreatDoor

namespace Go.Proofs.YtodeeegbajgafaaGreatDoor
namespace Kc
open Go.RowKit
def HoldK (k : Nat) (r : Int → Int → Bool) : Prop := ∀ (a b : Int) (w : World), Calls Tryz.prog k #[.int .i64 a, .int .i64 b] w fun e w' => e = .returned (.bool (r a b)) ∧ w' = w
theorem less_h : HoldK 124 (fun a b => decide (a < b)) := fun a b w => less1_any a b w
set_option maxHeartbeats 1000000 in
theorem greater_h : HoldK 125 (fun a b => decide (a > b)) := fun a b w => by
  go_enter Tryz.func125, Tryz.ntmps125
  go_wp2
  go_ret
  exact ⟨rfl, rfl⟩
set_option maxHeartbeats 1000000 in
theorem equal_h : HoldK 126 (fun a b => decide (a = b)) := fun a b w => by
  by_cases h : a = b
  · subst h
    go_enter Tryz.func126, Tryz.ntmps126
    go_wp2
    go_ret
    exact ⟨by simp, rfl⟩
  · have h1 : (a == b) = false := by simpa using h
    go_enter Tryz.func126, Tryz.ntmps126
    go_wp2
    go_ret
    exact ⟨by simp [h], rfl⟩
def NeighK (r : Int → Int → Bool) (ns : List Int) (R : Bool) (w : World) (k : Nat) (q : Value) (wr : World) : Prop := ∃ i j, Hid (j = i + 1) ∧ j + k = ns.length ∧ q = .int .i64 (j : Nat) ∧ neigh r (ns.drop i) = R ∧ Below w.heap.size w wr
set_option maxHeartbeats 4000000 in
theorem neighbours_k (jn : Nat) (r : Int → Int → Bool) (HH : HoldK jn r) (hjn : jn = 124 ∨ jn = 125 ∨ jn = 126) (ns : List Int) (hne : ns ≠ []) (x : Value) (w : World) (hx : NumsAt w x ns) :
    Calls Tryz.prog 123 #[.func (.func jn) #[] #[], x] w (NumR w (truthR (neigh r ns))) := by
  obtain ⟨g, o, cap, rfl, hn, hcap, hc⟩ := hx
  have hpos : 0 < ns.length := List.length_pos_iff.2 hne
  have HC : Hid (∀ (W : World), Below w.heap.size w W → ∀ i (hi : i < ns.length), W.cell? ⟨g, o + i, none⟩ = some (.int .i64 ns[i])) := fun W hb i hi => (Kept.of_below hb (fun _ => False)).cell id (hc i hi)
  generalize hRR : neigh r ns = R
  have HR : Hid (neigh r (ns.drop 0) = R) := hRR
  have HJ := (show Hid _ from HH)
  clear hc hRR HH hne
  go_enter Tryz.func123, Tryz.ntmps123
  go_wp2
  go_loopg [6] (ns.length - 1) (fun k q wr => NeighK r ns R w k q wr)
  case atStart => exact ⟨0, 1, rfl, by omega, rfl, HR.out, Below.refl _ _⟩
  case round =>
    obtain ⟨i, j, HIJ, hi, rfl, hf, hb⟩ := hrel
    have hij := HIJ.out
    cases gk with
    | zero =>
      have hd : ns.drop i = [ns[i]'(by omega)] := by
        rw [List.drop_eq_getElem_cons (by omega), List.drop_eq_nil_of_le (by omega)]
      rw [hd, neigh] at hf
      · have HFIN : Hid (NumR w (truthR R) (.returned (.tuple #[.iface 150 (.bool true), .int .i64 0])) wr) := ⟨⟨_, 0, rfl, by rw [← hf]; exact ⟨rfl, rfl⟩⟩, hb⟩
        have i1 : ¬ ((j : Int) < (ns.length : Int)) := by omega
        clear hf hd hij
        go_wp2
        go_ret2
        exact HFIN.out
      · intro a b c h
        cases h
    | succ k =>
      have hlt : i + 1 < ns.length := by omega
      rw [List.drop_eq_getElem_cons (show i < ns.length by omega), List.drop_eq_getElem_cons hlt, neigh, ← List.drop_eq_getElem_cons hlt] at hf
      have c0 := HC.out wr hb i (by omega)
      have c1 := HC.out wr hb (i + 1) hlt
      have HJC := HJ.out ns[i] ns[i + 1] wr.drew
      rw [show o + (i + 1) = o + j by omega] at c1
      have i0 : (j : Int) < (ns.length : Int) := by omega
      have i1 : (0 : Int) ≤ (j : Int) := by omega
      have i2 : (i : Int) < (ns.length : Int) := by omega
      have i6 : (0 : Int) ≤ (i : Int) := by omega
      have i3 : IntKind.i64.wrap ((j : Int) - 1) = (i : Int) := by rw [show (j : Int) - 1 = (i : Int) by omega]; exact i64_in _ (by omega) (by omega)
      have i4 : j < ns.length := by omega
      have i5 : i < ns.length := by omega
      have hbd : Below w.heap.size w wr.drew := hb.drew
      by_cases hin : r ns[i] ns[i + 1] = true
      · rw [hin, Bool.true_and] at hf
        rw [hin] at HJC
        have HJD : Hid (Calls Tryz.prog jn #[.int .i64 ns[i], .int .i64 ns[i + 1]] wr.drew fun e w' => e = .returned (.bool true) ∧ w' = wr.drew) := HJC
        have HR' : Hid (NeighK r ns R w k (.int .i64 ((j + 1 : Nat) : Int)) wr.drew) := ⟨i + 1, j + 1, by exact (by omega : j + 1 = i + 1 + 1), by omega, rfl, hf, hbd⟩
        clear hf HC HJ HR HJC hin
        generalize ns[i] = m at *
        generalize ns[i + 1] = m2 at *
        clear hij
        rcases hjn with rfl | rfl | rfl
        · go_wp2
          go_region_held3 (fun X => X.cell? ⟨g, o + i, none⟩ = some (.int .i64 m) ∧ X.cell? ⟨g, o + j, none⟩ = some (.int .i64 m2)) (go_keep) (first | (go_at_call 124; refine HJD.out.mono ?_; rintro e2 w2 ⟨rfl, rfl⟩))
          all_goals
            go_wp2
            go_roundg k
            case measure => omega
            case rel => exact HR'.out
        · go_wp2
          go_region_held3 (fun X => X.cell? ⟨g, o + i, none⟩ = some (.int .i64 m) ∧ X.cell? ⟨g, o + j, none⟩ = some (.int .i64 m2)) (go_keep) (first | (go_at_call 125; refine HJD.out.mono ?_; rintro e2 w2 ⟨rfl, rfl⟩))
          all_goals
            go_wp2
            go_roundg k
            case measure => omega
            case rel => exact HR'.out
        · go_wp2
          go_region_held3 (fun X => X.cell? ⟨g, o + i, none⟩ = some (.int .i64 m) ∧ X.cell? ⟨g, o + j, none⟩ = some (.int .i64 m2)) (go_keep) (first | (go_at_call 126; refine HJD.out.mono ?_; rintro e2 w2 ⟨rfl, rfl⟩))
          all_goals
            go_wp2
            go_roundg k
            case measure => omega
            case rel => exact HR'.out
      · have hin' : r ns[i] ns[i + 1] = false := by simpa using hin
        rw [hin', Bool.false_and] at hf
        rw [hin'] at HJC
        have HJD : Hid (Calls Tryz.prog jn #[.int .i64 ns[i], .int .i64 ns[i + 1]] wr.drew fun e w' => e = .returned (.bool false) ∧ w' = wr.drew) := HJC
        have HFIN : Hid (NumR w (truthR R) (.returned (.tuple #[.iface 150 (.bool false), .int .i64 0])) wr.drew) := ⟨⟨_, 0, rfl, by rw [← hf]; exact ⟨rfl, rfl⟩⟩, hbd⟩
        clear hf HC HJ HR HJC hin hin'
        generalize ns[i] = m at *
        generalize ns[i + 1] = m2 at *
        clear hij
        rcases hjn with rfl | rfl | rfl
        · go_wp2
          go_region_held3 (fun X => X.cell? ⟨g, o + i, none⟩ = some (.int .i64 m) ∧ X.cell? ⟨g, o + j, none⟩ = some (.int .i64 m2)) (go_keep) (first | (go_at_call 124; refine HJD.out.mono ?_; rintro e2 w2 ⟨rfl, rfl⟩))
          all_goals
            go_wp2
            go_ret2
            exact HFIN.out
        · go_wp2
          go_region_held3 (fun X => X.cell? ⟨g, o + i, none⟩ = some (.int .i64 m) ∧ X.cell? ⟨g, o + j, none⟩ = some (.int .i64 m2)) (go_keep) (first | (go_at_call 125; refine HJD.out.mono ?_; rintro e2 w2 ⟨rfl, rfl⟩))
          all_goals
            go_wp2
            go_ret2
            exact HFIN.out
        · go_wp2
          go_region_held3 (fun X => X.cell? ⟨g, o + i, none⟩ = some (.int .i64 m) ∧ X.cell? ⟨g, o + j, none⟩ = some (.int .i64 m2)) (go_keep) (first | (go_at_call 126; refine HJD.out.mono ?_; rintro e2 w2 ⟨rfl, rfl⟩))
          all_goals
            go_wp2
            go_ret2
            exact HFIN.out
set_option maxHeartbeats 1000000 in
theorem less_k : NumK 74 (fun ns => truthR (neigh (fun a b => decide (a < b)) ns)) (fun ns => ns ≠ []) := by
  intro ns x w hne hns hx
  have HF := neighbours_k 124 _ less_h (by decide) ns hne x w hx
  obtain ⟨g, o, cap, rfl, hn, hcap, hc⟩ := hx
  simp only
  generalize truthR (neigh (fun a b => decide (a < b)) ns) = R at *
  clear hc hns hne
  go_enter Tryz.func74, Tryz.ntmps74
  go_wp2_with (first | (go_at_call 123; refine HF.mono ?_; rintro e2 w2 ⟨⟨v, y, rfl, hv⟩, hb⟩))
  go_ret2
  exact ⟨⟨v, y, rfl, hv⟩, hb⟩
set_option maxHeartbeats 1000000 in
theorem greater_k : NumK 75 (fun ns => truthR (neigh (fun a b => decide (a > b)) ns)) (fun ns => ns ≠ []) := by
  intro ns x w hne hns hx
  have HF := neighbours_k 125 _ greater_h (by decide) ns hne x w hx
  obtain ⟨g, o, cap, rfl, hn, hcap, hc⟩ := hx
  simp only
  generalize truthR (neigh (fun a b => decide (a > b)) ns) = R at *
  clear hc hns hne
  go_enter Tryz.func75, Tryz.ntmps75
  go_wp2_with (first | (go_at_call 123; refine HF.mono ?_; rintro e2 w2 ⟨⟨v, y, rfl, hv⟩, hb⟩))
  go_ret2
  exact ⟨⟨v, y, rfl, hv⟩, hb⟩
set_option maxHeartbeats 1000000 in
theorem equal_k : NumK 76 (fun ns => truthR (neigh (fun a b => decide (a = b)) ns)) (fun ns => ns ≠ []) := by
  intro ns x w hne hns hx
  have HF := neighbours_k 126 _ equal_h (by decide) ns hne x w hx
  obtain ⟨g, o, cap, rfl, hn, hcap, hc⟩ := hx
  simp only
  generalize truthR (neigh (fun a b => decide (a = b)) ns) = R at *
  clear hc hns hne
  go_enter Tryz.func76, Tryz.ntmps76
  go_wp2_with (first | (go_at_call 123; refine HF.mono ?_; rintro e2 w2 ⟨⟨v, y, rfl, hv⟩, hb⟩))
  go_ret2
  exact ⟨⟨v, y, rfl, hv⟩, hb⟩
/-- The quotient fits. -/
theorem tdiv_in {a b : Int} (ha : inR a) (hb0 : b ≠ 0) (h : ¬ (a = -9223372036854775808 ∧ b = -1)) : inR (a.tdiv b) := by
  have h3 : (a.tdiv b).natAbs = a.natAbs / b.natAbs := Int.natAbs_tdiv a b
  have h4 : a.natAbs / b.natAbs ≤ a.natAbs := Nat.div_le_self _ _
  unfold inR at *
  by_cases h9 : a = -9223372036854775808
  · by_cases hbp : 0 < b
    · have h5 : a.tdiv b ≤ 0 := by
        rw [h9]
        have h7 := Int.tdiv_nonneg (a := 9223372036854775808) (b := b) (by omega) (by omega)
        rw [show (-9223372036854775808 : Int) = -(9223372036854775808) by rfl, Int.neg_tdiv]
        omega
      generalize a.tdiv b = q at *
      omega
    · have hb2 : b.natAbs ≥ 2 := by omega
      have h6 : a.natAbs / b.natAbs ≤ a.natAbs / 2 := Nat.div_le_div_left hb2 (by omega)
      generalize a.tdiv b = q at *
      omega
  · generalize a.tdiv b = q at *
    omega
theorem tmod_in {a b : Int} (ha : inR a) : inR (a.tmod b) := by
  have h3 : (a.tmod b).natAbs = a.natAbs % b.natAbs := Int.natAbs_tmod a b
  have h4 : a.natAbs % b.natAbs ≤ a.natAbs := Nat.mod_le _ _
  unfold inR at *
  by_cases h9 : a = -9223372036854775808
  · have h5 : a.tmod b ≤ 0 := by
      rw [h9]
      have := Int.tmod_nonneg (a := 9223372036854775808) b (by omega)
      rw [show (-9223372036854775808 : Int) = -(9223372036854775808) by rfl, Int.neg_tmod]
      omega
    generalize a.tmod b = q at *
    omega
  · generalize a.tmod b = q at *
    omega
end Kc
end Go.Proofs.YtodeeegbajgafaaGreatDoor

namespace Go.Proofs.YtodeeegbajgafaaGreatDoor
namespace Kc
open Go.RowKit
def OpK (k : Nat) (f : Int → Int → Int) : Prop := ∀ (a b : Int) (w : World), inR a → b ≠ 0 → ¬ (a = -9223372036854775808 ∧ b = -1) → Calls Tryz.prog k #[.int .i64 a, .int .i64 b] w fun e w' => e = .returned (.int .i64 (f a b)) ∧ w' = w
set_option maxHeartbeats 1000000 in
theorem quot_k : OpK 121 Int.tdiv := by
  intro a b w ha hb0 hs
  have hin := tdiv_in ha hb0 hs
  have hb1 : (b == 0) = false := by simpa using hb0
  have hwr : wrap64 (a.tdiv b) = a.tdiv b := by
    unfold inR at hin
    generalize a.tdiv b = q at *
    unfold wrap64
    omega
  clear ha hs hin
  go_enter Tryz.func121, Tryz.ntmps121
  go_wp2
  go_ret
  exact ⟨by show Ending.returned (.int .i64 (wrap64 (a.tdiv b))) = _; rw [hwr], rfl⟩
set_option maxHeartbeats 1000000 in
theorem rem_k : OpK 122 Int.tmod := by
  intro a b w ha hb0 hs
  have hin := tmod_in (b := b) ha
  have hb1 : (b == 0) = false := by simpa using hb0
  have hwr : wrap64 (a.tmod b) = a.tmod b := by
    unfold inR at hin
    generalize a.tmod b = q at *
    unfold wrap64
    omega
  clear ha hs hin
  go_enter Tryz.func122, Tryz.ntmps122
  go_wp2
  go_ret
  exact ⟨rfl, rfl⟩
set_option maxHeartbeats 2000000 in
theorem divided_k (jn : Nat) (f : Int → Int → Int) (HO : OpK jn f) (hjn : jn = 121 ∨ jn = 122) (a b : Int) (ha : inR a) (x : Value) (w : World) (hx : NumsAt w x [a, b]) :
    Calls Tryz.prog 120 #[.func (.func jn) #[] #[], x] w (NumR w (divR f [a, b])) := by
  obtain ⟨g, o, cap, rfl, hn, hcap, hc⟩ := hx
  simp only [List.length_cons, List.length_nil] at *
  have c0 := hc 0 (by omega)
  have c1 := hc 1 (by omega)
  simp only [Nat.add_zero, List.getElem_cons_zero, List.getElem_cons_succ] at c0 c1
  have hB : Below w.heap.size w w.drew := (Below.refl _ w).drew
  have j1 : ¬ cap = 0 := by omega
  have j2 : ¬ cap = 1 := by omega
  clear hc
  by_cases hb0 : b = 0
  · subst hb0
    have HFIN : Hid (NumR w (divR f [a, 0]) (.returned (.tuple #[.nilIface, .int .i64 6])) w.drew) := ⟨⟨_, 6, rfl, by rw [divR, if_pos rfl]; exact ⟨rfl, rfl⟩⟩, hB⟩
    clear HO
    go_enter Tryz.func120, Tryz.ntmps120
    go_wp2
    go_region
    all_goals
      go_wp2
      go_ret2
      exact HFIN.out
  · have hb1 : (b == 0) = false := by simpa using hb0
    by_cases hs : a = -9223372036854775808 ∧ b = -1
    · have HFIN : Hid (NumR w (divR f [a, b]) (.returned (.tuple #[.nilIface, .int .i64 5])) w.drew) := ⟨⟨_, 5, rfl, by rw [divR, if_neg hb0, if_pos hs]; exact ⟨rfl, rfl⟩⟩, hB⟩
      obtain ⟨rfl, rfl⟩ := hs
      have HW := wraps_yes w.drew
      clear HO
      go_enter Tryz.func120, Tryz.ntmps120
      go_wp2
      go_region
      all_goals
        go_wp2_with (first | (go_at_call 152; refine HW.mono ?_; rintro e4 w2 ⟨rfl, rfl⟩))
        go_ret2
        exact HFIN.out
    · have HFIN : Hid (NumR w (divR f [a, b]) (.returned (.tuple #[.iface 147 (.int .i64 (f a b)), .int .i64 0])) w.drew) := ⟨⟨_, 0, rfl, by rw [divR, if_neg hb0, if_neg hs]; exact ⟨rfl, rfl⟩⟩, hB⟩
      have HW := wraps_any a b w.drew hs
      have HQ : Hid (Calls Tryz.prog jn #[.int .i64 a, .int .i64 b] w.drew fun e w' => e = .returned (.int .i64 (f a b)) ∧ w' = w.drew) := HO a b w.drew ha hb0 hs
      clear HO hs
      generalize f a b = q at *
      rcases hjn with rfl | rfl
      · go_enter Tryz.func120, Tryz.ntmps120
        go_wp2
        go_region
        all_goals
          go_wp2_with (first | (go_at_call 152; refine HW.mono ?_; rintro e4 w2 ⟨rfl, rfl⟩) | (go_at_call 121; refine HQ.out.mono ?_; rintro e5 w3 ⟨rfl, rfl⟩))
          go_ret2
          exact HFIN.out
      · go_enter Tryz.func120, Tryz.ntmps120
        go_wp2
        go_region
        all_goals
          go_wp2_with (first | (go_at_call 152; refine HW.mono ?_; rintro e4 w2 ⟨rfl, rfl⟩) | (go_at_call 122; refine HQ.out.mono ?_; rintro e5 w3 ⟨rfl, rfl⟩))
          go_ret2
          exact HFIN.out
set_option maxHeartbeats 1000000 in
theorem quotient_k : NumK 72 (divR Int.tdiv) (fun ns => ns.length = 2) := by
  intro ns x w h2 hns hx
  obtain ⟨a, b, rfl⟩ := two_of ns h2
  have HF := divided_k 121 _ quot_k (Or.inl rfl) a b (hns a (by simp)) x w hx
  obtain ⟨g, o, cap, rfl, hn, hcap, hc⟩ := hx
  generalize divR Int.tdiv [a, b] = R at *
  clear hc hns h2
  simp only [List.length_cons, List.length_nil] at *
  go_enter Tryz.func72, Tryz.ntmps72
  go_wp2_with (first | (go_at_call 120; refine HF.mono ?_; rintro e2 w2 ⟨⟨v, y, rfl, hv⟩, hb⟩))
  go_ret2
  exact ⟨⟨v, y, rfl, hv⟩, hb⟩
set_option maxHeartbeats 1000000 in
theorem remainder_k : NumK 73 (divR Int.tmod) (fun ns => ns.length = 2) := by
  intro ns x w h2 hns hx
  obtain ⟨a, b, rfl⟩ := two_of ns h2
  have HF := divided_k 122 _ rem_k (Or.inr rfl) a b (hns a (by simp)) x w hx
  obtain ⟨g, o, cap, rfl, hn, hcap, hc⟩ := hx
  generalize divR Int.tmod [a, b] = R at *
  clear hc hns h2
  simp only [List.length_cons, List.length_nil] at *
  go_enter Tryz.func73, Tryz.ntmps73
  go_wp2_with (first | (go_at_call 120; refine HF.mono ?_; rintro e2 w2 ⟨⟨v, y, rfl, hv⟩, hb⟩))
  go_ret2
  exact ⟨⟨v, y, rfl, hv⟩, hb⟩
end Kc
end Go.Proofs.YtodeeegbajgafaaGreatDoor

namespace Go.Proofs.YtodeeegbajgafaaGreatDoor
theorem Tryz.info2k : (Tryz.prog.info? 2).map (fun i => (i.zero, i.size, i.bytes)) = some (some (.int .i64 0), 1, 8) := by kernel_rfl
namespace Kc
open Go.RowKit
/-- Values in slots. -/
theorem SlotAt.any {t : Gt} {ok : Nat → Prop} {w : World} {x : Value} {vs : List V} (h : SlotAt t ok w x vs) :
    ∃ a cap, x = .slice a vs.length cap ∧ vs.length ≤ cap ∧ cap ≤ maxLen ∧ ∀ i (hi : i < vs.length), ∃ g o y, a = some ⟨g, o, none⟩ ∧ w.cell? ⟨g, o + i, none⟩ = some y ∧ g < w.heap.size ∧ RepM t ok w y (.val vs[i]) := by
  rcases h with ⟨rfl, rfl⟩ | ⟨ga, o, cap, c, T, vf, rfl, h1, h2, h3, h4, h5⟩
  · exact ⟨none, 0, rfl, Nat.le_refl _, by unfold maxLen; omega, fun i hi => absurd hi (Nat.not_lt_zero _)⟩
  · exact ⟨_, cap, rfl, h2, h3, fun i hi => ⟨ga, o, vf i, rfl, by rw [cell_of_at h1]; exact h4 i hi, lt_of_at h1, h5 i hi⟩⟩
theorem nums_cons_num (n : Int) (vs : List V) : nums (.atom (.num n) :: vs) = (nums vs).map (n :: ·) := rfl
theorem nums_cons_no {v : V} {vs : List V} (h : ∀ n, v ≠ .atom (.num n)) : nums (v :: vs) = none := by
  cases v with
  | atom a =>
    cases a with
    | num n => exact absurd rfl (h n)
    | truth b => rfl
    | sym s => rfl
    | empty => rfl
  | pair a b => rfl
  | basic i => rfl
  | clo k b e => rfl
  | cont t => rfl
/-- A value that is no number. -/
theorem RepM.no147 {t : Gt} {ok : Nat → Prop} {w : World} {y : Value} {v : V} (h : RepM t ok w y (.val v)) (hn : ∀ n, v ≠ .atom (.num n)) : ∃ k z, y = .iface k z ∧ k ≠ 147 := by
  cases h with
  | atom a =>
    cases a with
    | num n => exact absurd rfl (hn n)
    | truth b => exact ⟨_, _, rfl, by decide⟩
    | sym s => exact ⟨_, _, rfl, by decide⟩
    | empty => exact ⟨_, _, rfl, by decide⟩
  | pair => exact ⟨_, _, rfl, by decide⟩
  | basic0 => exact ⟨_, _, rfl, by decide⟩
  | basic1 => exact ⟨_, _, rfl, by decide⟩
  | clo => exact ⟨_, _, rfl, by decide⟩
  | cont => exact ⟨_, _, rfl, by decide⟩
theorem RepM.atom_inv {mb : Gt} {ok : Nat → Prop} {w : World} {x : Value} {a : Rd.A} (hr : RepM mb ok w x (.val (.atom a))) : x = aV a := by
  cases hr with
  | atom => rfl
/-- Where the loop stands: the numbers so far. -/
def Numbering (w : World) (vs : List V) (k : Nat) (q : Value) (wr : World) : Prop := ∃ (i : Nat) (pre : List Int) (c : Array Value), i + k = vs.length ∧ q = .int .i64 (i : Nat) ∧ pre.length = i ∧ nums vs = (nums (vs.drop i)).map (pre ++ ·) ∧ (∀ n ∈ pre, inR n) ∧ wr.heap[w.heap.size]? = some (.cells c 2 (0, 0)) ∧ c.size = vs.length ∧ (∀ j (hj : j < pre.length), c[j]? = some (.int .i64 pre[j])) ∧ (∀ j, i ≤ j → j < vs.length → c[j]? = some (.int .i64 0)) ∧ Below w.heap.size w wr
set_option maxHeartbeats 4000000 in
set_option maxRecDepth 10000 in
theorem ofNumbers_k (k : Nat) (hk : k = 68 ∨ k = 69 ∨ k = 70 ∨ k = 72 ∨ k = 73 ∨ k = 74 ∨ k = 75 ∨ k = 76) (do_ : List Int → Res) (P : List Int → Prop) (HK : NumK k do_ P) (t : Gt) (ok : Nat → Prop) (w : World) (x : Value) (vs : List V) (hx : SlotAt t ok w x vs) (hP : ∀ ns, nums vs = some ns → P ns) (hfine : ∀ v ∈ vs, fine v) (hlen : vs.length ≤ 100000) (c : Nat) (T' : TypeId) (hc : w.heap[c]? = some (.cells #[fnV k] T' (0, 0))) :
    Calls Tryz.prog 115 #[x, ptrV c] w (NumR w (ofNums do_ vs)) := by
  have hmk := fun w => run_make_row' (P := Tryz.prog) 196 2 (.int .i64 0) 8 Tryz.underlying196 Tryz.info2k rfl .i64 .i64 vs.length (by omega) (by omega) w
  obtain ⟨a, cap, rfl, hn, hcap, hat⟩ := hx.any
  have hc0 := (cells1 hc).1
  have HCC : Hid (∀ W, Below w.heap.size w W → W.cell? ⟨c, 0, none⟩ = some (.func (.func k) #[] #[])) := fun W hb => (Kept.of_below hb (fun _ => False)).cell id hc0
  have HAT : Hid (∀ W, Below w.heap.size w W → ∀ i (hi : i < vs.length), (∃ n, vs[i] = .atom (.num n) ∧ inR n ∧ ∃ g o, a = some ⟨g, o, none⟩ ∧ W.cell? ⟨g, o + i, none⟩ = some (.iface 147 (.int .i64 n)) ∧ g < w.heap.size) ∨ ((∀ n, vs[i] ≠ .atom (.num n)) ∧ ∃ g o t z, a = some ⟨g, o, none⟩ ∧ W.cell? ⟨g, o + i, none⟩ = some (.iface t z) ∧ t ≠ 147)) := fun W hb i hi => by
    obtain ⟨g, o, y, h1, h2, h3, h4⟩ := hat i hi
    have h5 := (Kept.of_below hb (fun _ => False)).cell id h2
    by_cases hv : ∃ n, vs[i] = .atom (.num n)
    · obtain ⟨n, hv⟩ := hv
      have hf := hfine vs[i] (List.getElem_mem hi)
      rw [hv] at h4 hf
      obtain rfl := h4.atom_inv
      exact .inl ⟨n, hv, hf, g, o, h1, h5, h3⟩
    · obtain ⟨k, z, rfl, hk⟩ := h4.no147 (fun n e => hv ⟨n, e⟩)
      exact .inr ⟨fun n e => hv ⟨n, e⟩, g, o, k, z, h1, h5, hk⟩
  have h0 : Numbering w vs vs.length (.int .i64 0) (w.alloc (.cells (madeCells #[.int .i64 0] vs.length) 2)) := by
    refine ⟨0, [], madeCells #[.int .i64 0] vs.length, by omega, rfl, rfl, by simp, by simp, at_new _ _, by simp [madeCells], fun j hj => absurd hj (Nat.not_lt_zero _), ?_, (Below.refl _ w).alloc (Nat.le_refl _) _⟩
    intro j _ hj
    simp [madeCells, hj, Nat.mod_one]
  have HDO : Hid (∀ (W : World) (pre : List Int), Below w.heap.size w W → nums vs = some pre → (∀ n ∈ pre, inR n) → NumsAt W (.slice (some ⟨w.heap.size, 0, none⟩) pre.length pre.length) pre → Calls Tryz.prog k #[.slice (some ⟨w.heap.size, 0, none⟩) pre.length pre.length] W (NumR w (ofNums do_ vs))) := fun W pre hb hp hr hnu => by
    refine (HK pre _ W (hP pre hp) hr hnu).mono ?_
    rintro e w' ⟨h1, h2⟩
    refine ⟨?_, hb.trans (h2.mono hb.size)⟩
    rw [ofNums, hp]
    exact h1
  have HNO : Hid (∀ (W : World), Below w.heap.size w W → nums vs = none → NumR w (ofNums do_ vs) (.returned (.tuple #[.nilIface, .int .i64 2])) W) := fun W hb hp => ⟨⟨_, 2, rfl, by rw [ofNums, hp]; exact ⟨rfl, rfl⟩⟩, hb⟩
  clear hx hat hc hc0 HK hP hfine
  generalize ofNums do_ vs = R at *
  unfold ptrV
  have HH0 := (show Hid _ from h0)
  clear h0
  go_enter Tryz.func115, Tryz.ntmps115
  go_wp2
  go_loopg [15] vs.length (fun k q wr => Numbering w vs k q wr)
  case atStart => exact HH0.out
  case round =>
    obtain ⟨i, pre, cc, hi, rfl, hpl, hnm, hpr, hB, hcs, hcj, hcz, hb⟩ := hrel
    cases gk with
    | zero =>
      obtain rfl : i = vs.length := by omega
      rw [List.drop_length] at hnm
      have hnm' : nums vs = some pre := by rw [hnm]; simp [nums]
      have HCA := HDO.out wr pre hb hnm' hpr ⟨w.heap.size, 0, pre.length, rfl, Nat.le_refl _, by omega, fun j hj => by rw [cell_of_at hB]; simpa using hcj j hj⟩
      rw [hpl] at HCA
      have q0 := HCC.out wr hb
      clear HDO HNO HAT HCC HH0 hnm hnm' hpr hB hcj hcz hcs
      rcases hk with rfl | rfl | rfl | rfl | rfl | rfl | rfl | rfl
      · go_wp2_with (first | (go_at_call 68; refine HCA.mono ?_; rintro e2 w2 ⟨⟨v, y, rfl, hv⟩, hb2⟩))
        go_ret2
        exact ⟨⟨v, y, rfl, hv⟩, hb2⟩
      · go_wp2_with (first | (go_at_call 69; refine HCA.mono ?_; rintro e2 w2 ⟨⟨v, y, rfl, hv⟩, hb2⟩))
        go_ret2
        exact ⟨⟨v, y, rfl, hv⟩, hb2⟩
      · go_wp2_with (first | (go_at_call 70; refine HCA.mono ?_; rintro e2 w2 ⟨⟨v, y, rfl, hv⟩, hb2⟩))
        go_ret2
        exact ⟨⟨v, y, rfl, hv⟩, hb2⟩
      · go_wp2_with (first | (go_at_call 72; refine HCA.mono ?_; rintro e2 w2 ⟨⟨v, y, rfl, hv⟩, hb2⟩))
        go_ret2
        exact ⟨⟨v, y, rfl, hv⟩, hb2⟩
      · go_wp2_with (first | (go_at_call 73; refine HCA.mono ?_; rintro e2 w2 ⟨⟨v, y, rfl, hv⟩, hb2⟩))
        go_ret2
        exact ⟨⟨v, y, rfl, hv⟩, hb2⟩
      · go_wp2_with (first | (go_at_call 74; refine HCA.mono ?_; rintro e2 w2 ⟨⟨v, y, rfl, hv⟩, hb2⟩))
        go_ret2
        exact ⟨⟨v, y, rfl, hv⟩, hb2⟩
      · go_wp2_with (first | (go_at_call 75; refine HCA.mono ?_; rintro e2 w2 ⟨⟨v, y, rfl, hv⟩, hb2⟩))
        go_ret2
        exact ⟨⟨v, y, rfl, hv⟩, hb2⟩
      · go_wp2_with (first | (go_at_call 76; refine HCA.mono ?_; rintro e2 w2 ⟨⟨v, y, rfl, hv⟩, hb2⟩))
        go_ret2
        exact ⟨⟨v, y, rfl, hv⟩, hb2⟩
    | succ gk =>
      have hlt : i < vs.length := by omega
      have i1 : (i : Int) < (vs.length : Int) := by omega
      rcases HAT.out wr hb i hlt with ⟨n, hv, hin, g, o, rfl, hcell, hgl⟩ | ⟨hv, g, o, ty, z, rfl, hcell, hty⟩
      · have hz := hcz i (Nat.le_refl _) hlt
        have cB : wr.cell? ⟨w.heap.size, i, none⟩ = some (.int .i64 0) := by rw [cell_of_at hB, hz]
        have fB := free_of_at hB i
        have hit := fun W => ta_hit147 (.int .i64 n) W
        have HREL : Hid (Numbering w vs gk (.int .i64 ((i + 1 : Nat) : Int)) (wr.setCell ⟨w.heap.size, i, none⟩ (.int .i64 n))) := by
          refine ⟨i + 1, pre ++ [n], cc.setIfInBounds i (.int .i64 n), by omega, rfl, by simp [hpl], ?_, ?_, at_setCell hB i _, by simpa using hcs, ?_, ?_, hb.setCell (Nat.le_refl _) _⟩
          · rw [hnm, List.drop_eq_getElem_cons hlt, hv, nums_cons_num]
            cases nums (vs.drop (i + 1)) <;> simp
          · intro m hm
            rcases List.mem_append.1 hm with hm | hm
            · exact hpr m hm
            · rw [List.mem_singleton.1 hm]; exact hin
          · intro j hj
            simp only [List.length_append, List.length_cons, List.length_nil] at hj
            by_cases e : j = i
            · subst e
              rw [List.getElem_append_right (by omega)]
              simp [hcs, hlt, hpl]
            · rw [Array.getElem?_setIfInBounds_ne (by omega), List.getElem_append_left (by omega)]
              exact hcj j (by omega)
          · intro j h1 h2
            rw [Array.getElem?_setIfInBounds_ne (by omega)]
            exact hcz j (by omega) h2
        clear HDO HNO HAT HCC HH0 hnm hpr hcj hcz hcs hv hin
        go_wp2
        go_roundg gk
        case measure => omega
        case rel => exact HREL.out
      · have miss := fun W => ta_miss147 ty z W hty
        have hnone : nums vs = none := by rw [hnm, List.drop_eq_getElem_cons hlt, nums_cons_no hv]; rfl
        have HFIN := (show Hid _ from HNO.out wr hb hnone)
        clear HDO HNO HAT HCC HH0 hnm hpr hcj hcz hcs hv hnone
        go_wp2
        go_ret2
        exact HFIN.out
end Kc
end Go.Proofs.YtodeeegbajgafaaGreatDoor

namespace Go.Proofs.YtodeeegbajgafaaGreatDoor
namespace Kc
open Go.RowKit
/-- Values in slots that are some. -/
theorem SlotAt.atK {t : Gt} {ok : Nat → Prop} {w : World} {x : Value} {v : V} {vs : List V} (h : SlotAt t ok w x (v :: vs)) :
    ∃ g o cap, x = .slice (some ⟨g, o, none⟩) (vs.length + 1) cap ∧ vs.length + 1 ≤ cap ∧ cap ≤ maxLen ∧ ∀ i (hi : i < vs.length + 1), ∃ y, w.cell? ⟨g, o + i, none⟩ = some y ∧ RepM t ok w y (.val ((v :: vs)[i]'(by simpa using hi))) := by
  rcases h with ⟨_, h⟩ | ⟨ga, o, cap, c, T, vf, rfl, h1, h2, h3, h4, h5⟩
  · cases h
  · refine ⟨ga, o, cap, rfl, h2, h3, fun i hi => ⟨vf i, ?_, h5 i (by simpa using hi)⟩⟩
    rw [cell_of_at h1]
    exact h4 i (by simpa using hi)
/-- A procedure comes to a value, and makes nothing but new memory. -/
def DoR (mb : Gt) (ok : Nat → Prop) (w : World) (v : V) : Ending → World → Prop := fun e w' => ∃ y, e = .returned (.tuple #[y, .int .i64 0]) ∧ RepM mb ok w' y (.val v) ∧ Below w.heap.size w w'
set_option maxHeartbeats 2000000 in
theorem doCons (mb : Gt) (ok : Nat → Prop) (w : World) (hok : ∀ k, w.heap.size ≤ k → ok k) (x : Value) (a b : V) (hx : SlotAt mb ok w x [a, b]) :
    Calls Tryz.prog 77 #[x] w (DoR mb ok w (.pair a b)) := by
  obtain ⟨g, o, cap, rfl, hn, hcap, hat⟩ := hx.atK
  obtain ⟨y0, c0, h0⟩ := hat 0 (by simp)
  obtain ⟨y1, c1, h1⟩ := hat 1 (by simp)
  simp only [List.length_cons, List.length_nil, Nat.add_zero, Nat.zero_add, List.getElem_cons_zero, List.getElem_cons_succ] at *
  have hB : Below w.heap.size w (w.drew.alloc (.cells #[y0, y1] 126)) := ((Below.refl _ w).drew).alloc (Nat.le_refl _) _
  have hR : RepM mb ok (w.drew.alloc (.cells #[y0, y1] 126)) (.iface 124 (.pointer (some ⟨w.heap.size, 0, none⟩))) (.val (.pair a b)) := .pair w.heap.size y0 y1 126 a b (hok _ (Nat.le_refl _)) (at_new w.drew _) (h0.mono (below_rep hB)) (h1.mono (below_rep hB))
  obtain ⟨t0, z0, rfl⟩ := h0.iface
  obtain ⟨t1, z1, rfl⟩ := h1.iface
  clear h0 h1 hx hat
  have j1 : ¬ cap = 1 := by omega
  go_enter Tryz.func77, Tryz.ntmps77
  go_wp2
  go_region
  all_goals
    go_wp2
    go_ret2
    exact ⟨_, rfl, hR, hB⟩
theorem RepM.pair_inv {mb : Gt} {ok : Nat → Prop} {w : World} {x : Value} {h t : V} (hr : RepM mb ok w x (.val (.pair h t))) : ∃ b y z T, x = .iface 124 (ptrV b) ∧ ok b ∧ w.heap[b]? = some (.cells #[y, z] T (0, 0)) ∧ RepM mb ok w y (.val h) ∧ RepM mb ok w z (.val t) := by
  cases hr with
  | pair b y z T _ _ hb hh h1 h2 => exact ⟨b, y, z, T, rfl, hb, hh, h1, h2⟩
set_option maxHeartbeats 2000000 in
theorem doCar (mb : Gt) (ok : Nat → Prop) (w : World) (x : Value) (a b : V) (hx : SlotAt mb ok w x [.pair a b]) (c : Nat) (T' : TypeId) (hc : w.heap[c]? = some (.cells #[fnV 79] T' (0, 0))) :
    Calls Tryz.prog 127 #[x, ptrV c] w (DoR mb ok w a) := by
  obtain ⟨g, o, cap, rfl, hn, hcap, hat⟩ := hx.atK
  obtain ⟨y0, c0, h0⟩ := hat 0 (by simp)
  simp only [List.length_nil, Nat.add_zero, Nat.zero_add, List.getElem_cons_zero] at *
  obtain ⟨bb, y, z, T, rfl, hb, hh, h1, h2⟩ := h0.pair_inv
  have HH := head_any w bb y z T hh h1.iface
  obtain ⟨q0, _⟩ := cells1 hc
  have hit := fun w => ta_hit124 (.pointer (some ⟨bb, 0, none⟩)) w
  have hB : Below w.heap.size w w := Below.refl _ w
  have HR := (show Hid _ from h1)
  obtain ⟨t0, z0, rfl⟩ := h1.iface
  clear hx hat h0 h1 h2 hh hc
  unfold ptrV fnV at *
  go_enter Tryz.func127, Tryz.ntmps127
  go_wp2_with (first | (go_at_call 79; refine HH.mono ?_; rintro e2 w2 ⟨rfl, rfl⟩))
  go_ret2
  exact ⟨_, rfl, HR.out, hB⟩
set_option maxHeartbeats 2000000 in
theorem doCdr (mb : Gt) (ok : Nat → Prop) (w : World) (x : Value) (a b : V) (hx : SlotAt mb ok w x [.pair a b]) (c : Nat) (T' : TypeId) (hc : w.heap[c]? = some (.cells #[fnV 80] T' (0, 0))) :
    Calls Tryz.prog 127 #[x, ptrV c] w (DoR mb ok w b) := by
  obtain ⟨g, o, cap, rfl, hn, hcap, hat⟩ := hx.atK
  obtain ⟨y0, c0, h0⟩ := hat 0 (by simp)
  simp only [List.length_nil, Nat.add_zero, Nat.zero_add, List.getElem_cons_zero] at *
  obtain ⟨bb, y, z, T, rfl, hb, hh, h1, h2⟩ := h0.pair_inv
  have HH := tail_any w bb y z T hh h2.iface
  obtain ⟨q0, _⟩ := cells1 hc
  have hit := fun w => ta_hit124 (.pointer (some ⟨bb, 0, none⟩)) w
  have hB : Below w.heap.size w w := Below.refl _ w
  have HR := (show Hid _ from h2)
  obtain ⟨t0, z0, rfl⟩ := h2.iface
  clear hx hat h0 h1 h2 hh hc
  unfold ptrV fnV at *
  go_enter Tryz.func127, Tryz.ntmps127
  go_wp2_with (first | (go_at_call 80; refine HH.mono ?_; rintro e2 w2 ⟨rfl, rfl⟩))
  go_ret2
  exact ⟨_, rfl, HR.out, hB⟩
/-- A value that is no pair. -/
theorem RepM.no124 {t : Gt} {ok : Nat → Prop} {w : World} {y : Value} {v : V} (h : RepM t ok w y (.val v)) (hn : ∀ a b, v ≠ .pair a b) : ∃ k z, y = .iface k z ∧ k ≠ 124 := by
  cases h with
  | atom a => cases a <;> exact ⟨_, _, rfl, by decide⟩
  | pair b x y T a c => exact absurd rfl (hn a c)
  | basic0 => exact ⟨_, _, rfl, by decide⟩
  | basic1 => exact ⟨_, _, rfl, by decide⟩
  | clo => exact ⟨_, _, rfl, by decide⟩
  | cont => exact ⟨_, _, rfl, by decide⟩
set_option maxHeartbeats 2000000 in
theorem doNoPair (mb : Gt) (ok : Nat → Prop) (w : World) (x : Value) (v : V) (hv : ∀ a b, v ≠ .pair a b) (hx : SlotAt mb ok w x [v]) (c : Nat) :
    Calls Tryz.prog 127 #[x, ptrV c] w fun e w' => e = .returned (.tuple #[.nilIface, .int .i64 2]) ∧ w' = w := by
  obtain ⟨g, o, cap, rfl, hn, hcap, hat⟩ := hx.atK
  obtain ⟨y0, c0, h0⟩ := hat 0 (by simp)
  simp only [List.length_nil, Nat.add_zero, Nat.zero_add, List.getElem_cons_zero] at *
  obtain ⟨t, z, rfl, ht⟩ := h0.no124 hv
  have miss := fun w => ta_miss124 t z w ht
  clear hx hat h0 hv
  unfold ptrV at *
  go_enter Tryz.func127, Tryz.ntmps127
  go_wp2
  go_ret2
  exact ⟨rfl, rfl⟩
/-- Where the loop of data.List stands: k values are still to be laid ahead. -/
def Listing (mb : Gt) (ok : Nat → Prop) (w : World) (vs : List V) (k : Nat) (p q : Value) (wr : World) : Prop :=
  k ≤ vs.length ∧ q = .int .i64 ((k : Int) - 1) ∧ RepM mb ok wr p (.val (listE (.atom .empty) (vs.drop k))) ∧ Below w.heap.size w wr
set_option maxHeartbeats 4000000 in
theorem list33 (mb : Gt) (ok : Nat → Prop) (w : World) (hok : ∀ k, w.heap.size ≤ k → ok k) (x : Value) (vs : List V) (hx : SlotAt mb ok w x vs) :
    Calls Tryz.prog 33 #[x, .iface 146 (.agg #[])] w fun e w' => ∃ y, e = .returned y ∧ RepM mb ok w' y (.val (listE (.atom .empty) vs)) ∧ Below w.heap.size w w' := by
  obtain ⟨a, cap, rfl, hn, hcap, hat⟩ := hx.any
  clear hx
  have HA := (show Hid _ from hat)
  clear hat
  have hm : cap ≤ 9223372036854775807 := by unfold maxLen at hcap; omega
  have i0 : -9223372036854775808 ≤ (vs.length : Int) - 1 := by omega
  have i0' : (vs.length : Int) - 1 ≤ 9223372036854775807 := by omega
  go_enter Tryz.func33, Tryz.ntmps33
  go_wp2
  go_loopg [5, 6] vs.length (fun k p q wr => Listing mb ok w vs k p q wr)
  case atStart => exact ⟨Nat.le_refl _, rfl, by rw [List.drop_length]; exact .atom .empty, Below.refl _ _⟩
  case round =>
    obtain ⟨hk, rfl, hp, hb⟩ := hrel
    cases gk with
    | zero =>
      have HP := (show Hid _ from hp)
      obtain ⟨tp, zp, rfl⟩ := hp.iface
      clear hp hk
      go_wp2
      go_ret
      exact ⟨_, rfl, HP.out, hb⟩
    | succ k =>
      obtain ⟨g, o, y, rfl, hc, hlt, hy⟩ := HA.out k (by omega)
      have hc' := (Kept.of_below hb (fun _ => False)).cell id hc
      have i1 : ((k + 1 : Nat) : Int) - 1 = (k : Int) := by omega
      rw [i1]
      have hB : Below w.heap.size w (wr.alloc (.cells #[y, u5] 126)) := hb.alloc hb.size _
      have hst : ∀ j, j < wr.heap.size → ok j → ok j ∧ (wr.alloc (.cells #[y, u5] 126)).heap[j]? = wr.heap[j]? := fun j hj ho => ⟨ho, Below.heap_alloc _ _ _ hj⟩
      have hR : RepM mb ok (wr.alloc (.cells #[y, u5] 126)) (.iface 124 (.pointer (some ⟨wr.heap.size, 0, none⟩))) (.val (listE (.atom .empty) (vs.drop k))) := by
        rw [List.drop_eq_getElem_cons (show k < vs.length by omega)]
        exact .pair wr.heap.size y u5 126 _ _ (hok _ hb.size) (at_new wr _) ((hy.mono (below_rep hb)).mono hst) (hp.mono hst)
      have HR : Hid (Listing mb ok w vs k (.iface 124 (.pointer (some ⟨wr.heap.size, 0, none⟩))) (.int .i64 ((k : Int) - 1)) (wr.alloc (.cells #[y, u5] 126))) := ⟨by omega, rfl, hR, hB⟩
      obtain ⟨tp, zp, rfl⟩ := hp.iface
      obtain ⟨ty, zy, rfl⟩ := hy.iface
      have i2 : (0 : Int) ≤ (k : Int) := by omega
      have i3 : (k : Int) < (vs.length : Int) := by omega
      have i4 : k < vs.length := by omega
      have i5 : -9223372036854775808 ≤ (k : Int) - 1 := by omega
      have i6 : (k : Int) - 1 ≤ 9223372036854775807 := by omega
      clear hp hy hR hst hB hc HA
      go_wp2
      go_roundg k
      case measure => omega
      case rel => exact HR.out
set_option maxHeartbeats 1000000 in
theorem doList (mb : Gt) (ok : Nat → Prop) (w : World) (hok : ∀ k, w.heap.size ≤ k → ok k) (x : Value) (vs : List V) (hx : SlotAt mb ok w x vs) :
    Calls Tryz.prog 81 #[x] w (DoR mb ok w (listE (.atom .empty) vs)) := by
  have HL := list33 mb ok w hok x vs hx
  obtain ⟨a, cap, rfl, hn, hcap, _⟩ := hx.any
  clear hx
  go_enter Tryz.func81, Tryz.ntmps81
  go_wp2_with (first | (go_at_call 33; refine HL.mono ?_; rintro e2 w2 ⟨y, rfl, hy, hb⟩; have HY := (show Hid _ from hy); obtain ⟨ty, zy, rfl⟩ := hy.iface; clear hy))
  go_ret2
  exact ⟨_, rfl, HY.out, hb⟩
set_option maxHeartbeats 2000000 in
theorem isPair_k (mb : Gt) (ok : Nat → Prop) (w : World) (x : Value) (v : V) (r : Bool) (hx : SlotAt mb ok w x [v]) (hr : ∀ y, RepM mb ok w y (.val v) → ∃ t z u, y = .iface t z ∧ ∀ W, (Instr.typeAssert (.iface t z) 60 124 true).run Tryz.prog W = .ok (.tuple #[u, .bool r]) W) :
    Calls Tryz.prog 82 #[x] w (DoR mb ok w (.atom (.truth r))) := by
  obtain ⟨g, o, cap, rfl, hn, hcap, hat⟩ := hx.atK
  obtain ⟨y0, c0, h0⟩ := hat 0 (by simp)
  simp only [List.length_nil, Nat.add_zero, Nat.zero_add, List.getElem_cons_zero] at *
  obtain ⟨t, z, u, rfl, hta⟩ := hr y0 h0
  clear hx hat h0 hr
  go_enter Tryz.func82, Tryz.ntmps82
  go_wp2
  go_ret2
  exact ⟨_, rfl, .atom (.truth r), Below.refl _ _⟩
set_option maxHeartbeats 2000000 in
theorem isNum_k (mb : Gt) (ok : Nat → Prop) (w : World) (x : Value) (v : V) (r : Bool) (hx : SlotAt mb ok w x [v]) (hr : ∀ y, RepM mb ok w y (.val v) → ∃ t z u, y = .iface t z ∧ ∀ W, (Instr.typeAssert (.iface t z) 60 147 true).run Tryz.prog W = .ok (.tuple #[u, .bool r]) W) :
    Calls Tryz.prog 84 #[x] w (DoR mb ok w (.atom (.truth r))) := by
  obtain ⟨g, o, cap, rfl, hn, hcap, hat⟩ := hx.atK
  obtain ⟨y0, c0, h0⟩ := hat 0 (by simp)
  simp only [List.length_nil, Nat.add_zero, Nat.zero_add, List.getElem_cons_zero] at *
  obtain ⟨t, z, u, rfl, hta⟩ := hr y0 h0
  clear hx hat h0 hr
  go_enter Tryz.func84, Tryz.ntmps84
  go_wp2
  go_ret2
  exact ⟨_, rfl, .atom (.truth r), Below.refl _ _⟩
set_option maxHeartbeats 2000000 in
theorem isSym_k (mb : Gt) (ok : Nat → Prop) (w : World) (x : Value) (v : V) (r : Bool) (hx : SlotAt mb ok w x [v]) (hr : ∀ y, RepM mb ok w y (.val v) → ∃ t z u, y = .iface t z ∧ ∀ W, (Instr.typeAssert (.iface t z) 60 115 true).run Tryz.prog W = .ok (.tuple #[u, .bool r]) W) :
    Calls Tryz.prog 85 #[x] w (DoR mb ok w (.atom (.truth r))) := by
  obtain ⟨g, o, cap, rfl, hn, hcap, hat⟩ := hx.atK
  obtain ⟨y0, c0, h0⟩ := hat 0 (by simp)
  simp only [List.length_nil, Nat.add_zero, Nat.zero_add, List.getElem_cons_zero] at *
  obtain ⟨t, z, u, rfl, hta⟩ := hr y0 h0
  clear hx hat h0 hr
  go_enter Tryz.func85, Tryz.ntmps85
  go_wp2
  go_ret2
  exact ⟨_, rfl, .atom (.truth r), Below.refl _ _⟩
set_option maxHeartbeats 2000000 in
theorem isProc_k (mb : Gt) (ok : Nat → Prop) (w : World) (x : Value) (v : V) (r : Bool) (hx : SlotAt mb ok w x [v]) (hr : ∀ y, RepM mb ok w y (.val v) → ∃ t z u, y = .iface t z ∧ ∀ W, (Instr.typeAssert (.iface t z) 60 149 true).run Tryz.prog W = .ok (.tuple #[u, .bool r]) W) :
    Calls Tryz.prog 86 #[x] w (DoR mb ok w (.atom (.truth r))) := by
  obtain ⟨g, o, cap, rfl, hn, hcap, hat⟩ := hx.atK
  obtain ⟨y0, c0, h0⟩ := hat 0 (by simp)
  simp only [List.length_nil, Nat.add_zero, Nat.zero_add, List.getElem_cons_zero] at *
  obtain ⟨t, z, u, rfl, hta⟩ := hr y0 h0
  clear hx hat h0 hr
  go_enter Tryz.func86, Tryz.ntmps86
  go_wp2
  go_ret2
  exact ⟨_, rfl, .atom (.truth r), Below.refl _ _⟩
set_option maxHeartbeats 2000000 in
theorem isTruth_k (mb : Gt) (ok : Nat → Prop) (w : World) (x : Value) (v : V) (r : Bool) (hx : SlotAt mb ok w x [v]) (hr : ∀ y, RepM mb ok w y (.val v) → ∃ t z u, y = .iface t z ∧ ∀ W, (Instr.typeAssert (.iface t z) 60 150 true).run Tryz.prog W = .ok (.tuple #[u, .bool r]) W) :
    Calls Tryz.prog 87 #[x] w (DoR mb ok w (.atom (.truth r))) := by
  obtain ⟨g, o, cap, rfl, hn, hcap, hat⟩ := hx.atK
  obtain ⟨y0, c0, h0⟩ := hat 0 (by simp)
  simp only [List.length_nil, Nat.add_zero, Nat.zero_add, List.getElem_cons_zero] at *
  obtain ⟨t, z, u, rfl, hta⟩ := hr y0 h0
  clear hx hat h0 hr
  go_enter Tryz.func87, Tryz.ntmps87
  go_wp2
  go_ret2
  exact ⟨_, rfl, .atom (.truth r), Below.refl _ _⟩
set_option maxHeartbeats 2000000 in
theorem isNull_k (mb : Gt) (ok : Nat → Prop) (w : World) (x : Value) (v : V) (r : Bool) (hx : SlotAt mb ok w x [v]) (hr : ∀ y, RepM mb ok w y (.val v) → ∃ t z, y = .iface t z ∧ ∀ W, (Instr.typeAssert (.iface t z) 60 146 true).run Tryz.prog W = .ok (.tuple #[.agg #[], .bool r]) W) :
    Calls Tryz.prog 83 #[x] w (DoR mb ok w (.atom (.truth r))) := by
  obtain ⟨g, o, cap, rfl, hn, hcap, hat⟩ := hx.atK
  obtain ⟨y0, c0, h0⟩ := hat 0 (by simp)
  simp only [List.length_nil, Nat.add_zero, Nat.zero_add, List.getElem_cons_zero] at *
  have hB : ∀ z, Below w.heap.size w (w.alloc (.cells z 146)) := fun z => (Below.refl _ w).alloc (Nat.le_refl _) _
  obtain ⟨t, z, rfl, hta⟩ := hr y0 h0
  clear hx hat h0 hr
  go_enter Tryz.func83, Tryz.ntmps83
  go_wp2
  go_ret2
  exact ⟨_, rfl, .atom (.truth r), hB _⟩
set_option maxHeartbeats 2000000 in
theorem not_k (mb : Gt) (ok : Nat → Prop) (w : World) (x : Value) (v : V) (hx : SlotAt mb ok w x [v]) :
    Calls Tryz.prog 89 #[x] w (DoR mb ok w (.atom (.truth (!v.isTrue)))) := by
  obtain ⟨g, o, cap, rfl, hn, hcap, hat⟩ := hx.atK
  obtain ⟨y0, c0, h0⟩ := hat 0 (by simp)
  simp only [List.length_nil, Nat.add_zero, Nat.zero_add, List.getElem_cons_zero] at *
  have HI : Hid (Calls Tryz.prog 128 #[y0] w fun e w' => e = .returned (.bool v.isTrue) ∧ w' = w) := isTrue_any mb ok y0 v w w h0
  obtain ⟨t, z, rfl⟩ := h0.iface
  clear hx hat h0
  generalize v.isTrue = b at *
  go_enter Tryz.func89, Tryz.ntmps89
  go_wp2_with (first | (go_at_call 128; refine HI.out.mono ?_; rintro e1 w1 ⟨rfl, rfl⟩))
  go_ret2
  exact ⟨_, rfl, .atom (.truth (!b)), Below.refl _ _⟩
end Kc
end Go.Proofs.YtodeeegbajgafaaGreatDoor

namespace Go.Proofs.YtodeeegbajgafaaGreatDoor
namespace Kc
open Go.RowKit
/-- A value that shows itself as this text, from the world w on. -/
def ShowsK (B : Nat) (w : World) (t : TypeId) (x : Value) (txt : List UInt8) : Prop := ∃ (fn : Nat) (r : Value), (∀ W, Below B w W → Sem.run Tryz.prog (method 400 t x "AppendShown") W = .ok (fn, r) W) ∧ (∀ args w, Sem.run Tryz.prog (callFunc fn args) w = .ok (.enter fn args) w) ∧
  ∀ (W : World) (n : Nat) (sv : Value) (xs : List Value), Below B w W → W.ownsRow B 5 1 sv n xs → B ≤ W.heap.size → Tab B W → n + txt.length + 21 ≤ 1000000 → Calls Tryz.prog fn #[r, sv] W (AppR B n xs txt W)
theorem txA_sh (a : Rd.A) : txA a = shA a := by cases a <;> first | rfl | (rename_i b; cases b <;> rfl)
theorem showsK_atom (B : Nat) (w : World) (a : Rd.A) (ha : fineA a) (t : TypeId) (x : Value) (h : aV a = .iface t x) : ShowsK B w t x (txA a) := by
  obtain ⟨fn, r, h1, h2, h3⟩ := shows_atom B w a (by cases a <;> first | exact ha | trivial) t x h
  rw [txA_sh]
  exact ⟨fn, r, fun W _ => h1 W, h2, h3⟩
theorem enter204 (args : Array Value) (w : World) : Sem.run Tryz.prog (callFunc 204 args) w = .ok (.enter 204 args) w := by kernel_rfl
theorem shown258 (b : Nat) (l m : Value) (w : World) (h0 : w.cell? ⟨b, 0, none⟩ = some l) (h1 : w.cell? ⟨b, 1, none⟩ = some m) : Sem.run Tryz.prog (method 400 258 (.pointer (some ⟨b, 0, none⟩)) "AppendShown") w = .ok (204, .agg #[l, m]) w := by
  have h : Sem.run Tryz.prog (method 400 258 (.pointer (some ⟨b, 0, none⟩)) "AppendShown") w = Sem.run Tryz.prog (loadVar 114 ⟨b, 0, none⟩ >>= fun v => pure (204, v)) w := by kernel_rfl
  rw [h, Sem.run_bind, load114 b l m w h0 h1]
  rfl
theorem shown226 (b : Nat) (l m : Value) (w : World) (h0 : w.cell? ⟨b, 0, none⟩ = some l) (h1 : w.cell? ⟨b, 1, none⟩ = some m) : Sem.run Tryz.prog (method 400 226 (.pointer (some ⟨b, 0, none⟩)) "AppendShown") w = .ok (204, .agg #[l, m]) w := by
  have h : Sem.run Tryz.prog (method 400 226 (.pointer (some ⟨b, 0, none⟩)) "AppendShown") w = Sem.run Tryz.prog (loadVar 114 ⟨b, 0, none⟩ >>= fun v => pure (204, v)) w := by kernel_rfl
  rw [h, Sem.run_bind, load114 b l m w h0 h1]
  rfl
theorem shown111 (b : Nat) (l m : Value) (w : World) (h0 : w.cell? ⟨b, 0, none⟩ = some l) (h1 : w.cell? ⟨b, 1, none⟩ = some m) : Sem.run Tryz.prog (method 400 111 (.pointer (some ⟨b, 0, none⟩)) "AppendShown") w = .ok (204, .agg #[l, m]) w := by
  have h : Sem.run Tryz.prog (method 400 111 (.pointer (some ⟨b, 0, none⟩)) "AppendShown") w = Sem.run Tryz.prog (loadVar 114 ⟨b, 0, none⟩ >>= fun v => pure (204, v)) w := by kernel_rfl
  rw [h, Sem.run_bind, load114 b l m w h0 h1]
  rfl
set_option maxHeartbeats 2000000 in
theorem app_proc (B n : Nat) (l m : Int) (sv : Value) (xs : List Value) (w : World) (ho : w.ownsRow B 5 1 sv n xs) (hB : B ≤ w.heap.size) (hl : n + 12 ≤ 1000000) :
    Calls Tryz.prog 204 #[.agg #[.int .i64 l, .int .i64 m], sv] w (AppR B n xs procT w) := by
  obtain ⟨i0, hi, hz0, hz1, hz2⟩ := info_parts Tryz.info5
  have HG0 : Hid (∀ o, Below B w (w.alloc o) ∧ (w.alloc o).ownsRow B 5 1 sv n xs) := fun o => ⟨(Below.refl B w).alloc hB _, ho.alloc _⟩
  obtain ⟨a, k, c, rfl⟩ := owns_slice ho
  have hA : Below B w (w.alloc (.cells #[.int .i64 l, .int .i64 m] 114)) := (Below.refl B w).alloc hB _
  have hO : (w.alloc (.cells #[.int .i64 l, .int .i64 m] 114)).ownsRow B 5 1 (.slice a k c) n xs := ho.alloc _
  have HO := (show Hid _ from hO)
  have HG := (show Hid _ from fun w' hg => hA.trans (own_grown (w' := w') hO (by simp; omega) hg))
  clear ho hO
  go_enter Tryz.func204, Tryz.ntmps204
  go_wp2_with (at_builtin; refine Lib.wpList_append_own_string _ rfl _ _ 58 9 rfl B 5 i0 Tryz.underlying58 Tryz.underlying9 hi hz0 hz1 hz2 _ _ _ rfl HO.out ⟨#[35, 60, 112, 114, 111, 99, 101, 100, 117, 114, 101, 62]⟩ rfl ?c3 ?c4 ?c5 ?_)
  case c3 => unfold maxLen; show n + 12 ≤ _; omega
  case c4 => show n + 12 ≤ _; omega
  case c5 => simp; omega
  intro v' w2 hown' hgrow _
  have HO2 : Hid (w2.ownsRow B 5 1 v' (n + 12) (xs ++ Lib.byteCells procT)) := hown'
  obtain ⟨a', k', c', rfl⟩ := owns_slice hown'
  have HB := (show Hid _ from HG.out _ hgrow)
  clear hown' hgrow
  go_wp2
  go_ret
  exact ⟨_, rfl, HO2.out, HB.out⟩
theorem showsK_proc (B : Nat) (w : World) (t b : Nat) (l m : Int) (cs : List Value) (T : TypeId) (hb : b < B) (hh : w.heap[b]? = some (.cells (.int .i64 l :: .int .i64 m :: cs).toArray T (0, 0)))
    (H : ∀ (l m : Value) (w : World), w.cell? ⟨b, 0, none⟩ = some l → w.cell? ⟨b, 1, none⟩ = some m → Sem.run Tryz.prog (method 400 t (.pointer (some ⟨b, 0, none⟩)) "AppendShown") w = .ok (204, .agg #[l, m]) w) : ShowsK B w t (ptrV b) procT := by
  refine ⟨204, .agg #[.int .i64 l, .int .i64 m], fun W hW => ?_, enter204, fun W n sv xs _ ho hB _ hl => app_proc B n l m sv xs W ho hB (by have : procT.length = 12 := rfl; omega)⟩
  have hat : W.heap[b]? = some (.cells (.int .i64 l :: .int .i64 m :: cs).toArray T (0, 0)) := (hW.block b hb).trans hh
  refine H _ _ W ?_ ?_
  · have := cell_of_at hat 0
    simpa using this
  · have := cell_of_at hat 1
    simpa using this
theorem RepM.basic_cells {mb : Gt} {ok : Nat → Prop} {w : World} {x : Value} {i : Nat} (h : RepM mb ok w x (.val (.basic i))) : ∃ (b : Nat) (l m : Int) (cs : List Value) (T : TypeId), x = .iface 111 (ptrV b) ∧ ok b ∧ w.heap[b]? = some (.cells (.int .i64 l :: .int .i64 m :: cs).toArray T (0, 0)) := by
  cases h with
  | basic0 _ b nm T hb hn hh => exact ⟨b, _, _, [nm, _], T, rfl, hb, hh⟩
  | basic1 _ b c nm y T T' hb hc hx hh hh' ht => exact ⟨b, _, _, [nm, _], T, rfl, hb, hh⟩
theorem RepM.clo_cells {mb : Gt} {ok : Nat → Prop} {w : World} {x : Value} {k : Nat} {body : List Rd.F} {e : Env} (h : RepM mb ok w x (.val (.clo k body e))) : ∃ (b : Nat) (l m : Int) (cs : List Value) (T : TypeId), x = .iface 226 (ptrV b) ∧ ok b ∧ w.heap[b]? = some (.cells (.int .i64 l :: .int .i64 m :: cs).toArray T (0, 0)) := by
  cases h with
  | clo b _ s at' T _ _ hb hh h1 h2 => exact ⟨b, _, _, [s, at'], T, rfl, hb, hh⟩
theorem RepM.cont_cells {mb : Gt} {ok : Nat → Prop} {w : World} {x : Value} {fs : List Fr} (h : RepM mb ok w x (.val (.cont fs))) : ∃ (b : Nat) (l m : Int) (cs : List Value) (T : TypeId), x = .iface 258 (ptrV b) ∧ ok b ∧ w.heap[b]? = some (.cells (.int .i64 l :: .int .i64 m :: cs).toArray T (0, 0)) := by
  cases h with
  | cont b s T _ hb hh h1 => exact ⟨b, _, _, [s], T, rfl, hb, hh⟩
/-- No pair. -/
def leaf (v : V) : Prop := ∀ a b, v ≠ .pair a b
theorem showsK_leaf (B : Nat) (mb : Gt) (w : World) (v : V) (hv : leaf v) (hf : fine v) (t : TypeId) (x : Value) (h : RepM mb (· < B) w (.iface t x) (.val v)) : ShowsK B w t x (txV v) := by
  cases v with
  | atom a =>
    rw [txV]
    exact showsK_atom B w a hf t x h.atom_inv.symm
  | pair a b => exact absurd rfl (hv a b)
  | basic i =>
    obtain ⟨b, l, m, cs, T, e, hb, hh⟩ := h.basic_cells
    cases e
    exact showsK_proc B w 111 b l m cs T hb hh fun l m w => shown111 b l m w
  | clo k body env =>
    obtain ⟨b, l, m, cs, T, e, hb, hh⟩ := h.clo_cells
    cases e
    exact showsK_proc B w 226 b l m cs T hb hh fun l m w => shown226 b l m w
  | cont todo =>
    obtain ⟨b, l, m, cs, T, e, hb, hh⟩ := h.cont_cells
    cases e
    exact showsK_proc B w 258 b l m cs T hb hh fun l m w => shown258 b l m w
theorem RepM.no146 {t : Gt} {ok : Nat → Prop} {w : World} {y : Value} {v : V} (h : RepM t ok w y (.val v)) (hn : v ≠ .atom .empty) : ∃ k z, y = .iface k z ∧ k ≠ 146 := by
  cases h with
  | atom a => cases a <;> first | exact ⟨_, _, rfl, by decide⟩ | exact absurd rfl hn
  | pair => exact ⟨_, _, rfl, by decide⟩
  | basic0 => exact ⟨_, _, rfl, by decide⟩
  | basic1 => exact ⟨_, _, rfl, by decide⟩
  | clo => exact ⟨_, _, rfl, by decide⟩
  | cont => exact ⟨_, _, rfl, by decide⟩
/-- What stands behind the first value, and behind the last. -/
def txL : List V → List UInt8
  | [] => []
  | v :: vs => 32 :: (txV v ++ txL vs)
def txE (e : V) : List UInt8 := txR e
theorem txE_leaf {e : V} (h : leaf e) (hn : e ≠ .atom .empty) : txE e = [32, 46, 32] ++ (txV e ++ [41]) := by
  cases e with
  | atom a => cases a <;> first | rfl | exact absurd rfl hn
  | pair a b => exact absurd rfl (h a b)
  | _ => rfl
theorem txL_snoc : ∀ (ds : List V) (d : V), txL (ds ++ [d]) = txL ds ++ 32 :: txV d
  | [], d => by simp [txL]
  | e :: ds, d => by
    rw [List.cons_append, txL, txL_snoc ds d, txL]
    simp
theorem txL_app (a b : List V) : txL (a ++ b) = txL a ++ txL b := by
  induction a with
  | nil => simp [txL]
  | cons d a ih => rw [List.cons_append, txL, ih, txL]; simp
theorem txR_listE {e : V} : ∀ (ns : List V), txR (listE e ns) = txL ns ++ txE e
  | [] => by rw [listE, txL]; rfl
  | n :: ns => by rw [listE, txR, txR_listE ns, txL]; simp
theorem txV_listE (e : V) (m : V) (ns : List V) : txV (listE e (m :: ns)) = 40 :: (txV m ++ (txL ns ++ txE e)) := by rw [listE, txV, txR_listE]
theorem listE_consK (en : V) (d : V) (ds : List V) : listE en (d :: ds) = .pair d (listE en ds) := rfl
theorem tail_assertK {mb : Gt} {ok : Nat → Prop} {w : World} {t : TypeId} {x : Value} {en : V} (hl : leaf en) {ns : List V} (h : RepM mb ok w (.iface t x) (.val (listE en ns))) :
    ∃ P M, (∀ w, (Instr.typeAssert (.iface t x) 60 124 true).run Tryz.prog w = .ok (.tuple #[P, .bool M]) w) ∧ ((ns = [] ∧ P = .pointer none ∧ M = false) ∨ ∃ b, Value.iface t x = .iface 124 (ptrV b) ∧ P = ptrV b ∧ M = true ∧ ns ≠ []) := by
  cases ns with
  | nil =>
    obtain ⟨k, z, e, hk⟩ := h.no124 hl
    cases e
    exact ⟨_, _, fun w => ta_miss124 t x w hk, Or.inl ⟨rfl, rfl, rfl⟩⟩
  | cons m ns =>
    rw [listE_consK] at h
    obtain ⟨b, y, z, T, e, _⟩ := h.pair_inv
    cases e
    exact ⟨_, _, fun w => ta_hit124 (ptrV b) w, Or.inr ⟨b, rfl, rfl, rfl, by simp⟩⟩
/-- Where the loop of a pair's AppendShown stands. -/
structure ShowingK (B : Nat) (mb : Gt) (n : Nat) (xs : List Value) (txt : List UInt8) (ns : List V) (en : V) (w : World) (k : Nat) (v1 v5 v6 v7 : Value) (wr : World) (done todo : List V) : Prop where
  parts : ns = done ++ todo
  count : k = todo.length
  rep : RepM mb (· < B) wr v5 (.val (listE en todo))
  own : wr.ownsRow B 5 1 v1 (n + (txt ++ txL done).length) (xs ++ Lib.byteCells (txt ++ txL done))
  below : Below B w wr
  more : (todo = [] ∧ v6 = .pointer none ∧ v7 = .bool false) ∨ ∃ b, v5 = .iface 124 (ptrV b) ∧ v6 = ptrV b ∧ v7 = .bool true ∧ todo ≠ []
set_option maxHeartbeats 8000000 in
set_option maxRecDepth 20000 in
theorem app_pairK (B : Nat) (mb : Gt) (n b : Nat) (m0 : V) (ns : List V) (en : V) (hen : leaf en) (sv : Value) (xs : List Value) (w : World) (ho : w.ownsRow B 5 1 sv n xs) (hB : B ≤ w.heap.size) (hl : n + (40 :: (txV m0 ++ (txL ns ++ txE en))).length + 21 ≤ 1000000) (htab : Tab B w)
    (HSE : ∀ W t x, Below B w W → RepM mb (· < B) W (.iface t x) (.val en) → ShowsK B W t x (txV en))
    (HS0 : ∀ d ∈ m0 :: ns, ∀ W t x, Below B w W → RepM mb (· < B) W (.iface t x) (.val d) → ShowsK B W t x (txV d))
    (hx : RepM mb (· < B) w (.iface 124 (ptrV b)) (.val (listE en (m0 :: ns)))) :
    Calls Tryz.prog 207 #[ptrV b, sv] w (AppR B n xs (40 :: (txV m0 ++ (txL ns ++ txE en))) w) := by
  obtain ⟨i0, hi, hz0, hz1, hz2⟩ := info_parts Tryz.info5
  have hlen : n + 1 + (txV m0).length + (txL ns).length + (txE en).length + 21 ≤ 1000000 := by simp only [List.length_cons, List.length_append] at hl; omega
  clear hl
  rw [listE_consK] at hx
  obtain ⟨bb, y, z, T, hbb, hbB, hh, h1, h2⟩ := hx.pair_inv
  cases hbb
  obtain ⟨ty, xy, rfl⟩ := h1.iface
  obtain ⟨tz, xz, rfl⟩ := h2.iface
  obtain ⟨q0, q1, _, _⟩ := cells2 hh
  obtain ⟨oA, hBA, hbA⟩ := own_byte B n sv xs w 40 ho hB
  have HO : Hid ((w.alloc (.cells #[.int .u8 (40 : UInt8).toNat] 5)).ownsRow B 5 1 sv n xs) := oA
  obtain ⟨fn, r, sh, hent, hfn⟩ := HS0 m0 (List.mem_cons_self ..) w ty xy (Below.refl B w) h1
  have HSD : Hid (∀ d ∈ m0 :: ns, ∀ W t x, Below B w W → RepM mb (· < B) W (.iface t x) (.val d) → ShowsK B W t x (txV d)) := HS0
  have HSX : Hid (∀ W t x, Below B w W → RepM mb (· < B) W (.iface t x) (.val en) → ShowsK B W t x (txV en)) := HSE
  have HSH := (show Hid _ from sh)
  clear HS0 HSE sh
  obtain ⟨a, k, c, rfl⟩ := owns_slice ho
  have HN : Hid (∀ W sv', W.ownsRow B 5 1 sv' (n + 1) (xs ++ Lib.byteCells [40]) → Below B w W → Calls Tryz.prog fn #[r, sv'] W (AppR B (n + 1) (xs ++ Lib.byteCells [40]) (txV m0) W)) := fun W sv' h hb => hfn W (n + 1) sv' _ hb h (Nat.le_trans hB hb.size) (htab.on hb) (by omega)
  have HG := (show Hid _ from fun (w' : World) hg => hbA.trans (own_grown (w' := w') oA hBA hg))
  have HK : Hid (∀ W, Below B w W → W.cell? ⟨b, 0, none⟩ = some (.iface ty xy) ∧ W.cell? ⟨b, 1, none⟩ = some (.iface tz xz) ∧ RepM mb (· < B) W (.iface tz xz) (.val (listE en ns))) := fun W hb => by
    have hat : W.heap[b]? = some (.cells #[.iface ty xy, .iface tz xz] T (0, 0)) := (hb.block b hbB).trans hh
    exact ⟨cell_of_at hat 0, cell_of_at hat 1, h2.mono (below_keeps hb)⟩
  obtain ⟨P, M, hta, hPM⟩ := tail_assertK hen h2
  have HPM := (show Hid _ from hPM)
  clear ho oA hx hh h1 h2 hbA hPM hfn
  unfold ptrV
  go_enter Tryz.func207, Tryz.ntmps207
  go_wp2_with (at_builtin; refine wpList_append_own_at _ rfl _ _ 58 rfl B 5 i0 (.int .u8 0) 1 1 Tryz.underlying58 hi hz0 hz1 hz2 rfl (by decide) (.slice a k c) n xs rfl ?h1 ⟨w.heap.size, 0, none⟩ 1 1 [.int .u8 40] rfl rfl ?h2 ?h3 ?h4 ?h5 ?h6 ?_)
  case h1 => exact HO.out
  case h2 => exact cell_one_new _ _ _
  case h3 => intro u hu; simp at hu; subst hu; rfl
  case h4 => unfold maxLen; omega
  case h5 => omega
  case h6 => exact hBA
  intro v1 w1 ho1 hg1 _ _
  have hb1 := HG.out _ hg1
  have HO1 : Hid (w1.ownsRow B 5 1 v1 (n + 1) (xs ++ Lib.byteCells [40])) := ho1
  obtain ⟨a1, k1, c1, rfl⟩ := owns_slice ho1
  obtain ⟨e0, e1, _⟩ := HK.out _ hb1
  have sh1 := HSH.out _ hb1
  clear ho1 hg1
  go_wp2_with fail
  refine (HN.out _ _ HO1.out hb1).mono ?_
  rintro e2 w2 ⟨v2, rfl, ho2, hb2⟩
  have HO2 : Hid (w2.ownsRow B 5 1 v2 (n + 1 + (txV m0).length) (xs ++ Lib.byteCells [40] ++ Lib.byteCells (txV m0))) := ho2
  obtain ⟨a2, k2, c2, rfl⟩ := owns_slice ho2
  clear ho2
  have hb02 := hb1.trans hb2
  obtain ⟨f0, f1, f2⟩ := HK.out _ hb02
  have HF2 : Hid (RepM mb (· < B) w2 (.iface tz xz) (.val (listE en ns))) := f2
  clear f2
  go_wp2_with fail
  have HO2' : Hid (w2.ownsRow B 5 1 (.slice a2 k2 c2) (n + (40 :: txV m0 ++ txL []).length) (xs ++ Lib.byteCells (40 :: txV m0 ++ txL []))) := by
    have := HO2.out
    rw [List.append_assoc, ← Lib.byteCells_append, Nat.add_assoc] at this
    show w2.ownsRow B 5 1 (.slice a2 k2 c2) (n + (40 :: txV m0 ++ txL []).length) (xs ++ Lib.byteCells (40 :: txV m0 ++ txL []))
    rw [show txL [] = [] by rw [txL], List.append_nil, List.length_cons, Nat.add_comm (txV m0).length 1]
    exact this
  go_loopg [1, 5, 6, 7] ns.length (fun k v1 v5 v6 v7 wr => ∃ done todo, ShowingK B mb n xs (40 :: txV m0) ns en w k v1 v5 v6 v7 wr done todo)
  case atStart =>
    refine ⟨[], ns, rfl, rfl, HF2.out, HO2'.out, hb02, ?_⟩
    rcases HPM.out with ⟨h1, h2, h3⟩ | ⟨b, h1, h2, h3, h4⟩
    · exact Or.inl ⟨h1, h2, by rw [h3]⟩
    · exact Or.inr ⟨b, h1, h2, by rw [h3], h4⟩
  case round =>
    obtain ⟨done, todo, hS⟩ := hrel
    have hdl : (txL done).length + (txL todo).length = (txL ns).length := by rw [hS.parts, txL_app, List.length_append]
    clear HF2 HO2 HO2' HPM HN HK HG HO HO1 HSH sh1 hent
    rcases hS.more with ⟨rfl, rfl, rfl⟩ | ⟨b, rfl, rfl, rfl, hne⟩
    · obtain ⟨hp, hk, hrep, hown, hbel, _⟩ := hS
      rw [List.append_nil] at hp
      subst hp
      generalize hX : 40 :: txV m0 ++ txL ns = X at hown
      have hXL : X.length ≤ 1 + (txV m0).length + (txL ns).length := by rw [← hX]; simp; omega
      have hBr : B ≤ wr.heap.size := Nat.le_trans hB hbel.size
      have hA0 : Below B wr (wr.alloc (.cells #[] 146)) := (Below.refl B wr).alloc hBr _
      by_cases hem : en = .atom .empty
      · subst hem
        obtain rfl : u5 = aV .empty := hrep.atom_inv
        have hit := fun w => ta_hit146 (.agg #[]) w
        obtain ⟨oA, hBA2, hbA⟩ := own_byte B (n + X.length) u1 (xs ++ Lib.byteCells X) (wr.alloc (.cells #[] 146)) 41 (hown.alloc _) (by simp; omega)
        have HG2 : Hid (∀ w' v', ((wr.alloc (.cells #[] 146)).alloc (.cells #[.int .u8 41] 5)).grownBy w' u1.ownBlock → w'.ownsRow B 5 1 v' (n + X.length + 1) (xs ++ Lib.byteCells X ++ [.int .u8 41]) → AppR B n xs (40 :: (txV m0 ++ (txL ns ++ txE (.atom .empty)))) w (.returned v') w') := fun w' v' hg ho' => by
          refine ⟨v', rfl, ?_, hbel.trans (hA0.trans (hbA.trans (own_grown (w' := w') oA hBA2 hg)))⟩
          have e1 : 40 :: (txV m0 ++ (txL ns ++ txE (.atom .empty))) = X ++ [41] := by rw [← hX]; simp [txE, txR]
          rw [e1, Lib.byteCells_append, List.length_append, ← List.append_assoc, ← Nat.add_assoc]
          exact ho'
        have HOA : Hid (((wr.alloc (.cells #[] 146)).alloc (.cells #[.int .u8 (41 : UInt8).toNat] 5)).ownsRow B 5 1 u1 (n + X.length) (xs ++ Lib.byteCells X)) := oA
        obtain ⟨a3, k3, c3, rfl⟩ := owns_slice hown
        clear hrep hown hX oA hbA hA0
        simp only [aV]
        go_wp2_with (at_builtin; refine wpList_append_own_at _ rfl _ _ 58 rfl B 5 i0 (.int .u8 0) 1 1 Tryz.underlying58 hi hz0 hz1 hz2 rfl (by decide) (.slice a3 k3 c3) (n + X.length) (xs ++ Lib.byteCells X) rfl ?ia1 ⟨wr.heap.size + 1, 0, none⟩ 1 1 [.int .u8 41] rfl rfl ?ia2 ?ia3 ?ia4 ?ia5 ?ia6 ?_)
        case ia1 => exact HOA.out
        case ia3 => rfl
        case ia4 => unfold maxLen; omega
        case ia5 => omega
        case ia6 => first | omega | (simp; omega)
        intro v9 w9 ho9 hg9 _ _
        rw [← List.append_assoc] at ho9
        have HF := (show Hid _ from HG2.out _ _ hg9 ho9)
        obtain ⟨a9, k9, c9, rfl⟩ := owns_slice ho9
        clear ho9 hg9
        go_wp2
        go_ret
        exact HF.out
      · obtain ⟨te, xe, rfl, hte⟩ := hrep.no146 hem
        have hmiss := fun w => ta_miss146 te xe w hte
        obtain ⟨fn3, r3, sh3, hent3, hfn3⟩ := HSX.out wr te xe hbel hrep
        have HSH3 := (show Hid _ from sh3)
        clear sh3
        have hEL : txE en = [32, 46, 32] ++ (txV en ++ [41]) := txE_leaf hen hem
        have hEL2 : (txE en).length = 3 + (txV en).length + 1 := by rw [hEL]; simp; omega
        have oW := hown.alloc (.cells #[] 146)
        have HOW : Hid ((wr.alloc (.cells #[] 146)).ownsRow B 5 1 u1 (n + X.length) (xs ++ Lib.byteCells X)) := oW
        have HGW : Hid (∀ w', (wr.alloc (.cells #[] 146)).grownBy w' u1.ownBlock → Below B wr w') := fun w' hg => hA0.trans (own_grown (w' := w') oW (by simp; omega) hg)
        have HN3 : Hid (∀ W sv', W.ownsRow B 5 1 sv' (n + X.length + 3) (xs ++ Lib.byteCells X ++ Lib.byteCells [32, 46, 32]) → Below B wr W → Calls Tryz.prog fn3 #[r3, sv'] W (AppR B (n + X.length + 3) (xs ++ Lib.byteCells X ++ Lib.byteCells [32, 46, 32]) (txV en) W)) := fun W sv' h hb => hfn3 W (n + X.length + 3) sv' _ hb h (Nat.le_trans hBr hb.size) ((htab.on hbel).on hb) (by omega)
        have HFIN : Hid (∀ w' v', Below B wr w' → w'.ownsRow B 5 1 v' (n + X.length + 3 + (txV en).length + 1) (xs ++ Lib.byteCells X ++ Lib.byteCells [32, 46, 32] ++ Lib.byteCells (txV en) ++ [.int .u8 41]) → AppR B n xs (40 :: (txV m0 ++ (txL ns ++ txE en))) w (.returned v') w') := fun w' v' hb ho' => by
          refine ⟨v', rfl, ?_, hbel.trans hb⟩
          have e1 : 40 :: (txV m0 ++ (txL ns ++ txE en)) = X ++ ([32, 46, 32] ++ (txV en ++ [41])) := by rw [← hX, hEL]; simp
          have e2 : n + (40 :: (txV m0 ++ (txL ns ++ txE en))).length = n + X.length + 3 + (txV en).length + 1 := by rw [e1]; simp; omega
          rw [e2, e1, Lib.byteCells_append, Lib.byteCells_append, Lib.byteCells_append, ← List.append_assoc, ← List.append_assoc, ← List.append_assoc]
          exact ho'
        obtain ⟨a3, k3, c3, rfl⟩ := owns_slice hown
        have hla : n + X.length + 3 + (txV en).length + 1 + 17 ≤ 1000000 := by omega
        clear hrep hown hX hA0 oW hfn3 hEL hEL2 HSD HSX
        go_wp2_with (at_builtin; refine Lib.wpList_append_own_string _ rfl _ _ 58 9 rfl B 5 i0 Tryz.underlying58 Tryz.underlying9 hi hz0 hz1 hz2 (.slice a3 k3 c3) (n + X.length) (xs ++ Lib.byteCells X) rfl HOW.out ⟨#[32, 46, 32]⟩ rfl ?ka3 ?ka4 ?ka5 ?_)
        case ka3 => first | omega | (unfold maxLen; omega) | (unfold maxLen; show n + X.length + 3 ≤ _; omega)
        case ka4 => first | omega | (show n + X.length + 3 ≤ _; omega)
        case ka5 => first | omega | (simp; omega)
        intro v5' w5 ho5 hg5 _
        have hb5 := HGW.out _ hg5
        rw [← List.append_assoc] at ho5
        have HO5 : Hid (w5.ownsRow B 5 1 v5' (n + X.length + 3) (xs ++ Lib.byteCells X ++ Lib.byteCells [32, 46, 32])) := ho5
        obtain ⟨a5, k5, c5, rfl⟩ := owns_slice ho5
        have sh3 := HSH3.out _ hb5
        clear ho5 hg5
        go_wp2_with fail
        refine (HN3.out _ _ HO5.out hb5).mono ?_
        rintro e6 w6 ⟨v6, rfl, ho6, hb6⟩
        have hb56 := hb5.trans hb6
        have hB6 : B ≤ w6.heap.size := Nat.le_trans hBr hb56.size
        obtain ⟨oA6, hBA6, hbA6⟩ := own_byte B _ v6 _ w6 41 ho6 hB6
        have HOA6 : Hid ((w6.alloc (.cells #[.int .u8 (41 : UInt8).toNat] 5)).ownsRow B 5 1 v6 (n + X.length + 3 + (txV en).length) (xs ++ Lib.byteCells X ++ Lib.byteCells [32, 46, 32] ++ Lib.byteCells (txV en))) := oA6
        have HG6 : Hid (∀ w', (w6.alloc (.cells #[.int .u8 41] 5)).grownBy w' v6.ownBlock → Below B wr w') := fun w' hg => hb56.trans (hbA6.trans (own_grown (w' := w') oA6 hBA6 hg))
        obtain ⟨a6, k6, c6, rfl⟩ := owns_slice ho6
        clear ho6 oA6 hbA6
        go_wp2_with (at_builtin; refine wpList_append_own_at _ rfl _ _ 58 rfl B 5 i0 (.int .u8 0) 1 1 Tryz.underlying58 hi hz0 hz1 hz2 rfl (by decide) (.slice a6 k6 c6) (n + X.length + 3 + (txV en).length) (xs ++ Lib.byteCells X ++ Lib.byteCells [32, 46, 32] ++ Lib.byteCells (txV en)) rfl ?la1 ⟨w6.heap.size, 0, none⟩ 1 1 [.int .u8 41] rfl rfl ?la2 ?la3 ?la4 ?la5 ?la6 ?_)
        case la1 => exact HOA6.out
        case la2 => exact cell_one_new _ _ _
        case la3 => intro u hu; simp at hu; subst hu; rfl
        case la4 => first | omega | (unfold maxLen; omega)
        case la5 => omega
        case la6 => first | exact hBA6 | omega | (simp; omega)
        intro v9 w9 ho9 hg9 _ _
        simp only [← List.append_assoc] at ho9
        have HF : Hid (AppR B n xs (40 :: (txV m0 ++ (txL ns ++ txE en))) w (.returned v9) w9) := HFIN.out _ _ (HG6.out _ hg9) ho9
        obtain ⟨a9, k9, c9, rfl⟩ := owns_slice ho9
        clear ho9 hg9
        go_wp2
        go_ret
        exact HF.out
    · obtain ⟨m, todo, rfl⟩ : ∃ m t, todo = m :: t := by
        cases todo with
        | nil => exact absurd rfl hne
        | cons m t => exact ⟨m, t, rfl⟩
      obtain ⟨hp, hk, hrep, hown, hbel, _⟩ := hS
      rw [listE_consK] at hrep
      obtain ⟨bb, y, z, T2, e, hbB2, hh, h1, h2⟩ := hrep.pair_inv
      cases e
      obtain ⟨ty2, xy2, rfl⟩ := h1.iface
      obtain ⟨tz2, xz2, rfl⟩ := h2.iface
      have hm : m ∈ m0 :: ns := by rw [hp]; simp
      obtain ⟨fn2, r2, sh2, hent2, hfn2⟩ := HSD.out m hm wr ty2 xy2 hbel h1
      have HSH2 := (show Hid _ from sh2)
      clear sh2
      have hml : (txL (m :: todo)).length = 1 + (txV m).length + (txL todo).length := by rw [txL]; simp; omega
      generalize hX : 40 :: txV m0 ++ txL done = X at hown
      have hXL : X.length ≤ 1 + (txV m0).length + (txL done).length := by rw [← hX]; simp; omega
      have hBr : B ≤ wr.heap.size := Nat.le_trans hB hbel.size
      obtain ⟨oA, hBA2, hbA⟩ := own_byte B (n + X.length) u1 (xs ++ Lib.byteCells X) wr 32 hown hBr
      have HOA : Hid ((wr.alloc (.cells #[.int .u8 (32 : UInt8).toNat] 5)).ownsRow B 5 1 u1 (n + X.length) (xs ++ Lib.byteCells X)) := oA
      have HG2 := (show Hid _ from fun (w' : World) hg => hbA.trans (own_grown (w' := w') oA hBA2 hg))
      have HK2 : Hid (∀ W, Below B wr W → W.cell? ⟨b, 0, none⟩ = some (.iface ty2 xy2) ∧ W.cell? ⟨b, 1, none⟩ = some (.iface tz2 xz2) ∧ RepM mb (· < B) W (.iface tz2 xz2) (.val (listE en todo))) := fun W hb => by
        have hat : W.heap[b]? = some (.cells #[.iface ty2 xy2, .iface tz2 xz2] T2 (0, 0)) := (hb.block b hbB2).trans hh
        exact ⟨cell_of_at hat 0, cell_of_at hat 1, h2.mono (below_keeps hb)⟩
      have HN2 : Hid (∀ W sv', W.ownsRow B 5 1 sv' (n + X.length + 1) (xs ++ Lib.byteCells X ++ [.int .u8 32]) → Below B wr W → Calls Tryz.prog fn2 #[r2, sv'] W (AppR B (n + X.length + 1) (xs ++ Lib.byteCells X ++ [.int .u8 32]) (txV m) W)) := fun W sv' h hb => hfn2 W (n + X.length + 1) sv' _ hb h (Nat.le_trans hBr hb.size) ((htab.on hbel).on hb) (by omega)
      obtain ⟨P2, M2, hta2, hPM2⟩ := tail_assertK hen h2
      have HPM2 := (show Hid _ from hPM2)
      have HR : Hid (∀ W v, Below B wr W → W.ownsRow B 5 1 v (n + X.length + 1 + (txV m).length) (xs ++ Lib.byteCells X ++ [.int .u8 32] ++ Lib.byteCells (txV m)) → ∃ d t, ShowingK B mb n xs (40 :: txV m0) ns en w todo.length v (.iface tz2 xz2) P2 (.bool M2) W d t) := fun W v hb ho' => by
        refine ⟨done ++ [m], todo, by rw [hp]; simp, rfl, (HK2.out W hb).2.2, ?_, hbel.trans hb, ?_⟩
        · have e1 : 40 :: txV m0 ++ txL (done ++ [m]) = X ++ ([32] ++ txV m) := by rw [txL_snoc, ← hX]; simp
          rw [e1, Lib.byteCells_append, Lib.byteCells_append, List.length_append, List.length_append, ← List.append_assoc, ← List.append_assoc, ← Nat.add_assoc, ← Nat.add_assoc]
          exact ho'
        · rcases HPM2.out with ⟨e1, e2, e3⟩ | ⟨b, e1, e2, e3, e4⟩
          · exact Or.inl ⟨e1, e2, by rw [e3]⟩
          · exact Or.inr ⟨b, e1, e2, by rw [e3], e4⟩
      obtain ⟨a3, k3, c3, rfl⟩ := owns_slice hown
      have hkk : todo.length < gk := by rw [hk]; simp
      clear hrep hown hX oA hbA hPM2 h1 h2 hh hne hp hk hfn2
      unfold ptrV
      go_wp2_with (at_builtin; refine wpList_append_own_at _ rfl _ _ 58 rfl B 5 i0 (.int .u8 0) 1 1 Tryz.underlying58 hi hz0 hz1 hz2 rfl (by decide) (.slice a3 k3 c3) (n + X.length) (xs ++ Lib.byteCells X) rfl ?ja1 ⟨wr.heap.size, 0, none⟩ 1 1 [.int .u8 32] rfl rfl ?ja2 ?ja3 ?ja4 ?ja5 ?ja6 ?_)
      case ja1 => exact HOA.out
      case ja3 => rfl
      case ja4 => unfold maxLen; omega
      case ja5 => omega
      case ja6 => first | omega | (simp; omega)
      intro v9 w9 ho9 hg9 _ _
      rw [← List.append_assoc] at ho9
      have hb9 := HG2.out _ hg9
      have HO9 : Hid (w9.ownsRow B 5 1 v9 (n + X.length + 1) (xs ++ Lib.byteCells X ++ [.int .u8 32])) := ho9
      obtain ⟨a9, k9, c9, rfl⟩ := owns_slice ho9
      obtain ⟨d0, d1, _⟩ := HK2.out _ hb9
      have sh2 := HSH2.out _ hb9
      clear ho9 hg9
      go_wp2_with fail
      refine (HN2.out _ _ HO9.out hb9).mono ?_
      rintro e8 w8 ⟨v8, rfl, ho8, hb8⟩
      have hb98 := hb9.trans hb8
      have HR8 : Hid (∃ d t, ShowingK B mb n xs (40 :: txV m0) ns en w todo.length v8 (.iface tz2 xz2) P2 (.bool M2) w8 d t) := HR.out _ _ hb98 ho8
      obtain ⟨a8, k8, c8, rfl⟩ := owns_slice ho8
      clear ho8
      obtain ⟨f0', f1', _⟩ := HK2.out _ hb98
      go_wp2_with fail
      go_roundg todo.length
      case measure => exact hkk
      case rel => exact HR8.out
/-- Any value is a list with a leaf behind it. -/
theorem spine : ∀ v : V, ∃ en ns, v = listE en ns ∧ leaf en
  | .pair h t => by
    obtain ⟨en, ns, e, hl⟩ := spine t
    exact ⟨en, h :: ns, by rw [listE, e], hl⟩
  | .atom a => ⟨_, [], rfl, fun _ _ e => by cases e⟩
  | .basic i => ⟨_, [], rfl, fun _ _ e => by cases e⟩
  | .clo k b e => ⟨_, [], rfl, fun _ _ e => by cases e⟩
  | .cont t => ⟨_, [], rfl, fun _ _ e => by cases e⟩
def zV : V → Nat
  | .pair h t => 1 + zV h + zV t
  | _ => 1
theorem zV_pos : ∀ v, 1 ≤ zV v
  | .pair h t => by rw [zV]; omega
  | .atom _ => Nat.le_refl _
  | .basic _ => Nat.le_refl _
  | .clo .. => Nat.le_refl _
  | .cont _ => Nat.le_refl _
theorem zV_mem (en : V) : ∀ (ns : List V), ∀ v, v ∈ ns → zV v < zV (listE en ns)
  | [], v, h => by cases h
  | n :: ns, v, h => by
    rw [listE, zV]
    rcases List.mem_cons.1 h with rfl | h
    · have := zV_pos (listE en ns)
      omega
    · have := zV_mem en ns v h
      omega
theorem fine_spine {e : V} : ∀ {vs : List V}, fine (listE e vs) → fine e ∧ ∀ v, v ∈ vs → fine v
  | [], h => ⟨h, fun v hv => by cases hv⟩
  | v :: vs, h => by
    rw [listE, fine] at h
    obtain ⟨h1, h2⟩ := fine_spine h.2
    exact ⟨h1, fun u hu => by
      rcases List.mem_cons.1 hu with rfl | hu
      · exact h.1
      · exact h2 u hu⟩
theorem shown124k (b : Nat) (w : World) : Sem.run Tryz.prog (method 400 124 (ptrV b) "AppendShown") w = .ok (207, ptrV b) w := shown124 b w
/-- Any value shows itself as its text. -/
theorem showsK_all (B : Nat) (mb : Gt) : ∀ (k : Nat) (v : V) (w : World) (t : TypeId) (x : Value), zV v ≤ k → fine v → RepM mb (· < B) w (.iface t x) (.val v) → ShowsK B w t x (txV v) := by
  intro k
  induction k with
  | zero => intro v w t x h; have := zV_pos v; omega
  | succ k ih =>
    intro v w t x hk hf hx
    obtain ⟨en, ns, rfl, hl⟩ := spine v
    obtain ⟨f1, f2⟩ := fine_spine hf
    cases ns with
    | nil => exact showsK_leaf B mb w en hl f1 t x hx
    | cons d0 ds =>
      rw [txV_listE]
      have hx0 := hx
      rw [listE_consK] at hx
      obtain ⟨b, y, z, T, e, _⟩ := hx.pair_inv
      cases e
      refine ⟨207, ptrV b, fun w _ => shown124k b w, enter207, fun W n sv xs hb ho hB ht hll => ?_⟩
      exact app_pairK B mb n b d0 ds en hl sv xs W ho hB hll ht (fun W' t x _ hr => showsK_leaf B mb W' en hl f1 t x hr) (fun d hd W' t x _ hr => ih d W' t x (by have := zV_mem en _ d hd; omega) (f2 d hd) hr) (hx0.mono (below_keeps hb))
end Kc
end Go.Proofs.YtodeeegbajgafaaGreatDoor

namespace Go.Proofs.YtodeeegbajgafaaGreatDoor
namespace Kc
open Go.RowKit
theorem partsLeft_le : ∀ (v : V) (p : Int), partsLeft p v ≤ p - 1
  | .pair h t, p => by
    rw [partsLeft]
    split
    · have h1 := partsLeft_le h (p - 1)
      have h2 := partsLeft_le t (partsLeft (p - 1) h)
      omega
    · exact Int.le_refl _
  | .atom _, p => Int.le_refl _
  | .basic _, p => Int.le_refl _
  | .clo .., p => Int.le_refl _
  | .cont _, p => Int.le_refl _
theorem partsLeft_neg (v : V) (p : Int) (hp : p - 1 < 0) : partsLeft p v = p - 1 := by
  cases v with
  | pair a b => rw [partsLeft, if_neg (by omega)]
  | _ => rfl
theorem partsLeft_ge : ∀ (v : V) (p : Int), 0 ≤ p → -p - 1 ≤ partsLeft p v
  | .pair h t, p, hp => by
    rw [partsLeft]
    split
    · have h1 := partsLeft_ge h (p - 1) (by omega)
      have h3 := partsLeft_le h (p - 1)
      by_cases h4 : 0 ≤ partsLeft (p - 1) h
      · have h2 := partsLeft_ge t (partsLeft (p - 1) h) h4
        omega
      · rw [partsLeft_neg t _ (by omega)]
        omega
    · omega
  | .atom _, p, _ => by show _ ≤ p - 1; omega
  | .basic _, p, _ => by show _ ≤ p - 1; omega
  | .clo .., p, _ => by show _ ≤ p - 1; omega
  | .cont _, p, _ => by show _ ≤ p - 1; omega
theorem partsLeft_eq : ∀ (v : V) (p : Int), 0 ≤ partsLeft p v → partsLeft p v = p - (zV v : Nat)
  | .pair h t, p, hp => by
    rw [partsLeft] at hp ⊢
    split at hp
    · rename_i h0
      rw [if_pos h0]
      have h1 := partsLeft_eq t (partsLeft (p - 1) h) hp
      have h2 := partsLeft_le t (partsLeft (p - 1) h)
      have h3 := partsLeft_eq h (p - 1) (by omega)
      rw [h1, h3, zV]
      omega
    · omega
  | .atom _, p, _ => rfl
  | .basic _, p, _ => rfl
  | .clo .., p, _ => rfl
  | .cont _, p, _ => rfl
theorem txA_len (a : Rd.A) (h : fineA a) : (txA a).length ≤ 500 := by
  cases a with
  | num n =>
    have := Lib.itoa_length_le n h.1 h.2
    show (Lib.itoa n).length ≤ 500
    omega
  | truth b => cases b <;> simp [txA]
  | sym l => exact h
  | empty => simp [txA]
theorem tx_len : ∀ (v : V), fine v → (txV v).length ≤ 510 * zV v ∧ (txR v).length ≤ 510 * zV v
  | .pair h t, hf => by
    rw [fine] at hf
    have h1 := tx_len h hf.1
    have h2 := tx_len t hf.2
    rw [txV, txR, zV]
    simp only [List.length_cons, List.length_append]
    omega
  | .atom a, hf => by
    have h1 := txA_len a hf
    have hz : zV (.atom a) = 1 := rfl
    rw [hz]
    constructor
    · rw [txV]; omega
    · cases a with
      | empty => simp [txR]
      | num n => simp only [txR, List.length_append, List.length_cons, List.length_nil]; omega
      | truth b => simp only [txR, List.length_append, List.length_cons, List.length_nil]; omega
      | sym l => simp only [txR, List.length_append, List.length_cons, List.length_nil]; omega
  | .basic _, _ => ⟨by simp [txV, zV, procT], by simp [txR, zV, procT]⟩
  | .clo .., _ => ⟨by simp [txV, zV, procT], by simp [txR, zV, procT]⟩
  | .cont _, _ => ⟨by simp [txV, zV, procT], by simp [txR, zV, procT]⟩
set_option maxHeartbeats 1000000 in
theorem parts_leafK (p : Int) (h0 : -1001 ≤ p) (h1 : p ≤ 1000) (t : TypeId) (z : Value) (ht : t ≠ 124) (w : World) : Calls Tryz.prog 114 #[.int .i64 p, .iface t z] w fun e w' => e = .returned (.int .i64 (p - 1)) ∧ w' = w := by
  have miss := fun w => ta_miss124 t z w ht
  go_enter Tryz.func114, Tryz.ntmps114
  go_wp2
  go_ret
  exact ⟨rfl, rfl⟩
set_option maxHeartbeats 1000000 in
theorem parts_negK (p : Int) (h0 : -1001 ≤ p) (h1 : p ≤ 0) (b : Nat) (w : World) : Calls Tryz.prog 114 #[.int .i64 p, .iface 124 (ptrV b)] w fun e w' => e = .returned (.int .i64 (p - 1)) ∧ w' = w := by
  have hit := fun w => ta_hit124 (.pointer (some ⟨b, 0, none⟩)) w
  have h2 : ¬ 0 ≤ p - 1 := by omega
  unfold ptrV
  go_enter Tryz.func114, Tryz.ntmps114
  go_wp2
  go_ret
  exact ⟨rfl, rfl⟩
set_option maxHeartbeats 4000000 in
set_option maxRecDepth 10000 in
theorem parts_pairK (mb : Gt) (ok : Nat → Prop) (a b : V) (w : World) (x : Value) (h : RepM mb ok w x (.val (.pair a b))) (q : Int) (r s : Int) (i1 : 0 ≤ q) (i3 : q ≤ 1000)
    (H1 : Hid (∀ (W : World) (y : Value), RepM mb ok W y (.val a) → Calls Tryz.prog 114 #[.int .i64 q, y] W fun e w' => e = .returned (.int .i64 r) ∧ Below W.heap.size W w'))
    (H2 : Hid (∀ (W : World) (y : Value), RepM mb ok W y (.val b) → Calls Tryz.prog 114 #[.int .i64 r, y] W fun e w' => e = .returned (.int .i64 s) ∧ Below W.heap.size W w')) :
    Calls Tryz.prog 114 #[.int .i64 (q + 1), x] w fun e w' => e = .returned (.int .i64 s) ∧ Below w.heap.size w w' := by
  obtain ⟨c, y, z, T, rfl, hb, hh, hy, hz⟩ := h.pair_inv
  obtain ⟨ty, xy, rfl⟩ := hy.iface
  obtain ⟨tz, xz, rfl⟩ := hz.iface
  obtain ⟨q0, q1, _, _⟩ := cells2 hh
  have HY : Hid (RepM mb ok w.drew (.iface ty xy) (.val a)) := hy.mono fun _ _ ho => ⟨ho, rfl⟩
  have HZ : Hid (∀ W, Below w.heap.size w W → RepM mb ok W (.iface tz xz) (.val b)) := fun W hW => hz.mono fun k hk ho => ⟨ho, hW.block k hk⟩
  have hit := fun w => ta_hit124 (.pointer (some ⟨c, 0, none⟩)) w
  have i2 : -9223372036854775808 ≤ q := by omega
  have i4 : q ≤ 9223372036854775807 := by omega
  have HK : Hid (∀ W, Below w.heap.size w W → W.cell? ⟨c, 0, none⟩ = some (.iface ty xy) ∧ W.cell? ⟨c, 1, none⟩ = some (.iface tz xz)) := fun W hb => ⟨(Kept.of_below hb (fun _ => False)).cell id q0, (Kept.of_below hb (fun _ => False)).cell id q1⟩
  clear h hh hy hz i3
  unfold ptrV
  go_enter Tryz.func114, Tryz.ntmps114
  go_wp2
  go_region_held3 (fun X => X.cell? ⟨c, 0, none⟩ = some (.iface ty xy) ∧ X.cell? ⟨c, 1, none⟩ = some (.iface tz xz)) (go_keep) (first | (go_at_call_of 114 (Value.iface ty xy); refine (H1.out _ _ HY.out).mono ?_; rintro e2 w2 ⟨rfl, hb2⟩; have hbw2 : Below w.heap.size w w2 := ((Below.refl _ w).drew).trans hb2; obtain ⟨z0, z1⟩ := HK.out _ hbw2) | (go_at_call_of 114 (Value.iface tz xz); refine (H2.out _ _ (HZ.out _ hbw2)).mono ?_; rintro e3 w3 ⟨rfl, hb3⟩; have hbw3 : Below w.heap.size w w3 := hbw2.trans (hb3.mono hbw2.size); obtain ⟨y0, y1⟩ := HK.out _ hbw3))
  all_goals
    go_wp2
    go_ret
    exact ⟨rfl, hbw3⟩
theorem parts_K (mb : Gt) (ok : Nat → Prop) : ∀ (v : V) (p : Int) (w : World) (x : Value), RepM mb ok w x (.val v) → -1001 ≤ p → p ≤ 1000 →
    Calls Tryz.prog 114 #[.int .i64 p, x] w fun e w' => e = .returned (.int .i64 (partsLeft p v)) ∧ Below w.heap.size w w'
  | .pair a b, p, w, x, h, h0, h1 => by
    by_cases hq : 0 ≤ p - 1
    · obtain ⟨q, rfl⟩ : ∃ q, p = q + 1 := ⟨p - 1, by omega⟩
      have e0 : partsLeft (q + 1) (.pair a b) = partsLeft (partsLeft q a) b := by
        rw [partsLeft, if_pos hq, Int.add_sub_cancel]
      rw [e0]
      have g1 := partsLeft_ge a q (by omega)
      have g2 := partsLeft_le a q
      exact parts_pairK mb ok a b w x h q _ _ (by omega) (by omega) (fun W y hy => parts_K mb ok a q W y hy (by omega) (by omega)) (fun W y hy => parts_K mb ok b _ W y hy (by omega) (by omega))
    · rw [partsLeft_neg _ _ (by omega)]
      obtain ⟨c, y, z, T, rfl, _⟩ := h.pair_inv
      exact (parts_negK p h0 (by omega) c w).mono fun e w' ⟨he, hw⟩ => ⟨he, hw ▸ Below.refl _ _⟩
  | .atom a, p, w, x, h, h0, h1 => by
    obtain ⟨k, z, rfl, hk⟩ := h.no124 (fun _ _ e => by cases e)
    exact (parts_leafK p h0 h1 k z hk w).mono fun e w' ⟨he, hw⟩ => ⟨he, hw ▸ Below.refl _ _⟩
  | .basic i, p, w, x, h, h0, h1 => by
    obtain ⟨k, z, rfl, hk⟩ := h.no124 (fun _ _ e => by cases e)
    exact (parts_leafK p h0 h1 k z hk w).mono fun e w' ⟨he, hw⟩ => ⟨he, hw ▸ Below.refl _ _⟩
  | .clo .., p, w, x, h, h0, h1 => by
    obtain ⟨k, z, rfl, hk⟩ := h.no124 (fun _ _ e => by cases e)
    exact (parts_leafK p h0 h1 k z hk w).mono fun e w' ⟨he, hw⟩ => ⟨he, hw ▸ Below.refl _ _⟩
  | .cont _, p, w, x, h, h0, h1 => by
    obtain ⟨k, z, rfl, hk⟩ := h.no124 (fun _ _ e => by cases e)
    exact (parts_leafK p h0 h1 k z hk w).mono fun e w' ⟨he, hw⟩ => ⟨he, hw ▸ Below.refl _ _⟩
set_option maxHeartbeats 4000000 in
set_option maxRecDepth 20000 in
theorem show_yes (w : World) (t : TypeId) (y : Value) (txt : List UInt8) (r : Int) (hr : 0 ≤ r) (hl : txt.length ≤ 200000) (HP : Calls Tryz.prog 114 #[.int .i64 300, .iface t y] w fun e w' => e = .returned (.int .i64 r) ∧ Below w.heap.size w w')
    (hs : ShowsK w.heap.size w t y txt) (ht : Tab w.heap.size w) : Calls Tryz.prog 65 #[.iface t y] w (ShowR txt w) := by
  obtain ⟨fn, r', hm, hent, hfn⟩ := hs
  have HFN := (show Hid _ from hfn)
  have HM := (show Hid _ from hm)
  have HT : Hid (∀ W, Below w.heap.size w W → Tab w.heap.size W) := fun W hb => ht.on hb
  have hr' : ¬ r < 0 := by omega
  clear hfn ht hm
  go_enter Tryz.func65, Tryz.ntmps65
  go_wp2_with (first | (go_at_call 114; refine HP.mono ?_; rintro e2 w2 ⟨rfl, hb2⟩; have hm2 := HM.out _ hb2))
  refine (HFN.out w2 0 (.slice none 0 0) [] hb2 (own_none _ _) hb2.size (HT.out _ hb2) (by omega)).mono ?_
  rintro e3 w3 ⟨v3, rfl, ho3, hb3⟩
  simp only [Nat.zero_add, List.nil_append] at ho3
  have hcv := own_stringZ ho3
  obtain ⟨a3, k3, c3, rfl⟩ := owns_slice ho3
  clear ho3
  go_wp2
  go_ret2
  exact ⟨rfl, hb2.trans hb3⟩
set_option maxHeartbeats 4000000 in
set_option maxRecDepth 20000 in
theorem show_no (w : World) (t : TypeId) (y : Value) (r : Int) (hr : r < 0) (HP : Calls Tryz.prog 114 #[.int .i64 300, .iface t y] w fun e w' => e = .returned (.int .i64 r) ∧ Below w.heap.size w w') :
    Calls Tryz.prog 65 #[.iface t y] w fun e w' => e = .returned (.tuple #[.string ⟨#[]⟩, .bool false]) ∧ Below w.heap.size w w' := by
  go_enter Tryz.func65, Tryz.ntmps65
  go_wp2_with (first | (go_at_call 114; refine HP.mono ?_; rintro e2 w2 ⟨rfl, hb2⟩))
  go_ret2
  exact ⟨rfl, hb2⟩
/-- A value is shown, or has too many parts. -/
def ShowRK (r : Option (List UInt8)) (w : World) : Ending → World → Prop := match r with
  | some txt => ShowR txt w
  | none => fun e w' => e = .returned (.tuple #[.string ⟨#[]⟩, .bool false]) ∧ Below w.heap.size w w'
theorem show_K (mb : Gt) (ok : Nat → Prop) (v : V) (hf : fine v) (w : World) (x : Value) (h : RepM mb ok w x (.val v)) (ht : Tab w.heap.size w) : Calls Tryz.prog 65 #[x] w (ShowRK (showK v) w) := by
  obtain ⟨t, y, rfl⟩ := h.iface
  have HP := parts_K mb ok v 300 w (.iface t y) h (by omega) (by omega)
  unfold showK
  by_cases hp : partsLeft 300 v < 0
  · rw [if_pos hp]
    exact show_no w t y _ hp HP
  · rw [if_neg hp]
    have h1 := partsLeft_eq v 300 (by omega)
    have h2 := (tx_len v hf).1
    exact show_yes w t y (txV v) _ (by omega) (by omega) HP (showsK_all w.heap.size mb _ v w t y (Nat.le_refl _) hf (h.mono fun k hk _ => ⟨hk, rfl⟩)) ht
end Kc
end Go.Proofs.YtodeeegbajgafaaGreatDoor

namespace Go.Proofs.YtodeeegbajgafaaGreatDoor
namespace Kc
open Go.RowKit
/-- What a run came to: kind, text, reason. -/
def outK (t : St) (em : Bool) : Nat × List UInt8 × Nat := if t.kind ≠ 0 then (t.kind, [], t.why) else if em then (1, [], 0) else match t.ctl with
  | .val v => (match showK v with
    | some x => (1, x, 0)
    | none => (2, [], 8))
  | .ev _ _ => (1, [], 0)
theorem outK_val {t : St} {v : V} (hk : t.kind = 0) (hc : t.ctl = .val v) : outK t false = (match showK v with
    | some x => (1, x, 0)
    | none => (2, [], 8)) := by
  unfold outK
  rw [if_neg (by omega), if_neg (by simp), hc]
theorem outK_not {t : St} {em : Bool} (hk : t.kind ≠ 0) : outK t em = (t.kind, [], t.why) := by
  unfold outK
  rw [if_pos hk]
def aggK (o : Nat × List UInt8 × Nat) : Value := .agg #[.int .i64 o.1, .string ⟨o.2.1.toArray⟩, .int .i64 o.2.2, .int .i64 0, .slice none 0 0]
theorem good_inv (fuel : Nat) (hf : fuel ≤ 900) : Inv fuel (Good fuel 0) := by
  refine ⟨fun s s' h hr => (h.on hr).good, fun s h => ⟨h.short hf, fun v hv => ?_, fun f todo ht fs e vals hd he u hu => ?_⟩⟩
  · have := h.ctl
    rw [hv] at this
    exact Ok.fine this
  · have := h.todo.2 f (by rw [ht]; exact List.mem_cons_self)
    rw [he] at this
    cases this with
    | each x fs env sh vals hd he hf hv hh => exact Ok.fine (hv u hu)
theorem six_cells {w2 : World} {k : Nat} (hat : w2.heap[k]? = some (.cells #[.int .i64 0, .string ⟨#[]⟩, .int .i64 0, .int .i64 0, .slice none 0 0] 34 (0, 0))) : w2.frozen? ⟨k, 0, none⟩ = false ∧ w2.frozen? ⟨k, 1, none⟩ = false ∧ w2.frozen? ⟨k, 2, none⟩ = false ∧ w2.frozen? ⟨k, 3, none⟩ = false ∧ w2.frozen? ⟨k, 4, none⟩ = false ∧ w2.cell? ⟨k, 0, none⟩ = some (.int .i64 0) ∧ w2.cell? ⟨k, 1, none⟩ = some (.string ⟨#[]⟩) ∧ w2.cell? ⟨k, 2, none⟩ = some (.int .i64 0) ∧ w2.cell? ⟨k, 3, none⟩ = some (.int .i64 0) ∧ w2.cell? ⟨k, 4, none⟩ = some (.slice none 0 0) :=
  ⟨free_of_at hat 0, free_of_at hat 1, free_of_at hat 2, free_of_at hat 3, free_of_at hat 4, cell_of_at hat 0, cell_of_at hat 1, cell_of_at hat 2, cell_of_at hat 3, cell_of_at hat 4⟩
/-- Forms in turn, and what holds of each one's run. -/
inductive EndsI (F : Nat) : St → List Rd.F → St → Prop
  | nil (s : St) : EndsI F s [] s
  | stop {n : Nat} {s t : St} {f : Rd.F} {fs : List Rd.F} {Iv : St → Prop} (hI : Inv F Iv) (hi : Iv (s.eval f [])) (h : Runs F n (s.eval f []) t) (he : t.ended) (hk : t.kind ≠ 0) : EndsI F s (f :: fs) t
  | next {n : Nat} {s t u : St} {f : Rd.F} {fs : List Rd.F} {Iv : St → Prop} (hI : Inv F Iv) (hi : Iv (s.eval f [])) (h : Runs F n (s.eval f []) t) (he : t.ended) (hk : t.kind = 0) (k : EndsI F t fs u) : EndsI F s (f :: fs) u
theorem runs_inv {F n : Nat} {Iv : St → Prop} (hI : Inv F Iv) {s t : St} (h : Runs F n s t) : Iv s → Iv t := by
  induction h with
  | nil s => exact id
  | cons hr _ ih => exact fun hg => ih (hI.on _ _ hg hr)
theorem runs_good {F n : Nat} {s t : St} (h : Runs F n s t) : Good F 0 s → Good F 0 t := by
  induction h with
  | nil s => exact id
  | cons hr _ ih => exact fun hg => ih (hg.on hr).good
theorem Ends.toI {F : Nat} (hF : F ≤ 900) {s t : St} {fs : List Rd.F} (h : Ends F s fs t) : Rests F s → (∀ f, f ∈ fs → WfF [] f) → EndsI F s fs t := by
  induction h with
  | nil s => exact fun _ _ => .nil s
  | stop h he hk => exact fun hs hf => .stop (good_inv F hF) (hs.good.eval .nil (hf _ List.mem_cons_self)) h he hk
  | next h he hk _ ih => exact fun hs hf => .next (good_inv F hF) (hs.good.eval .nil (hf _ List.mem_cons_self)) h he hk (ih (rests_of (runs_good h (hs.good.eval .nil (hf _ List.mem_cons_self))) he hk) fun x hx => hf x (List.mem_cons_of_mem _ hx))
/-- A new block that holds no data. -/
theorem RunAt0.apart {N : Nat → Prop} {g : Gh} {rb fuel : Nat} {s : St} {w : World} (h : RunAt0 N g rb fuel s w) (o : Obj) : RunAt0 (fun k => N k ∨ k = w.heap.size) g rb fuel s (w.alloc o) := by
  have hk : ∀ k, k < w.heap.size → g.ok N k → g.ok (fun k => N k ∨ k = w.heap.size) k ∧ (w.alloc o).heap[k]? = w.heap[k]? := fun k hk ho => ⟨⟨fun e => by rcases e with e | e; exact ho.1 e; omega, ho.2⟩, Below.heap_alloc _ _ _ hk⟩
  obtain ⟨T, vf, va, vv, vt, vb, hb, ht, hy⟩ := h.blk
  refine ⟨Or.inl h.inN, h.m.kept (fun k hm => Below.heap_alloc _ _ _ (Gh.low h.m k hm)) hk ?_ ?_, ⟨T, vf, va, vv, vt, vb, at_alloc hb _, ht.mono hk, hy.mono hk⟩, h.bound⟩
  · rintro k (e | rfl)
    · have := h.m.low k e; simp; omega
    · simp
  · rintro k hm (e | rfl)
    · exact h.m.disj k hm e
    · exact Nat.lt_irrefl _ (Gh.low h.m _ hm)
/-- What holds no data may change. -/
theorem RunAt.other {N N' : Nat → Prop} {g : Gh} {rb fuel : Nat} {s : St} {w w' : World} (h : RunAt N g rb fuel s w) (hs : w.heap.size ≤ w'.heap.size) (hw : ∀ k, k < w.heap.size → ¬ N k ∨ k = rb → w'.heap[k]? = w.heap[k]?) (hN : ∀ k, N' k → N k) (hrb : N' rb) : RunAt N' g rb fuel s w' := by
  have hk : ∀ k, k < w.heap.size → g.ok N k → g.ok N' k ∧ w'.heap[k]? = w.heap[k]? := fun k hk ho => ⟨⟨fun e => ho.1 (hN k e), ho.2⟩, hw k hk (Or.inl ho.1)⟩
  obtain ⟨T, vf, va, vv, vt, vb, hb, hc, ht, hy⟩ := h.blk
  refine ⟨hrb, h.m.kept (fun k hm => hw k (Gh.low h.m k hm) (Or.inl (h.m.disj k hm))) hk (fun k e => Nat.lt_of_lt_of_le (h.m.low k (hN k e)) hs) (fun k hm e => h.m.disj k hm (hN k e)), ⟨T, vf, va, vv, vt, vb, (hw rb (lt_of_at hb) (Or.inr rfl)).trans hb, hc.mono hk, ht.mono hk, hy.mono hk⟩, h.bound⟩
/-- What holds no data may change. -/
theorem RunAt0.other {N N' : Nat → Prop} {g : Gh} {rb fuel : Nat} {s : St} {w w' : World} (h : RunAt0 N g rb fuel s w) (hs : w.heap.size ≤ w'.heap.size) (hw : ∀ k, k < w.heap.size → ¬ N k ∨ k = rb → w'.heap[k]? = w.heap[k]?) (hN : ∀ k, N' k → N k) (hrb : N' rb) : RunAt0 N' g rb fuel s w' := by
  have hk : ∀ k, k < w.heap.size → g.ok N k → g.ok N' k ∧ w'.heap[k]? = w.heap[k]? := fun k hk ho => ⟨⟨fun e => ho.1 (hN k e), ho.2⟩, hw k hk (Or.inl ho.1)⟩
  obtain ⟨T, vf, va, vv, vt, vb, hb, ht, hy⟩ := h.blk
  refine ⟨hrb, h.m.kept (fun k hm => hw k (Gh.low h.m k hm) (Or.inl (h.m.disj k hm))) hk (fun k e => Nat.lt_of_lt_of_le (h.m.low k (hN k e)) hs) (fun k hm e => h.m.disj k hm (hN k e)), ⟨T, vf, va, vv, vt, vb, (hw rb (lt_of_at hb) (Or.inr rfl)).trans hb, ht.mono hk, hy.mono hk⟩, h.bound⟩
theorem RunAt.val {N : Nat → Prop} {g : Gh} {rb fuel : Nat} {s : St} {w : World} (h : RunAt N g rb fuel s w) {v : V} (hc : s.ctl = .val v) : ∃ t z, w.cell? ⟨rb, 5, none⟩ = some (.iface t z) ∧ RepM g.tb (g.ok N) w (.iface t z) (.val v) := by
  obtain ⟨T, vf, va, vv, vt, vb, hb, hcc, ht, hy⟩ := h.blk
  rw [hc] at hcc
  obtain ⟨_, h2⟩ := hcc
  obtain ⟨t, z, rfl⟩ := h2.iface
  have c5 := cell_of_at hb 5
  simp only [runCells, List.getElem?_toArray, List.getElem?_cons_zero, List.getElem?_cons_succ] at c5
  exact ⟨t, z, c5, h2⟩
theorem RunAt.cells {N : Nat → Prop} {g : Gh} {rb fuel : Nat} {s : St} {w : World} (h : RunAt N g rb fuel s w) : w.cell? ⟨rb, 8, none⟩ = some (.int .i64 s.kind) ∧ w.cell? ⟨rb, 9, none⟩ = some (.int .i64 s.why) ∧ w.cell? ⟨rb, 2, none⟩ = some (.int .i64 s.steps) := by
  obtain ⟨T, vf, va, vv, vt, vb, hb, hcc, ht, hy⟩ := h.blk
  exact ⟨cell_of_at hb 8, cell_of_at hb 9, cell_of_at hb 2⟩
theorem RunAt0.cells {N : Nat → Prop} {g : Gh} {rb fuel : Nat} {s : St} {w : World} (h : RunAt0 N g rb fuel s w) : w.cell? ⟨rb, 8, none⟩ = some (.int .i64 s.kind) ∧ w.cell? ⟨rb, 9, none⟩ = some (.int .i64 s.why) ∧ w.cell? ⟨rb, 2, none⟩ = some (.int .i64 s.steps) := by
  obtain ⟨T, vf, va, vv, vt, vb, hb, ht, hy⟩ := h.blk
  exact ⟨cell_of_at hb 8, cell_of_at hb 9, cell_of_at hb 2⟩
def AllRK (N : Nat → Prop) (g : Gh) (rb fuel : Nat) (t : St) (em : Bool) (w : World) : Ending → World → Prop := fun e w' => e = .returned (aggK (outK t em)) ∧ ∃ g', Gh.Next w g g' ∧ RunAt0 N g' rb fuel t w' ∧ Kept (RM g rb) w w'
/-- Where the loop stands. -/
structure AllG (N : Nat → Prop) (g : Gh) (rb fuel : Nat) (t : St) (txt : List UInt8) (fs : List Rd.F) (w0 : World) (k : Nat) (v5 v12 : Value) (wr : World) (g1 : Gh) (s1 : St) (done todo : List Rd.F) : Prop where
  parts : fs = done ++ todo
  count : k = todo.length
  idx : v12 = .int .i64 (done.length : Nat)
  next : Gh.Next w0 g g1
  run : RunAt0 N g1 rb fuel s1 wr
  kept : Kept (RM g rb) w0 wr
  rest : (todo ≠ [] ∧ EndsI fuel s1 todo t ∧ v5 = .string ⟨#[]⟩) ∨ (todo = [] ∧ s1 = t ∧ outK t fs.isEmpty = (1, txt, 0) ∧ v5 = .string ⟨txt.toArray⟩)
set_option maxHeartbeats 8000000 in
set_option maxRecDepth 20000 in
theorem all_K (HC : CallC) (N : Nat → Prop) (g : Gh) (rb fuel : Nat) (s t : St) (w : World) (h : RunAt0 N g rb fuel s w) (sl : Value) (fs : List Rd.F) (hs : RepFs (g.ok N) w sl fs) (hks : s.kind = 0) (hx : EndsI fuel s fs t) (htab : ∀ W, Kept (RM g rb) w W → Tab W.heap.size W) :
    Calls Tryz.prog 37 #[ptrV rb, sl] w (AllRK N g rb fuel t fs.isEmpty w) := by
  obtain ⟨txt, htxt⟩ : ∃ txt, txt = (outK t fs.isEmpty).2.1 := ⟨_, rfl⟩
  have HT0 : Hid (fs = [] → s = t ∧ outK t fs.isEmpty = (1, txt, 0) ∧ txt = []) := fun e => by
    subst e
    cases hx
    have e1 : outK s true = (1, [], 0) := by unfold outK; rw [if_neg (by omega), if_pos rfl]
    have e2 : txt = [] := by rw [htxt]; exact congrArg (fun o => o.2.1) e1
    exact ⟨rfl, by rw [e2]; exact e1, e2⟩
  have h0 := h.apart (.cells #[.int .i64 0, .string ⟨#[]⟩, .int .i64 0, .int .i64 0, .slice none 0 0] 34)
  have hnew := at_new w (.cells #[.int .i64 0, .string ⟨#[]⟩, .int .i64 0, .int .i64 0, .slice none 0 0] 34)
  have hs0 : RepFs (g.ok (fun k => N k ∨ k = w.heap.size)) (w.alloc (.cells #[.int .i64 0, .string ⟨#[]⟩, .int .i64 0, .int .i64 0, .slice none 0 0] 34)) sl fs := hs.mono fun k hk ho => ⟨⟨fun e => by rcases e with e | e; exact ho.1 e; omega, ho.2⟩, Below.heap_alloc _ _ _ hk⟩
  have hk0 : Kept (RM g rb) w (w.alloc (.cells #[.int .i64 0, .string ⟨#[]⟩, .int .i64 0, .int .i64 0, .slice none 0 0] 34)) := (Kept.refl _ w).alloc _
  have hlow := Gh.low h.m
  have hrb := h.inN
  have hrlt := h.m.low rb h.inN
  generalize hW0 : w.alloc (.cells #[.int .i64 0, .string ⟨#[]⟩, .int .i64 0, .int .i64 0, .slice none 0 0] 34) = w0 at *
  have hsz : w0.heap.size = w.heap.size + 1 := by rw [← hW0]; simp
  obtain ⟨ga, oa, cap, rfl, hn, hcap, hga, hat⟩ := hs0.at
  have HX := (show Hid _ from hx)
  have HS0 := (show Hid _ from hs0)
  have HW : Hid (w.alloc (.cells #[.int .i64 0, .string ⟨#[]⟩, .int .i64 0, .int .i64 0, .slice none 0 0] 34) = w0) := hW0
  have hm1 : ¬ RM g rb w.heap.size := fun e => by
    rcases e with e | e
    · omega
    · have := hlow _ e; omega
  have HTX : Hid (txt = (outK t fs.isEmpty).2.1) := htxt
  clear hat hx hs hs0 h hW0 hks htxt
  have hnl : fs.length ≤ 100000 := by omega
  unfold ptrV
  go_enter Tryz.func37, Tryz.ntmps37
  go_wp2
  rw [HW.out]
  go_loopg [5, 12] fs.length (fun k v5 v12 wr => ∃ g1 s1 done todo, AllG (fun k => N k ∨ k = w.heap.size) g rb fuel t txt fs w0 k v5 v12 wr g1 s1 done todo)
  case atStart =>
    refine ⟨g, s, [], fs, rfl, rfl, rfl, Gh.Next.refl _ _, h0, Kept.refl _ _, ?_⟩
    by_cases hne : fs = []
    · obtain ⟨e1, e2, e3⟩ := HT0.out hne
      exact Or.inr ⟨hne, e1, e2, by rw [e3]⟩
    · exact Or.inl ⟨hne, HX.out, rfl⟩
  case round =>
    obtain ⟨g1, s1, done, todo, hG⟩ := hrel
    have HG := (show Hid _ from hG)
    obtain rfl := hG.idx
    rcases hG.rest with ⟨hne1, hends, rfl⟩ | ⟨rfl, rfl, hk0', rfl⟩
    · obtain ⟨f, rest, rfl⟩ : ∃ f r, todo = f :: r := by
        cases todo with
        | nil => exact absurd rfl hne1
        | cons f r => exact ⟨f, r, rfl⟩
      have hlt : done.length < fs.length := by rw [hG.parts]; simp
      have hfi : fs[done.length]'hlt = f := by
        have : fs[done.length]? = some f := by rw [hG.parts]; simp
        rw [List.getElem?_eq_getElem hlt] at this
        exact Option.some.inj this
      have hsr : RepFs (g1.ok (fun k => N k ∨ k = w.heap.size)) wr (.slice (some ⟨ga, oa, none⟩) fs.length cap) fs := HS0.out.mono fun k hk ho => ⟨hG.next.ok hk ho, hG.kept.block k hk fun e => by
        rcases e with rfl | e
        · exact ho.1 (Or.inl hrb)
        · exact ho.2 e⟩
      obtain ⟨ga', oa', cap', he, _, _, _, hat'⟩ := hsr.at
      cases he
      obtain ⟨v, cv, hv⟩ := hat' done.length hlt
      rw [hfi] at hv
      have i1 : (done.length : Int) < (fs.length : Int) := by omega
      have i2 : -9223372036854775808 ≤ (done.length : Int) + 1 := by omega
      have i3 : (done.length : Int) + 1 ≤ 9223372036854775807 := by omega
      have i4 : -9223372036854775808 ≤ (fs.length : Int) - 1 := by omega
      have i5 : (fs.length : Int) - 1 ≤ 9223372036854775807 := by omega
      have hpp := hG.parts
      have HT : Hid (∀ W, Kept (RM g1 rb) wr W → Tab W.heap.size W) := fun W hW => htab W (hk0.trans (hG.kept.chain hW hG.next.rm))
      have hem : fs.isEmpty = false := by rw [hpp]; cases done <;> rfl
      obtain ⟨tv, xv, rfl⟩ := RepF.iface hv
      cases hends with
      | @stop n _ _ _ _ Iv hI hi hr1 he1 hk1 =>
          have hkb : (t.kind == 0) = false := by simpa using hk1
          have HWH : Hid (Calls Tryz.prog 64 #[.pointer (some ⟨rb, 0, none⟩), .iface tv xv] wr fun e w' => e = .returned (.bool false) ∧ ∃ g', Gh.Next wr g1 g' ∧ RunAt (fun k => N k ∨ k = w.heap.size) g' rb fuel t w' ∧ Kept (RM g1 rb) wr w') := (whole_any HC Iv _ g1 rb fuel n s1 t wr hG.run _ f hv hI hi hr1 he1).mono fun e w' hr => by rw [WholeR, hkb] at hr; exact hr
          have HR : Hid (∀ W g2, Gh.Next wr g1 g2 → RunAt (fun k => N k ∨ k = w.heap.size) g2 rb fuel t W → Kept (RM g1 rb) wr W → (W.cell? ⟨rb, 8, none⟩ = some (.int .i64 t.kind) ∧ W.cell? ⟨rb, 9, none⟩ = some (.int .i64 t.why)) ∧ W.heap[w.heap.size]? = some (.cells #[.int .i64 0, .string ⟨#[]⟩, .int .i64 0, .int .i64 0, .slice none 0 0] 34 (0, 0)) ∧
              AllRK N g rb fuel t fs.isEmpty w (.returned (.agg #[.int .i64 t.kind, .string ⟨#[]⟩, .int .i64 t.why, .int .i64 0, .slice none 0 0])) (set5 W w.heap.size (.int .i64 t.kind) (.string ⟨#[]⟩) (.int .i64 t.why) (.int .i64 0) (.slice none 0 0)).drew) := fun W g2 hn2 hr2 hk2 => by
            have hkk := HG.out.kept.chain hk2 HG.out.next.rm
            have hnx := HG.out.next.trans hn2 HG.out.kept.size
            refine ⟨⟨hr2.cells.1, hr2.cells.2.1⟩, hkk.at hm1 hnew, by rw [outK_not hk1]; rfl, g2, ⟨hnx.mb, hnx.db, hnx.sp, fun k e hk => hnx.mt k e (by omega)⟩, ?_, ?_⟩
            · refine RunAt.r0 (RunAt.drew (hr2.other (by rw [set5_size]; exact Nat.le_refl _) (fun k _ hk => set5_ne _ _ _ _ _ _ _ _ ?_) (fun k e => Or.inl e) hrb))
              rintro rfl
              rcases hk with hk | hk
              · exact hk (Or.inr rfl)
              · omega
            · refine Kept.drew ?_
              exact set5_kept (hk0.trans hkk) (fun e => absurd e (Nat.lt_irrefl _)) _ _ _ _ _
          clear hG hsr hat' hv hr1 he1 hpp hfi HX HS0 h0 hk0 hnew hlow hk1 hkb HT htab hI hi hem HTX HT0
          go_wp2_with (first | (go_at_call 64; refine HWH.out.mono ?_; rintro e2 w2 ⟨rfl, g2, hn2, hr2, hk2⟩; obtain ⟨⟨c8, c9⟩, hat2, hfin2⟩ := HR.out _ _ hn2 hr2 hk2; have HFIN := (show Hid _ from hfin2); clear hn2 hr2 hk2 hfin2))
          obtain ⟨e0, e1, e2, e3, e4⟩ : w2.frozen? ⟨w.heap.size, 0, none⟩ = false ∧ w2.frozen? ⟨w.heap.size, 1, none⟩ = false ∧ w2.frozen? ⟨w.heap.size, 2, none⟩ = false ∧ w2.frozen? ⟨w.heap.size, 3, none⟩ = false ∧ w2.frozen? ⟨w.heap.size, 4, none⟩ = false := ⟨free_of_at hat2 0, free_of_at hat2 1, free_of_at hat2 2, free_of_at hat2 3, free_of_at hat2 4⟩
          have d0 := cell_of_at hat2 0
          have d1 := cell_of_at hat2 1
          have d2 := cell_of_at hat2 2
          have d3 := cell_of_at hat2 3
          have d4 := cell_of_at hat2 4
          simp only [List.getElem?_toArray, List.getElem?_cons_zero, List.getElem?_cons_succ] at d0 d1 d2 d3 d4
          have hfin := set5_at hat2 (.int .i64 t.kind) (.string ⟨#[]⟩) (.int .i64 t.why) (.int .i64 0) (.slice none 0 0)
          have f0 := cell_of_at hfin 0
          have f1 := cell_of_at hfin 1
          have f2 := cell_of_at hfin 2
          have f3 := cell_of_at hfin 3
          have f4 := cell_of_at hfin 4
          simp only [List.getElem?_toArray, List.getElem?_cons_zero, List.getElem?_cons_succ] at f0 f1 f2 f3 f4
          have HW5 : Hid (((((w2.setCell ⟨w.heap.size, 0, none⟩ (.int .i64 t.kind)).setCell ⟨w.heap.size, 1, none⟩ (.string ⟨#[]⟩)).setCell ⟨w.heap.size, 2, none⟩ (.int .i64 t.why)).setCell ⟨w.heap.size, 3, none⟩ (.int .i64 0)).setCell ⟨w.heap.size, 4, none⟩ (.slice none 0 0) = set5 w2 w.heap.size (.int .i64 t.kind) (.string ⟨#[]⟩) (.int .i64 t.why) (.int .i64 0) (.slice none 0 0)) := rfl
          clear hat2 hfin
          go_region
          all_goals
            go_wp2
            rw [HW5.out]
            refine bodyPost_ret (v := .agg #[.int .i64 t.kind, .string ⟨#[]⟩, .int .i64 t.why, .int .i64 0, .slice none 0 0]) ?_ rfl HFIN.out
            simp [results, Tryz.results37, go_sem, f0, f1, f2, f3, f4]
      | @next n _ t1 _ _ _ Iv hI hi hr1 he1 hk1 hrest =>
        have hkb : (t1.kind == 0) = true := by rw [hk1]; rfl
        have HWH : Hid (Calls Tryz.prog 64 #[.pointer (some ⟨rb, 0, none⟩), .iface tv xv] wr fun e w' => e = .returned (.bool true) ∧ ∃ g', Gh.Next wr g1 g' ∧ RunAt (fun k => N k ∨ k = w.heap.size) g' rb fuel t1 w' ∧ Kept (RM g1 rb) wr w') := (whole_any HC Iv _ g1 rb fuel n s1 t1 wr hG.run _ f hv hI hi hr1 he1).mono fun e w' hr => by rw [WholeR, hkb] at hr; exact hr
        by_cases hrest0 : rest = []
        · subst hrest0
          obtain rfl : t1 = t := by cases hrest; rfl
          have i6 : ¬ (done.length : Int) < (fs.length : Int) - 1 := by
            have : fs.length = done.length + 1 := by rw [hpp]; simp
            omega
          have i7 : decide ((done.length : Int) < (fs.length : Int) - 1) = false := decide_eq_false i6
          obtain ⟨u, hu⟩ : ∃ u, t1.ctl = .val u := by
            rcases he1 with e | e
            · exact absurd hk1 e
            · exact e.1
          have hfu' : fine u := (hI.fits _ (runs_inv hI hr1 hi)).2.1 u hu
          have HU := (show Hid _ from hu)
          have HFU := (show Hid _ from hfu')
          have houtv := outK_val hk1 hu
          clear i6
          cases hsk : showK u with
          | some x =>
            rw [hsk] at houtv
            have htx : txt = x := by rw [HTX.out, hem, houtv]
            subst htx
            have HR : Hid (∀ W W' g2, Gh.Next wr g1 g2 → RunAt (fun k => N k ∨ k = w.heap.size) g2 rb fuel t1 W → Kept (RM g1 rb) wr W → Below W.heap.size W W' → ∃ g3 s3 d3 t3, AllG (fun k => N k ∨ k = w.heap.size) g rb fuel t1 txt fs w0 0 (.string ⟨txt.toArray⟩) (.int .i64 ((done.length : Int) + 1)) W' g3 s3 d3 t3) := fun W W' g2 hn2 hr2 hk2 hb2 => by
              refine ⟨g2, t1, done ++ [f], [], by rw [hpp]; simp, rfl, by simp, HG.out.next.trans hn2 HG.out.kept.size, (hr2.below hb2).r0, HG.out.kept.chain (hk2.trans (Kept.of_below hb2 _)) HG.out.next.rm, Or.inr ⟨rfl, rfl, by rw [hem]; exact houtv, rfl⟩⟩
            have hms : 0 < gk := by rw [hG.count]; simp
            have HSK : Hid (showK u = some txt) := hsk
            clear hG hsr hat' hv hr1 he1 hpp hfi HX HS0 h0 hk0 hnew hlow hk1 hkb htab hu houtv hsk hI hi hem HTX HT0 hrest hfu'
            go_wp2_with (first | (go_at_call 64; refine HWH.out.mono ?_; rintro e2 w2 ⟨rfl, g2, hn2, hr2, hk2⟩; obtain ⟨tu, zu, c5, hru⟩ := hr2.val HU.out; have HCS : Hid (Calls Tryz.prog 65 #[.iface tu zu] w2 (ShowR txt w2)) := (show_K _ _ _ HFU.out w2 _ hru (HT.out _ hk2)).mono (fun e w' h => by rw [HSK.out] at h; exact h); have HRR := (show Hid _ from HR.out w2); have HN2 := (show Hid _ from hn2); have HR2 := (show Hid _ from hr2); have HK2 := (show Hid _ from hk2); clear hn2 hr2 hk2 hru) | (go_at_call 65; refine HCS.out.mono ?_; rintro e3 w3 ⟨rfl, hb3⟩))
            go_roundg 0
            case measure => exact hms
            case rel => exact HRR.out _ _ HN2.out HR2.out HK2.out hb3
          | none =>
            rw [hsk] at houtv
            have HSK : Hid (showK u = none) := hsk
            have HR : Hid (∀ W g2, Gh.Next wr g1 g2 → RunAt (fun k => N k ∨ k = w.heap.size) g2 rb fuel t1 W → Kept (RM g1 rb) wr W → ∀ W', Below W.heap.size W W' → W'.heap[w.heap.size]? = some (.cells #[.int .i64 0, .string ⟨#[]⟩, .int .i64 0, .int .i64 0, .slice none 0 0] 34 (0, 0)) ∧
                AllRK N g rb fuel t1 fs.isEmpty w (.returned (.agg #[.int .i64 2, .string ⟨#[]⟩, .int .i64 8, .int .i64 0, .slice none 0 0])) (set5 W' w.heap.size (.int .i64 2) (.string ⟨#[]⟩) (.int .i64 8) (.int .i64 0) (.slice none 0 0))) := fun W g2 hn2 hr2 hk2a W' hb2 => by
              have hk2 := hk2a.trans (Kept.of_below hb2 (RM g1 rb))
              have hr2' := hr2.below hb2
              have hkk := HG.out.kept.chain hk2 HG.out.next.rm
              have hnx := HG.out.next.trans hn2 HG.out.kept.size
              refine ⟨hkk.at hm1 hnew, by rw [hem, houtv]; rfl, g2, ⟨hnx.mb, hnx.db, hnx.sp, fun k e hk => hnx.mt k e (by omega)⟩, ?_, ?_⟩
              · refine RunAt.r0 (hr2'.other (by rw [set5_size]; exact Nat.le_refl _) (fun k _ hk => set5_ne _ _ _ _ _ _ _ _ ?_) (fun k e => Or.inl e) hrb)
                rintro rfl
                rcases hk with hk | hk
                · exact hk (Or.inr rfl)
                · omega
              · exact set5_kept (hk0.trans hkk) (fun e => absurd e (Nat.lt_irrefl _)) _ _ _ _ _
            clear hG hsr hat' hv hr1 he1 hpp hfi HX HS0 h0 hk0 hnew hlow hk1 hkb htab hu houtv hsk hI hi hem HTX HT0 hrest hfu'
            go_wp2_with (first | (go_at_call 64; refine HWH.out.mono ?_; rintro e2 w1 ⟨rfl, g2, hn2, hr2, hk2⟩; obtain ⟨tu, zu, c5, hru⟩ := hr2.val HU.out; have HCS : Hid (Calls Tryz.prog 65 #[.iface tu zu] w1 (fun e w' => e = .returned (.tuple #[.string ⟨#[]⟩, .bool false]) ∧ Below w1.heap.size w1 w')) := (show_K _ _ _ HFU.out w1 _ hru (HT.out _ hk2)).mono (fun e w' h => by rw [HSK.out] at h; exact h); have HRR := (show Hid _ from HR.out w1 g2 hn2 hr2 hk2); clear hn2 hr2 hk2 hru) | (go_at_call 65; refine HCS.out.mono ?_; rintro e3 w2 ⟨rfl, hb3⟩; obtain ⟨hat2, hfin2⟩ := HRR.out _ hb3; have HFIN := (show Hid _ from hfin2); have HAT2 := (show Hid _ from hat2); obtain ⟨x0, x1, x2, x3, x4, d0, d1, d2, d3, d4⟩ := six_cells hat2; clear hfin2 hat2))
            have hfin := set5_at HAT2.out (.int .i64 2) (.string ⟨#[]⟩) (.int .i64 8) (.int .i64 0) (.slice none 0 0)
            have f0 := cell_of_at hfin 0
            have f1 := cell_of_at hfin 1
            have f2 := cell_of_at hfin 2
            have f3 := cell_of_at hfin 3
            have f4 := cell_of_at hfin 4
            simp only [List.getElem?_toArray, List.getElem?_cons_zero, List.getElem?_cons_succ] at f0 f1 f2 f3 f4
            have HW5 : Hid (((((w2.setCell ⟨w.heap.size, 0, none⟩ (.int .i64 2)).setCell ⟨w.heap.size, 1, none⟩ (.string ⟨#[]⟩)).setCell ⟨w.heap.size, 2, none⟩ (.int .i64 8)).setCell ⟨w.heap.size, 3, none⟩ (.int .i64 0)).setCell ⟨w.heap.size, 4, none⟩ (.slice none 0 0) = set5 w2 w.heap.size (.int .i64 2) (.string ⟨#[]⟩) (.int .i64 8) (.int .i64 0) (.slice none 0 0)) := rfl
            rw [HW5.out]
            refine bodyPost_ret (v := .agg #[.int .i64 2, .string ⟨#[]⟩, .int .i64 8, .int .i64 0, .slice none 0 0]) ?_ rfl HFIN.out
            simp [results, Tryz.results37, go_sem, f0, f1, f2, f3, f4]
        · obtain ⟨f', fs', rfl⟩ : ∃ f' fs', rest = f' :: fs' := by
            cases rest with
            | nil => exact absurd rfl hrest0
            | cons a b => exact ⟨a, b, rfl⟩
          have HR : Hid (∀ W g2, Gh.Next wr g1 g2 → RunAt (fun k => N k ∨ k = w.heap.size) g2 rb fuel t1 W → Kept (RM g1 rb) wr W → ∃ g3 s3 d3 t3, AllG (fun k => N k ∨ k = w.heap.size) g rb fuel t txt fs w0 (f' :: fs').length (.string ⟨#[]⟩) (.int .i64 ((done.length : Int) + 1)) W g3 s3 d3 t3) := fun W g2 hn2 hr2 hk2 => by
            refine ⟨g2, t1, done ++ [f], f' :: fs', by rw [hpp]; simp, rfl, by simp, HG.out.next.trans hn2 HG.out.kept.size, hr2.r0, HG.out.kept.chain hk2 HG.out.next.rm, Or.inl ⟨by simp, hrest, rfl⟩⟩
          have i6 : (done.length : Int) < (fs.length : Int) - 1 := by
            have : fs.length = done.length + (2 + fs'.length) := by rw [hpp]; simp; omega
            omega
          have hms : (f' :: fs').length < gk := by rw [hG.count]; simp
          clear hG hsr hat' hv hr1 he1 hrest hpp hfi HX HS0 h0 hk0 hnew hlow HT hI hi hem HTX HT0 hrest0
          go_wp2_with (first | (go_at_call 64; refine HWH.out.mono ?_; rintro e2 w2 ⟨rfl, g2, hn2, hr2, hk2⟩; have HRR := (show Hid _ from HR.out _ _ hn2 hr2 hk2); clear hn2 hr2 hk2))
          go_roundg (f' :: fs').length
          case measure => exact hms
          case rel => exact HRR.out
    · have hd : done = fs := by have := hG.parts; rw [List.append_nil] at this; exact this.symm
      subst hd
      have hat := hG.kept.at hm1 hnew
      have hkk := hG.kept
      have hful := hG.run
      have hnx := hG.next
      obtain ⟨d0, d1, d2, d3, d4, e0, e1, e2, e3, e4⟩ : wr.cell? ⟨w.heap.size, 0, none⟩ = some (.int .i64 0) ∧ wr.cell? ⟨w.heap.size, 1, none⟩ = some (.string ⟨#[]⟩) ∧ wr.cell? ⟨w.heap.size, 2, none⟩ = some (.int .i64 0) ∧ wr.cell? ⟨w.heap.size, 3, none⟩ = some (.int .i64 0) ∧ wr.cell? ⟨w.heap.size, 4, none⟩ = some (.slice none 0 0) ∧ wr.frozen? ⟨w.heap.size, 0, none⟩ = false ∧ wr.frozen? ⟨w.heap.size, 1, none⟩ = false ∧ wr.frozen? ⟨w.heap.size, 2, none⟩ = false ∧ wr.frozen? ⟨w.heap.size, 3, none⟩ = false ∧ wr.frozen? ⟨w.heap.size, 4, none⟩ = false :=
        ⟨cell_of_at hat 0, cell_of_at hat 1, cell_of_at hat 2, cell_of_at hat 3, cell_of_at hat 4, free_of_at hat 0, free_of_at hat 1, free_of_at hat 2, free_of_at hat 3, free_of_at hat 4⟩
      have hfin := set5_at hat (.int .i64 1) (.string ⟨txt.toArray⟩) (.int .i64 0) (.int .i64 0) (.slice none 0 0)
      have HF : Hid (AllRK N g rb fuel s1 done.isEmpty w (.returned (.agg #[.int .i64 1, .string ⟨txt.toArray⟩, .int .i64 0, .int .i64 0, .slice none 0 0])) (set5 wr w.heap.size (.int .i64 1) (.string ⟨txt.toArray⟩) (.int .i64 0) (.int .i64 0) (.slice none 0 0))) := by
        refine ⟨by rw [hk0']; rfl, g1, ⟨hnx.mb, hnx.db, hnx.sp, fun k e hk => hnx.mt k e (by omega)⟩, ?_, ?_⟩
        · refine hful.other (by rw [set5_size]; exact Nat.le_refl _) (fun k _ hk => set5_ne _ _ _ _ _ _ _ _ ?_) (fun k e => Or.inl e) hrb
          rintro rfl
          rcases hk with hk | hk
          · exact hk (Or.inr rfl)
          · omega
        · exact set5_kept (hk0.trans (hkk)) (fun e => absurd e (Nat.lt_irrefl _)) _ _ _ _ _
      have f0 := cell_of_at hfin 0
      have f1 := cell_of_at hfin 1
      have f2 := cell_of_at hfin 2
      have f3 := cell_of_at hfin 3
      have f4 := cell_of_at hfin 4
      simp only [List.getElem?_toArray, List.getElem?_cons_zero, List.getElem?_cons_succ] at f0 f1 f2 f3 f4
      have HW5 : Hid (((((wr.setCell ⟨w.heap.size, 0, none⟩ (.int .i64 1)).setCell ⟨w.heap.size, 1, none⟩ (.string ⟨txt.toArray⟩)).setCell ⟨w.heap.size, 2, none⟩ (.int .i64 0)).setCell ⟨w.heap.size, 3, none⟩ (.int .i64 0)).setCell ⟨w.heap.size, 4, none⟩ (.slice none 0 0) = set5 wr w.heap.size (.int .i64 1) (.string ⟨txt.toArray⟩) (.int .i64 0) (.int .i64 0) (.slice none 0 0)) := rfl
      clear hG HG hat hfin hful hnx hkk HX HS0 h0 hk0 hnew hlow HTX HT0
      go_wp2
      rw [HW5.out]
      refine bodyPost_ret (v := .agg #[.int .i64 1, .string ⟨txt.toArray⟩, .int .i64 0, .int .i64 0, .slice none 0 0]) ?_ rfl HF.out
      simp [results, Tryz.results37, go_sem, f0, f1, f2, f3, f4]
end Kc
end Go.Proofs.YtodeeegbajgafaaGreatDoor
