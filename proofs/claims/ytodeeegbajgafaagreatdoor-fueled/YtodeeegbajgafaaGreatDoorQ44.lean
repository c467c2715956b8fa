/- Printing any source, whatever it is. How many parts a datum has, and Show of any datum. The rules of and, or, quote, if, for any parts. The rules of if, shift, set!, lambda, for any parts. Written by gen_krules3.py. The rules of lambda, shift, set!, for any parts. The rules of lambda, shift, set!, for any parts. Written by gen_krules5.py. The rules of shift and set!, for any parts. Written by gen_krules6.py. The rule of let, for any parts. The walk of the rule of let, for any parts. Written by gen_klet2.py. A list that begins with a keyword goes by its rule, whatever its parts are. Written by gen_kform.py. -/
import Derived.Test.YtodeeegbajgafaaGreatDoorQ41
import Derived.Test.YtodeeegbajgafaaGreatDoorQ26
import Derived.Test.YtodeeegbajgafaaGreatDoorQ39
import Derived.Test.YtodeeegbajgafaaGreatDoorQ36
import Derived.Test.YtodeeegbajgafaaGreatDoorQ42
import Derived.Test.YtodeeegbajgafaaGreatDoorQ43
import Derived.Lib.ItoaLen
import Derived.Lib.ItoaMem
namespace Go.Proofs.YtodeeegbajgafaaGreatDoor
open Go.RowKit
open Mc
theorem readT_no (s : ByteArray) (n p : Nat) (h : Rd.readT s = .no n p) : n ≠ 0 ∧ p ≤ s.size := by
  unfold Rd.readT at h
  split at h
  · cases h; exact ⟨by omega, by omega⟩
  · revert h
    generalize Rd.tL 1002 s.size 0 (Rd.skip s.data.toList) = r
    cases r with
    | bad l' => intro h; cases h; exact ⟨by omega, by omega⟩
    | ok ds l' m =>
      rw [Rd.readOf]
      intro h
      split at h
      · split at h
        · cases h; exact ⟨by omega, by omega⟩
        · cases h
      · cases h; exact ⟨by omega, by omega⟩
end Go.Proofs.YtodeeegbajgafaaGreatDoor

namespace Go.Proofs.YtodeeegbajgafaaGreatDoor
open Go.RowKit
open Mc
theorem data_listE (en : Rd.A) : ∀ (vs : List V), (∀ v ∈ vs, V.data v) → V.data (listE (.atom en) vs)
  | [], _ => by rw [listE, V.data]; trivial
  | v :: vs, h => by
    rw [listE, V.data]
    exact ⟨h v List.mem_cons_self, data_listE en vs fun u hu => h u (List.mem_cons_of_mem _ hu)⟩
mutual
theorem data_valD : ∀ (d : Rd.D), V.data (valD d)
  | .mk _ ds en => by
    rw [valD]
    exact data_listE en _ (data_valL ds)
theorem data_valL : ∀ (ds : List Rd.D), ∀ v ∈ valL ds, V.data v
  | [], v, h => by rw [valL] at h; cases h
  | d :: ds, v, h => by
    rw [valL] at h
    rcases List.mem_cons.1 h with rfl | h
    · exact data_valD d
    · exact data_valL ds v h
end
end Go.Proofs.YtodeeegbajgafaaGreatDoor

namespace Go.Proofs.YtodeeegbajgafaaGreatDoor
open Go.RowKit
set_option maxHeartbeats 1000000 in
set_option maxRecDepth 10000 in
theorem until_k (st : Bool) (f : Nat) (HF : FormsCK f) (pb sb kb : Nat) (env : List (List Rd.Sym)) (fl : Option Nat) (fv : Value) (n : Nat) (w : World) (p : Nat) (g o cap : Nat) (d0 : Rd.D) (rest : List Rd.D) (hp : PAtK pb sb kb env fl fv n w)
    (hs : RepS (fun k => ¬ PMK pb sb fv k) w (.slice (some ⟨g, o, none⟩) (rest.length + 1) cap) (d0 :: rest)) (hf2 : 2 * Rd.kzL rest + 1 ≤ f) (hf : env.length + f ≤ 5000) (hnz : n + (Rd.kzL rest + 1) ≤ 4000) (R : Rd.PR Rd.F) (hnil : rest = [] → R = .ok (.const (.truth (!st)))) (hcons : rest ≠ [] → R = (Rd.kForms f env rest).map (.until_ st ·)) :
    Calls Tryz.prog 107 #[.pointer (some ⟨pb, 0, none⟩), .bool st, lsV p g o (rest.length + 1) cap] w (RuleK pb sb kb env fl fv n (Rd.kzL rest + 1) w R) := by
  have hcap := hs.len.2
  simp only [List.length_cons] at hcap
  have hB := box_below w (.cells #[.int .i64 p, .slice (some ⟨g, o, none⟩) (rest.length + 1) cap, .iface 146 (.agg #[])] 62)
  have hlz := Rd.kzL_len rest
  cases rest with
  | nil =>
    rw [hnil rfl]
    clear hnil hcons
    have HP : Hid (PAtK pb sb kb env fl fv n (w.alloc (.cells #[.int .i64 p, .slice (some ⟨g, o, none⟩) 1 cap, .iface 146 (.agg #[])] 62))) := hp.kept hB
    have HB : Hid (Below w.heap.size w (w.alloc (.cells #[.int .i64 p, .slice (some ⟨g, o, none⟩) 1 cap, .iface 146 (.agg #[])] 62))) := hB
    clear hp hs HF hB
    unfold lsV
    simp only [List.length_nil, Nat.zero_add] at *
    go_enter Tryz.func107, Tryz.ntmps107
    go_wp2
    go_ret
    refine ⟨_, fv, n, rfl, ⟨_, _, rfl⟩, fun x hx => ?_, ?_, by omega, Kept.of_below HB.out _, NewF.refl _ _⟩
    · cases hx
      exact .const (.truth (!st))
    · have : flOr fl (Rd.PR.ok (Rd.F.const (.truth (!st)))) = fl := by cases fl <;> rfl
      rw [this]
      exact HP.out
  | cons b bs =>
    have HC : Hid (Calls Tryz.prog 101 #[.pointer (some ⟨pb, 0, none⟩), .slice (some ⟨g, o + 3, none⟩) (b :: bs).length (cap - 1)] (w.alloc (.cells #[.int .i64 p, .slice (some ⟨g, o, none⟩) ((b :: bs).length + 1) cap, .iface 146 (.agg #[])] 62)) (RulesK pb sb kb env fl fv n (Rd.kzL (b :: bs)) (b :: bs).length (w.alloc (.cells #[.int .i64 p, .slice (some ⟨g, o, none⟩) ((b :: bs).length + 1) cap, .iface 146 (.agg #[])] 62)) (Rd.kForms f env (b :: bs)))) := rest_forms f HF pb sb kb env fl fv n w g o cap d0 (b :: bs) hp hs hf2 hf (by omega) _ hB
    rw [hcons (by simp)]
    clear hnil hcons
    have hlen : (b :: bs).length ≤ 4000 := by omega
    have hpos : 0 < (b :: bs).length := by simp
    have hne : ¬ ((b :: bs).length : Int) + 1 = 1 := by omega
    generalize Rd.kForms f env (b :: bs) = R at *
    generalize hL : (b :: bs).length = L at *
    generalize Rd.kzL (b :: bs) = Z at *
    clear hp hs HF hL
    unfold lsV
    go_enter Tryz.func107, Tryz.ntmps107
    go_wp2_with (first | (go_at_call 101; refine HC.out.mono ?_; rintro e w1 ⟨v, fv', n', rfl, hsh, hrep, hp1, hn1, hk1, hnw1⟩; obtain ⟨sg, scap, sc, sT, rfl, _, _, _, _⟩ := id hsh))
    go_ret
    refine ⟨_, fv', n', rfl, shp_map _ _ _ _, ?_, by rw [flOr_map]; exact hp1, by omega, hk1.below_then hB, hnw1.below hB⟩
    intro x hx
    cases R with
    | bad q => cases hx
    | no q => cases hx
    | ok xs =>
      cases hx
      exact .until_ _ _ _ (NewOk.of hB (hrep xs rfl))
theorem RuleK.from {pb sb kb : Nat} {env : List (List Rd.Sym)} {fl : Option Nat} {fv : Value} {n m : Nat} {w W w' : World} {r : Rd.PR Rd.F} {e : Ending} (hb : Below w.heap.size w W) (h : RuleK pb sb kb env fl fv n m W r e w') : RuleK pb sb kb env fl fv n m w r e w' := by
  obtain ⟨v, fv', n', h1, h2, h3, h4, h5, h6, h7⟩ := h
  exact ⟨v, fv', n', h1, h2, fun x hx => NewOk.of hb (h3 x hx), h4, h5, h6.below_then hb, h7.below hb⟩
set_option maxHeartbeats 1000000 in
set_option maxRecDepth 10000 in
theorem and_k (f : Nat) (HF : FormsCK f) (pb sb kb : Nat) (env : List (List Rd.Sym)) (fl : Option Nat) (fv : Value) (n : Nat) (w : World) (p : Nat) (g o cap : Nat) (d0 : Rd.D) (rest : List Rd.D) (hp : PAtK pb sb kb env fl fv n w)
    (hs : RepS (fun k => ¬ PMK pb sb fv k) w (.slice (some ⟨g, o, none⟩) (rest.length + 1) cap) (d0 :: rest)) (hf2 : 2 * Rd.kzL rest + 1 ≤ f) (hf : env.length + f ≤ 5000) (hnz : n + (Rd.kzL rest + 1) ≤ 4000) (R : Rd.PR Rd.F) (hnil : rest = [] → R = .ok (.const (.truth (!false)))) (hcons : rest ≠ [] → R = (Rd.kForms f env rest).map (.until_ false ·)) :
    Calls Tryz.prog 55 #[.pointer (some ⟨pb, 0, none⟩), lsV p g o (rest.length + 1) cap] w (RuleK pb sb kb env fl fv n (Rd.kzL rest + 1) w R) := by
  have hB := box_below w (.cells #[.int .i64 p, .slice (some ⟨g, o, none⟩) (rest.length + 1) cap, .iface 146 (.agg #[])] 62)
  have HU : Hid (Calls Tryz.prog 107 #[.pointer (some ⟨pb, 0, none⟩), .bool false, .agg #[.int .i64 p, .slice (some ⟨g, o, none⟩) (rest.length + 1) cap, .iface 146 (.agg #[])]] (w.alloc (.cells #[.int .i64 p, .slice (some ⟨g, o, none⟩) (rest.length + 1) cap, .iface 146 (.agg #[])] 62)) (RuleK pb sb kb env fl fv n (Rd.kzL rest + 1) (w.alloc (.cells #[.int .i64 p, .slice (some ⟨g, o, none⟩) (rest.length + 1) cap, .iface 146 (.agg #[])] 62)) R)) := until_k false f HF pb sb kb env fl fv n _ p g o cap d0 rest (hp.kept hB) (hs.mono fun k hk h => ⟨h, hB.block k hk⟩) hf2 hf hnz R hnil hcons
  clear hp hs HF hnil hcons
  unfold lsV
  go_enter Tryz.func55, Tryz.ntmps55
  go_wp2_with (first | (go_at_call 107; refine HU.out.mono ?_; rintro e w1 hfin; obtain ⟨v, hv⟩ : ∃ v, e = .returned v := (by obtain ⟨v, _, _, h, _⟩ := hfin; exact ⟨v, h⟩); subst hv; have HFIN := (show Hid _ from hfin); clear hfin))
  go_ret
  exact RuleK.from hB HFIN.out
set_option maxHeartbeats 1000000 in
set_option maxRecDepth 10000 in
theorem or_k (f : Nat) (HF : FormsCK f) (pb sb kb : Nat) (env : List (List Rd.Sym)) (fl : Option Nat) (fv : Value) (n : Nat) (w : World) (p : Nat) (g o cap : Nat) (d0 : Rd.D) (rest : List Rd.D) (hp : PAtK pb sb kb env fl fv n w)
    (hs : RepS (fun k => ¬ PMK pb sb fv k) w (.slice (some ⟨g, o, none⟩) (rest.length + 1) cap) (d0 :: rest)) (hf2 : 2 * Rd.kzL rest + 1 ≤ f) (hf : env.length + f ≤ 5000) (hnz : n + (Rd.kzL rest + 1) ≤ 4000) (R : Rd.PR Rd.F) (hnil : rest = [] → R = .ok (.const (.truth (!true)))) (hcons : rest ≠ [] → R = (Rd.kForms f env rest).map (.until_ true ·)) :
    Calls Tryz.prog 56 #[.pointer (some ⟨pb, 0, none⟩), lsV p g o (rest.length + 1) cap] w (RuleK pb sb kb env fl fv n (Rd.kzL rest + 1) w R) := by
  have hB := box_below w (.cells #[.int .i64 p, .slice (some ⟨g, o, none⟩) (rest.length + 1) cap, .iface 146 (.agg #[])] 62)
  have HU : Hid (Calls Tryz.prog 107 #[.pointer (some ⟨pb, 0, none⟩), .bool true, .agg #[.int .i64 p, .slice (some ⟨g, o, none⟩) (rest.length + 1) cap, .iface 146 (.agg #[])]] (w.alloc (.cells #[.int .i64 p, .slice (some ⟨g, o, none⟩) (rest.length + 1) cap, .iface 146 (.agg #[])] 62)) (RuleK pb sb kb env fl fv n (Rd.kzL rest + 1) (w.alloc (.cells #[.int .i64 p, .slice (some ⟨g, o, none⟩) (rest.length + 1) cap, .iface 146 (.agg #[])] 62)) R)) := until_k true f HF pb sb kb env fl fv n _ p g o cap d0 rest (hp.kept hB) (hs.mono fun k hk h => ⟨h, hB.block k hk⟩) hf2 hf hnz R hnil hcons
  clear hp hs HF hnil hcons
  unfold lsV
  go_enter Tryz.func56, Tryz.ntmps56
  go_wp2_with (first | (go_at_call 107; refine HU.out.mono ?_; rintro e w1 hfin; obtain ⟨v, hv⟩ : ∃ v, e = .returned v := (by obtain ⟨v, _, _, h, _⟩ := hfin; exact ⟨v, h⟩); subst hv; have HFIN := (show Hid _ from hfin); clear hfin))
  go_ret
  exact RuleK.from hB HFIN.out
set_option maxHeartbeats 1000000 in
set_option maxRecDepth 10000 in
theorem quote_k (pb sb kb : Nat) (env : List (List Rd.Sym)) (fl : Option Nat) (fv : Value) (n : Nat) (w : World) (p : Nat) (g o cap : Nat) (d0 : Rd.D) (rest : List Rd.D) (hp : PAtK pb sb kb env fl fv n w)
    (hs : RepS (fun k => ¬ PMK pb sb fv k) w (.slice (some ⟨g, o, none⟩) (rest.length + 1) cap) (d0 :: rest)) (hsz : ∀ d ∈ rest, szD d ≤ 4000) (hnz : n + (Rd.kzL rest + 1) ≤ 4000) (R : Rd.PR Rd.F) (hone : ∀ d, rest = [d] → R = .ok (.quoted d)) (helse : rest.length ≠ 1 → R = .no p) :
    Calls Tryz.prog 49 #[.pointer (some ⟨pb, 0, none⟩), lsV p g o (rest.length + 1) cap] w (RuleK pb sb kb env fl fv n (Rd.kzL rest + 1) w R) := by
  have hcap := hs.len.2
  simp only [List.length_cons] at hcap
  have hB := box_below w (.cells #[.int .i64 p, .slice (some ⟨g, o, none⟩) (rest.length + 1) cap, .iface 146 (.agg #[])] 62)
  have hlz := Rd.kzL_len rest
  by_cases hl : rest.length = 1
  · obtain ⟨d1, rfl⟩ : ∃ d, rest = [d] := List.length_eq_one_iff.1 hl
    rw [hone d1 rfl]
    have hsz1 := hsz d1 (by simp)
    clear hone helse hl hsz
    have hs2 := hs.mono (ok' := fun k => ¬ PMK pb sb fv k) (w' := w.alloc (.cells #[.int .i64 p, .slice (some ⟨g, o, none⟩) 2 cap, .iface 146 (.agg #[])] 62)) (fun k hk h => ⟨h, Below.heap_alloc _ _ _ hk⟩)
    obtain ⟨g', o', cap', pp, po, pn, pc, ti, xv, heq, _, _, e0, e1, e2, hrep⟩ := hs2.cells 1 (by simp)
    simp only [List.length_cons, List.length_nil, Nat.zero_add, Nat.reduceAdd] at heq hs hs2 hcap hB ⊢
    simp only [Value.slice.injEq, Option.some.injEq, Addr.mk.injEq, and_true] at heq
    obtain ⟨⟨rfl, rfl⟩, _, rfl⟩ := heq
    simp only [List.getElem_cons_succ, List.getElem_cons_zero] at hrep
    simp only [Nat.mul_one] at e0 e1 e2
    have HV : Hid (Calls Tryz.prog 25 #[.agg #[.int .i64 pp, .slice po pn pc, .iface ti xv]] (w.alloc (.cells #[.int .i64 p, .slice (some ⟨g, o, none⟩) 2 cap, .iface 146 (.agg #[])] 62)) fun e w' => ∃ ty xy, e = .returned (.iface ty xy) ∧ RepQ (fun k => w.heap.size < k) w' (.iface ty xy) (Mc.valD d1) ∧ Below w.heap.size w w') := by
      refine (value_t 0 (szD d1) d1 _ _ _ (Nat.le_refl _) hsz1 hrep).mono ?_
      rintro e w' ⟨y, rfl, hy, hb⟩
      obtain ⟨ty, xy, rfl⟩ := hy.iface
      exact ⟨ty, xy, rfl, (RepM.toQ _ _ hy (data_valD d1)).mono fun k _ hk => ⟨by simp at hk; omega, rfl⟩, hB.trans (hb.mono (by simp))⟩
    have hol := hp.own_lt
    have HP : Hid (PAtK pb sb kb env fl fv n w) := hp
    clear hrep hs hs2 hp
    unfold lsV
    go_enter Tryz.func49, Tryz.ntmps49
    go_wp2_with (go_at_call 25; refine HV.out.mono ?_; rintro e w1 ⟨ty, xy, rfl, hq, hb⟩)
    go_ret
    refine ⟨_, fv, n, rfl, ⟨_, _, rfl⟩, fun x hx => ?_, ?_, by omega, Kept.of_below hb _, NewF.refl _ _⟩
    · cases hx
      exact .quoted _ _ (hq.mono fun k _ hk => ⟨⟨by omega, fun e => by have := hol k e; omega⟩, rfl⟩)
    · have : flOr fl (Rd.PR.ok (Rd.F.quoted d1)) = fl := by cases fl <;> rfl
      rw [this]
      exact HP.out.kept hb
  · rw [helse hl]
    have HREF : Hid (Calls Tryz.prog 59 #[.pointer (some ⟨pb, 0, none⟩), .agg #[.int .i64 p, .slice (some ⟨g, o, none⟩) (rest.length + 1) cap, .iface 146 (.agg #[])]] (w.alloc (.cells #[.int .i64 p, .slice (some ⟨g, o, none⟩) (rest.length + 1) cap, .iface 146 (.agg #[])] 62)) fun e w' => e = .returned .nilIface ∧ RuleK pb sb kb env fl fv n (Rd.kzL rest + 1) w (.no p) e w') := refuse_d pb sb kb env fl fv n _ w p _ _ _ _ _ hp hnz (by omega) _ hB
    have hne : ¬ (rest.length : Int) + 1 = 2 := by omega
    clear hp hs hone helse hsz
    unfold lsV
    go_enter Tryz.func49, Tryz.ntmps49
    go_wp2_with (first | (go_at_call 59; refine HREF.out.mono ?_; rintro e w1 ⟨rfl, hfin⟩; have HFIN := (show Hid _ from hfin); clear hfin))
    go_ret
    exact HFIN.out
end Go.Proofs.YtodeeegbajgafaaGreatDoor

namespace Go.Proofs.YtodeeegbajgafaaGreatDoor
open Go.RowKit
theorem RepFs.get {ok : Nat → Prop} {w : World} {g o n cap : Nat} {fs : List Rd.F} (h : RepFs ok w (.slice (some ⟨g, o, none⟩) n cap) fs) (i : Nat) (hi : i < fs.length) : ∃ x, w.cell? ⟨g, o + i, none⟩ = some x ∧ RepF ok w x fs[i] := by
  obtain ⟨g', o', cap', hv, _, _, _, hcl⟩ := RepFs.cells h
  simp only [Value.slice.injEq, Option.some.injEq, Addr.mk.injEq, and_true] at hv
  obtain ⟨⟨rfl, rfl⟩, _, _⟩ := hv
  obtain ⟨t, x, hc, hr⟩ := hcl i hi
  exact ⟨_, hc, hr⟩
set_option maxHeartbeats 2000000 in
set_option maxRecDepth 10000 in
theorem choice_k (pb sb kb : Nat) (env : List (List Rd.Sym)) (fl : Option Nat) (fv : Value) (n : Nat) (w : World) (p : Nat) (g o cap : Nat) (d0 : Rd.D) (rest : List Rd.D) (hp : PAtK pb sb kb env fl fv n w)
    (hs : RepS (fun k => ¬ PMK pb sb fv k) w (.slice (some ⟨g, o, none⟩) (rest.length + 1) cap) (d0 :: rest)) (hnz : n + (Rd.kzL rest + 1) ≤ 4000) (R : Rd.PR Rd.F) (f : Nat) (HF : FormsCK f) (hf2 : 2 * Rd.kzL rest + 1 ≤ f) (hf : env.length + f ≤ 5000) (h2 : rest.length = 2 → R = (match Rd.kForms f env rest with | .ok [t, a] => .ok (.ift t a) | .ok _ => .bad p | .no q => .bad q | .bad q => .bad q)) (h3 : rest.length = 3 → R = (match Rd.kForms f env rest with | .ok [t, a, e] => .ok (.ite t a e) | .ok _ => .bad p | .no q => .bad q | .bad q => .bad q)) (helse : rest.length ≠ 2 → rest.length ≠ 3 → R = .no p) :
    Calls Tryz.prog 50 #[.pointer (some ⟨pb, 0, none⟩), lsV p g o (rest.length + 1) cap] w (RuleK pb sb kb env fl fv n (Rd.kzL rest + 1) w R) := by
  have hcap := hs.len.2
  simp only [List.length_cons] at hcap
  have hB := box_below w (.cells #[.int .i64 p, .slice (some ⟨g, o, none⟩) (rest.length + 1) cap, .iface 146 (.agg #[])] 62)
  have hlz := Rd.kzL_len rest
  have HC : Hid (∀ W, Below w.heap.size w W → Calls Tryz.prog 101 #[.pointer (some ⟨pb, 0, none⟩), .slice (some ⟨g, o + 3, none⟩) rest.length (cap - 1)] W (RulesK pb sb kb env fl fv n (Rd.kzL rest) rest.length W (Rd.kForms f env rest))) := fun W hW => rest_forms f HF pb sb kb env fl fv n w g o cap d0 rest hp hs hf2 hf (by omega) W hW
  have hkl := Rd.kForms_length f env rest
  have hfine : ∀ q, Rd.kForms f env rest = .no q → False := fun q h => by have := Rd.kForms_fine f env rest; rw [h] at this; exact this
  by_cases hl2 : rest.length = 2
  · have hRR := h2 hl2
    clear h2 h3 helse
    generalize Rd.kForms f env rest = K at *
    generalize Rd.kzL rest = Z at *
    have hB : Below w.heap.size w (w.alloc (.cells #[.int .i64 p, .slice (some ⟨g, o, none⟩) 3 cap, .iface 146 (.agg #[])] 62)) := by rw [hl2] at hB; exact hB
    have HC : Hid (∀ W, Below w.heap.size w W → Calls Tryz.prog 101 #[.pointer (some ⟨pb, 0, none⟩), .slice (some ⟨g, o + 3, none⟩) 2 (cap - 1)] W (RulesK pb sb kb env fl fv n Z 2 W K)) := by rw [hl2] at HC; exact HC
    have hcap : 3 ≤ cap := by omega
    have hkl : ∀ xs, K = .ok xs → xs.length = 2 := fun xs h => (hkl xs h).trans hl2
    have HRR := (show Hid _ from hRR)
    have HKS : Hid ((∃ q, K = .bad q) ∨ ∃ t a, K = .ok [t, a]) := by
      cases hK : K with
      | bad q => exact .inl ⟨q, rfl⟩
      | no q => exact (hfine q hK).elim
      | ok xs =>
        have := hkl xs hK
        match xs, this with
        | [t, a], _ => exact .inr ⟨t, a, rfl⟩
    clear hRR
    rw [hl2]
    clear hs HF hp hl2 hlz
    unfold lsV
    simp only [Nat.reduceAdd]
    go_enter Tryz.func50, Tryz.ntmps50
    go_wp2_with (go_at_call 101; refine (HC.out _ hB).mono ?_; rintro e w1 ⟨v, fv', n', rfl, hsh, hrep, hp1, hn1, hk1, hnw1⟩; obtain ⟨sg, scap, sc, sT, rfl, hsc, _, hst, hcl⟩ := id hsh; obtain ⟨x0, z0, i0⟩ := hcl 0 (by omega); obtain ⟨x1, z1, i1⟩ := hcl 1 (by omega); have y0 : w1.cell? ⟨sg, 0, none⟩ = some x0 := ((cell_of_at hst 0).trans z0); have y1 : w1.cell? ⟨sg, 1, none⟩ = some x1 := ((cell_of_at hst 1).trans z1); clear hcl hst)
    have HREP := (show Hid _ from hrep)
    clear hrep z0 z1
    rcases i0 with rfl | ⟨t0, u0, rfl⟩ <;> rcases i1 with rfl | ⟨t1, u1, rfl⟩ <;> go_region
    all_goals
      go_wp2
      go_ret
      refine ⟨_, fv', n', rfl, (by rw [HRR.out]; rcases HKS.out with ⟨q, hq⟩ | ⟨t, a, hq⟩ <;> rw [hq] <;> exact ⟨_, _, rfl⟩), ?_, ?_, by omega, (hk1.below_then hB).drew, hnw1.below hB⟩
      · intro x hx
        rw [HRR.out] at hx
        rcases HKS.out with ⟨q, hq⟩ | ⟨t, a, hq⟩
        · rw [hq] at hx
          cases hx
        · have hr := HREP.out [t, a] hq
          rw [hq] at hx
          cases hx
          obtain ⟨v0, k0, r0⟩ := hr.get 0 (by simp)
          obtain ⟨v1, k1, r1⟩ := hr.get 1 (by simp)
          rw [Nat.zero_add] at k0 k1
          cases Option.some.inj (y0.symm.trans k0)
          cases Option.some.inj (y1.symm.trans k1)
          exact .ift _ _ _ _ ((NewOk.of hB r0).mono fun k _ h => ⟨h, rfl⟩) ((NewOk.of hB r1).mono fun k _ h => ⟨h, rfl⟩)
      · have hfl : flOr fl (match K with | .ok [t, a] => (.ok (.ift t a) : Rd.PR Rd.F) | .ok _ => .bad p | .no q => .bad q | .bad q => .bad q) = flOr fl K := by
          rcases HKS.out with ⟨q, hq⟩ | ⟨t, a, hq⟩ <;> rw [hq] <;> cases fl <;> rfl
        rw [HRR.out, hfl]
        exact hp1.kept (Below.refl _ _).drew
  · by_cases hl3 : rest.length = 3
    · have hRR := h3 hl3
      clear h2 h3 helse
      generalize Rd.kForms f env rest = K at *
      generalize Rd.kzL rest = Z at *
      have hB : Below w.heap.size w (w.alloc (.cells #[.int .i64 p, .slice (some ⟨g, o, none⟩) 4 cap, .iface 146 (.agg #[])] 62)) := by rw [hl3] at hB; exact hB
      have HC : Hid (∀ W, Below w.heap.size w W → Calls Tryz.prog 101 #[.pointer (some ⟨pb, 0, none⟩), .slice (some ⟨g, o + 3, none⟩) 3 (cap - 1)] W (RulesK pb sb kb env fl fv n Z 3 W K)) := by rw [hl3] at HC; exact HC
      have hcap : 4 ≤ cap := by omega
      have hkl : ∀ xs, K = .ok xs → xs.length = 3 := fun xs h => (hkl xs h).trans hl3
      have HRR := (show Hid _ from hRR)
      have HKS : Hid ((∃ q, K = .bad q) ∨ ∃ t a e, K = .ok [t, a, e]) := by
        cases hK : K with
        | bad q => exact .inl ⟨q, rfl⟩
        | no q => exact (hfine q hK).elim
        | ok xs =>
          have := hkl xs hK
          match xs, this with
          | [t, a, e], _ => exact .inr ⟨t, a, e, rfl⟩
      clear hRR
      rw [hl3]
      clear hs HF hp hl3 hlz
      unfold lsV
      simp only [Nat.reduceAdd]
      go_enter Tryz.func50, Tryz.ntmps50
      go_wp2_with (go_at_call 101; refine (HC.out _ hB).mono ?_; rintro e w1 ⟨v, fv', n', rfl, hsh, hrep, hp1, hn1, hk1, hnw1⟩; obtain ⟨sg, scap, sc, sT, rfl, hsc, _, hst, hcl⟩ := id hsh; obtain ⟨x0, z0, i0⟩ := hcl 0 (by omega); obtain ⟨x1, z1, i1⟩ := hcl 1 (by omega); obtain ⟨x2, z2, i2⟩ := hcl 2 (by omega); have y0 : w1.cell? ⟨sg, 0, none⟩ = some x0 := ((cell_of_at hst 0).trans z0); have y1 : w1.cell? ⟨sg, 1, none⟩ = some x1 := ((cell_of_at hst 1).trans z1); have y2 : w1.cell? ⟨sg, 2, none⟩ = some x2 := ((cell_of_at hst 2).trans z2); clear hcl hst)
      have HREP := (show Hid _ from hrep)
      clear hrep z0 z1 z2
      rcases i0 with rfl | ⟨t0, u0, rfl⟩ <;> rcases i1 with rfl | ⟨t1, u1, rfl⟩ <;> rcases i2 with rfl | ⟨t2, u2, rfl⟩ <;> go_region
      all_goals
        go_wp2
        go_ret
        refine ⟨_, fv', n', rfl, (by rw [HRR.out]; rcases HKS.out with ⟨q, hq⟩ | ⟨t, a, e, hq⟩ <;> rw [hq] <;> exact ⟨_, _, rfl⟩), ?_, ?_, by omega, (hk1.below_then hB).drew, hnw1.below hB⟩
        · intro x hx
          rw [HRR.out] at hx
          rcases HKS.out with ⟨q, hq⟩ | ⟨t, a, ee, hq⟩
          · rw [hq] at hx
            cases hx
          · have hr := HREP.out [t, a, ee] hq
            rw [hq] at hx
            cases hx
            obtain ⟨v0, k0, r0⟩ := hr.get 0 (by simp)
            obtain ⟨v1, k1, r1⟩ := hr.get 1 (by simp)
            obtain ⟨v2, k2, r2⟩ := hr.get 2 (by simp)
            rw [Nat.zero_add] at k0 k1 k2
            cases Option.some.inj (y0.symm.trans k0)
            cases Option.some.inj (y1.symm.trans k1)
            cases Option.some.inj (y2.symm.trans k2)
            exact .ite _ _ _ _ _ _ ((NewOk.of hB r0).mono fun k _ h => ⟨h, rfl⟩) ((NewOk.of hB r1).mono fun k _ h => ⟨h, rfl⟩) ((NewOk.of hB r2).mono fun k _ h => ⟨h, rfl⟩)
        · have hfl : flOr fl (match K with | .ok [t, a, e] => (.ok (.ite t a e) : Rd.PR Rd.F) | .ok _ => .bad p | .no q => .bad q | .bad q => .bad q) = flOr fl K := by
            rcases HKS.out with ⟨q, hq⟩ | ⟨t, a, e, hq⟩ <;> rw [hq] <;> cases fl <;> rfl
          rw [HRR.out, hfl]
          exact hp1.kept (Below.refl _ _).drew
    · rw [helse hl2 hl3]
      have HREF : Hid (Calls Tryz.prog 59 #[.pointer (some ⟨pb, 0, none⟩), .agg #[.int .i64 p, .slice (some ⟨g, o, none⟩) (rest.length + 1) cap, .iface 146 (.agg #[])]] (w.alloc (.cells #[.int .i64 p, .slice (some ⟨g, o, none⟩) (rest.length + 1) cap, .iface 146 (.agg #[])] 62)) fun e w' => e = .returned .nilIface ∧ RuleK pb sb kb env fl fv n (Rd.kzL rest + 1) w (.no p) e w') := refuse_d pb sb kb env fl fv n _ w p _ _ _ _ _ hp hnz (by omega) _ hB
      have hn2 : ¬ (rest.length : Int) + 1 = 3 := by omega
      have hn3 : ¬ (rest.length : Int) + 1 = 4 := by omega
      clear hp hs HF h2 h3 helse HC hkl
      unfold lsV
      go_enter Tryz.func50, Tryz.ntmps50
      go_wp2_with (first | (go_at_call 59; refine HREF.out.mono ?_; rintro e w1 ⟨rfl, hfin⟩; have HFIN := (show Hid _ from hfin); clear hfin))
      go_ret
      exact HFIN.out
end Go.Proofs.YtodeeegbajgafaaGreatDoor

namespace Go.Proofs.YtodeeegbajgafaaGreatDoor
open Go.RowKit
theorem RepN.newK {pb sb : Nat} {fv : Value} {w W : World} {nv : Value} {ns : List Rd.Sym} (h : RepN (fun k => w.heap.size ≤ k) W nv ns) (hpb : pb < w.heap.size) (hsb : sb < w.heap.size) (hol : ∀ k, fv.ownBlock = some k → k < w.heap.size) : RepN (fun k => ¬ PMK pb sb fv k) W nv ns := h.mono fun k _ hk => ⟨fun e => by
  have hk' : w.heap.size ≤ k := hk
  rcases e with e | e | e
  · omega
  · omega
  · have := hol k e; omega, rfl⟩
/-- What a body comes to. -/
def WithinR (pb sb kb : Nat) (env : List (List Rd.Sym)) (fl : Option Nat) (fv : Value) (n m len : Nat) (w : World) (r : Rd.PR (List Rd.F)) (e : Ending) (w' : World) : Prop := ∃ v fv' n', e = .returned v ∧ (∃ g cap, v = .slice (some ⟨g, 0, none⟩) len cap) ∧ (∀ xs, r = .ok xs → RepFs (NewOk w fv') w' v xs) ∧ PAtK pb sb kb env (flOr fl r) fv' n' w' ∧ n' ≤ n + m ∧ Kept (PMK pb sb fv) w w' ∧ NewF w fv fv'
theorem rest_within (f : Nat) (HF : FormsCK f) (pb sb kb : Nat) (env : List (List Rd.Sym)) (fl : Option Nat) (fv : Value) (n : Nat) (w : World) (g o cap : Nat) (d0 d1 : Rd.D) (rest : List Rd.D) (hp : PAtK pb sb kb env fl fv n w) (hs : RepS (fun k => ¬ PMK pb sb fv k) w (.slice (some ⟨g, o, none⟩) (rest.length + 2) cap) (d0 :: d1 :: rest)) (hf2 : 2 * Rd.kzL rest + 1 ≤ f) (hf : env.length + 1 + f ≤ 5000) (hnz : n + Rd.kzL rest ≤ 4000) (W : World) (hb : Below w.heap.size w W) (nv : Value) (ns : List Rd.Sym) (hn : RepN (fun k => ¬ PMK pb sb fv k) W nv ns) (hd : Differ ns) (hl : ns.length ≤ 5000) :
    Calls Tryz.prog 104 #[.pointer (some ⟨pb, 0, none⟩), nv, .slice (some ⟨g, o + 6, none⟩) rest.length (cap - 2)] W (WithinR pb sb kb env fl fv n (Rd.kzL rest) rest.length W (Rd.kForms f (ns :: env) rest)) := by
  have hd2 := hs.drop 2 (by simp)
  simp only [List.length_cons, List.drop_succ_cons, List.drop_zero, show 3 * 2 = 6 by omega, show rest.length + 1 + 1 - 2 = rest.length by omega] at hd2
  exact within_k f HF pb sb kb env fl fv n W ns nv rest _ (hp.kept hb) hf2 hf hnz hl hn hd (hd2.mono fun k hk h => ⟨h, hb.block k hk⟩)
set_option maxHeartbeats 2000000 in
set_option maxRecDepth 10000 in
theorem proc_k (f : Nat) (HF : FormsCK f) (pb sb kb : Nat) (env : List (List Rd.Sym)) (fl : Option Nat) (fv : Value) (n m : Nat) (w : World) (p : Nat) (g o cap : Nat) (d0 d1 : Rd.D) (rest ps : List Rd.D) (psl : Value) (hp : PAtK pb sb kb env fl fv n w)
    (hs : RepS (fun k => ¬ PMK pb sb fv k) w (.slice (some ⟨g, o, none⟩) (rest.length + 2) cap) (d0 :: d1 :: rest)) (hps : RepS (fun _ => True) w psl ps) (hpl : ps.length ≤ 4000) (hf2 : 2 * Rd.kzL rest + 1 ≤ f) (hf : env.length + 1 + f ≤ 5000) (hnz : n + m ≤ 4000) (hm : Rd.kzL rest + 1 ≤ m) (hr : rest ≠ []) (R : Rd.PR Rd.F) (hnone : Rd.namesK ps [] = none → R = .no p) (hsome : ∀ ns, Rd.namesK ps [] = some ns → R = (Rd.kForms f (ns :: env) rest).map (.lam ns.length ·)) :
    Calls Tryz.prog 102 #[.pointer (some ⟨pb, 0, none⟩), lsV p g o (rest.length + 2) cap, psl] w (RuleK pb sb kb env fl fv n m w R) := by
  have hcap := hs.len.2
  simp only [List.length_cons] at hcap
  have hB := box_below w (.cells #[.int .i64 p, .slice (some ⟨g, o, none⟩) (rest.length + 2) cap, .iface 146 (.agg #[])] 62)
  have hlz := Rd.kzL_len rest
  have hlr : 0 < rest.length := List.length_pos_iff.2 hr
  obtain ⟨pa, pc, rfl⟩ : ∃ a c, psl = .slice a ps.length c := by
    rcases hps with ⟨rfl, rfl⟩ | ⟨g, o, cap, c, T, va, vb, vc, rfl, _⟩ <;> exact ⟨_, _, rfl⟩
  have HN : Hid (Calls Tryz.prog 103 #[.pointer (some ⟨pb, 0, none⟩), .slice pa ps.length pc] (w.alloc (.cells #[.int .i64 p, .slice (some ⟨g, o, none⟩) (rest.length + 2) cap, .iface 146 (.agg #[])] 62)) (NamesR (Rd.namesK ps []) (w.alloc (.cells #[.int .i64 p, .slice (some ⟨g, o, none⟩) (rest.length + 2) cap, .iface 146 (.agg #[])] 62)))) := namesOf_k fv pb sb kb env _ ps _ (hp.kept hB).par (hps.mono fun k hk _ => ⟨trivial, hB.block k hk⟩) (by omega)
  obtain ⟨c0, c1, c2, _, _, _⟩ := cells3 (at_new w (.cells #[.int .i64 p, .slice (some ⟨g, o, none⟩) (rest.length + 2) cap, .iface 146 (.agg #[])] 62))
  have HQ : Hid (∀ W, Below (w.alloc (.cells #[.int .i64 p, .slice (some ⟨g, o, none⟩) (rest.length + 2) cap, .iface 146 (.agg #[])] 62)).heap.size (w.alloc (.cells #[.int .i64 p, .slice (some ⟨g, o, none⟩) (rest.length + 2) cap, .iface 146 (.agg #[])] 62)) W → W.cell? ⟨w.heap.size, 0, none⟩ = some (.int .i64 p) ∧ W.cell? ⟨w.heap.size, 1, none⟩ = some (.slice (some ⟨g, o, none⟩) (rest.length + 2) cap) ∧ W.cell? ⟨w.heap.size, 2, none⟩ = some (.iface 146 (.agg #[]))) := fun W hW => ⟨(Kept.of_below hW (fun _ => False)).cell id c0, (Kept.of_below hW (fun _ => False)).cell id c1, (Kept.of_below hW (fun _ => False)).cell id c2⟩
  clear c0 c1 c2
  cases hnm : Rd.namesK ps [] with
  | none =>
    rw [hnone hnm]
    have HREF : Hid (∀ W, Below w.heap.size w W → Calls Tryz.prog 59 #[.pointer (some ⟨pb, 0, none⟩), .agg #[.int .i64 p, .slice (some ⟨g, o, none⟩) (rest.length + 2) cap, .iface 146 (.agg #[])]] W fun e w' => e = .returned .nilIface ∧ RuleK pb sb kb env fl fv n m w (.no p) e w') := fun W hW => refuse_d pb sb kb env fl fv n _ w p _ _ _ _ _ hp hnz (by omega) W hW
    rw [hnm] at HN
    have HN2 : Hid (Calls Tryz.prog 103 #[.pointer (some ⟨pb, 0, none⟩), .slice pa ps.length pc] (w.alloc (.cells #[.int .i64 p, .slice (some ⟨g, o, none⟩) (rest.length + 2) cap, .iface 146 (.agg #[])] 62)) fun e w' => e = .returned (.tuple #[.slice none 0 0, .bool false]) ∧ Below (w.alloc (.cells #[.int .i64 p, .slice (some ⟨g, o, none⟩) (rest.length + 2) cap, .iface 146 (.agg #[])] 62)).heap.size (w.alloc (.cells #[.int .i64 p, .slice (some ⟨g, o, none⟩) (rest.length + 2) cap, .iface 146 (.agg #[])] 62)) w') := HN.out.mono fun e w' ⟨h1, h2⟩ => ⟨h1, h2⟩
    have HBT : Hid (∀ W, Below (w.alloc (.cells #[.int .i64 p, .slice (some ⟨g, o, none⟩) (rest.length + 2) cap, .iface 146 (.agg #[])] 62)).heap.size (w.alloc (.cells #[.int .i64 p, .slice (some ⟨g, o, none⟩) (rest.length + 2) cap, .iface 146 (.agg #[])] 62)) W → Below w.heap.size w W) := fun W hW => hB.trans (hW.mono (by simp))
    clear hp hs HF hps HN hnone hsome hnm hB
    unfold lsV
    go_enter Tryz.func102, Tryz.ntmps102
    go_wp2_with (first | (go_at_call 103; refine HN2.out.mono ?_; rintro e w1 ⟨rfl, hb1⟩; obtain ⟨q0, q1, q2⟩ := HQ.out _ hb1) | (go_at_call 59; refine (HREF.out _ (HBT.out _ hb1)).mono ?_; rintro e w2 ⟨rfl, hfin⟩; have HFIN := (show Hid _ from hfin); clear hfin))
    go_ret
    exact HFIN.out
  | some ns =>
    rw [hsome ns hnm]
    have hdf := Rd.namesK_differ ps [] ns (fun i j hi _ _ => absurd hi (Nat.not_lt_zero _)) hnm
    have hnl := Rd.namesK_length ps [] ns hnm
    simp only [List.length_nil, Nat.zero_add] at hnl
    have hlp := hp.par.lt
    have hol := hp.own_lt
    have HW : Hid (∀ W nv, Below (w.alloc (.cells #[.int .i64 p, .slice (some ⟨g, o, none⟩) (rest.length + 2) cap, .iface 146 (.agg #[])] 62)).heap.size (w.alloc (.cells #[.int .i64 p, .slice (some ⟨g, o, none⟩) (rest.length + 2) cap, .iface 146 (.agg #[])] 62)) W → RepN (fun k => (w.alloc (.cells #[.int .i64 p, .slice (some ⟨g, o, none⟩) (rest.length + 2) cap, .iface 146 (.agg #[])] 62)).heap.size ≤ k) W nv ns → Calls Tryz.prog 104 #[.pointer (some ⟨pb, 0, none⟩), nv, .slice (some ⟨g, o + 6, none⟩) rest.length (cap - 2)] W (WithinR pb sb kb env fl fv n (Rd.kzL rest) rest.length W (Rd.kForms f (ns :: env) rest))) := fun W nv hW hN => rest_within f HF pb sb kb env fl fv n w g o cap d0 d1 rest hp hs hf2 hf (by omega) W (hB.trans (hW.mono (by simp))) nv ns (hN.newK (w := w.alloc (.cells #[.int .i64 p, .slice (some ⟨g, o, none⟩) (rest.length + 2) cap, .iface 146 (.agg #[])] 62)) (by simp; omega) (by simp; omega) (fun k e => by have := hol k e; simp; omega)) hdf (by omega)
    rw [hnm] at HN
    have HN2 : Hid (Calls Tryz.prog 103 #[.pointer (some ⟨pb, 0, none⟩), .slice pa ps.length pc] (w.alloc (.cells #[.int .i64 p, .slice (some ⟨g, o, none⟩) (rest.length + 2) cap, .iface 146 (.agg #[])] 62)) fun e w' => ∃ nb nc, e = .returned (.tuple #[.slice nb ns.length nc, .bool true]) ∧ RepN (fun k => (w.alloc (.cells #[.int .i64 p, .slice (some ⟨g, o, none⟩) (rest.length + 2) cap, .iface 146 (.agg #[])] 62)).heap.size ≤ k) w' (.slice nb ns.length nc) ns ∧ Below (w.alloc (.cells #[.int .i64 p, .slice (some ⟨g, o, none⟩) (rest.length + 2) cap, .iface 146 (.agg #[])] 62)).heap.size (w.alloc (.cells #[.int .i64 p, .slice (some ⟨g, o, none⟩) (rest.length + 2) cap, .iface 146 (.agg #[])] 62)) w') := HN.out.mono fun e w' ⟨⟨nv, h1, h3⟩, h2⟩ => by
      obtain ⟨nb, nc, rfl, _⟩ := h3.shape
      exact ⟨nb, nc, h1, h3, h2⟩
    have HBT : Hid (∀ W, Below (w.alloc (.cells #[.int .i64 p, .slice (some ⟨g, o, none⟩) (rest.length + 2) cap, .iface 146 (.agg #[])] 62)).heap.size (w.alloc (.cells #[.int .i64 p, .slice (some ⟨g, o, none⟩) (rest.length + 2) cap, .iface 146 (.agg #[])] 62)) W → Below w.heap.size w W) := fun W hW => hB.trans (hW.mono (by simp))
    generalize Rd.kForms f (ns :: env) rest = K at *
    generalize Rd.kzL rest = Z at *
    have j1 : ¬ cap = 1 := by omega
    have j2 : ¬ cap = 2 := by omega
    clear hp hs HF hps HN hnone hsome hnm hB hdf hol hlp hnl
    unfold lsV
    go_enter Tryz.func102, Tryz.ntmps102
    go_wp2_with (first | (go_at_call 103; refine HN2.out.mono ?_; rintro e w1 ⟨nb, nc, rfl, hN1, hb1⟩; obtain ⟨q0, q1, q2⟩ := HQ.out _ hb1; have HNN := (show Hid _ from hN1); clear hN1) | (go_at_call 104; refine (HW.out _ _ hb1 HNN.out).mono ?_; rintro e w2 ⟨v, fv', n', rfl, ⟨sg, scap, rfl⟩, hrep, hp1, hn1, hk1, hnw1⟩))
    go_ret
    refine ⟨_, fv', n', rfl, shp_map _ _ _ _, ?_, by rw [flOr_map]; exact hp1, by omega, hk1.below_then (HBT.out _ hb1), hnw1.below (HBT.out _ hb1)⟩
    intro x hx
    cases K with
    | bad q => cases hx
    | no q => cases hx
    | ok xs =>
      cases hx
      exact .lam _ _ _ (NewOk.of (HBT.out _ hb1) (hrep xs rfl))
end Go.Proofs.YtodeeegbajgafaaGreatDoor

namespace Go.Proofs.YtodeeegbajgafaaGreatDoor
open Go.RowKit
theorem notPMK {pb sb kb : Nat} {env : List (List Rd.Sym)} {fl : Option Nat} {fv : Value} {n : Nat} {w : World} (h : PAtK pb sb kb env fl fv n w) {k : Nat} (hk : w.heap.size ≤ k) : ¬ PMK pb sb fv k := fun e => by
  have hlp := h.par.lt
  rcases e with e | e | e
  · omega
  · omega
  · have := h.own_lt k e; omega
set_option maxHeartbeats 2000000 in
set_option maxRecDepth 10000 in
theorem lambda_k (f : Nat) (HF : FormsCK f) (pb sb kb : Nat) (env : List (List Rd.Sym)) (fl : Option Nat) (fv : Value) (n : Nat) (w : World) (p : Nat) (g o cap : Nat) (d0 : Rd.D) (rest0 : List Rd.D) (hp : PAtK pb sb kb env fl fv n w)
    (hs : RepS (fun k => ¬ PMK pb sb fv k) w (.slice (some ⟨g, o, none⟩) (rest0.length + 1) cap) (d0 :: rest0)) (hf2 : 2 * Rd.kzL rest0 + 1 ≤ f) (hf : env.length + 1 + f ≤ 5000) (hnz : n + (Rd.kzL rest0 + 1) ≤ 4000) (R : Rd.PR Rd.F) (hshort : rest0.length < 2 → R = .no p) (hno : ∀ d1 rest, rest0 = d1 :: rest → d1.isList = false → R = .no p)
    (hnone : ∀ d1 rest, rest0 = d1 :: rest → rest ≠ [] → d1.isList = true → Rd.namesK d1.parts [] = none → R = .no p) (hsome : ∀ d1 rest ns, rest0 = d1 :: rest → rest ≠ [] → d1.isList = true → Rd.namesK d1.parts [] = some ns → R = (Rd.kForms f (ns :: env) rest).map (.lam ns.length ·)) :
    Calls Tryz.prog 51 #[.pointer (some ⟨pb, 0, none⟩), lsV p g o (rest0.length + 1) cap] w (RuleK pb sb kb env fl fv n (Rd.kzL rest0 + 1) w R) := by
  have hcap := hs.len.2
  simp only [List.length_cons] at hcap
  have hlz := Rd.kzL_len rest0
  by_cases hl : rest0.length < 2
  · rw [hshort hl]
    have hB := box_below w (.cells #[.int .i64 p, .slice (some ⟨g, o, none⟩) (rest0.length + 1) cap, .iface 146 (.agg #[])] 62)
    have HREF : Hid (Calls Tryz.prog 59 #[.pointer (some ⟨pb, 0, none⟩), .agg #[.int .i64 p, .slice (some ⟨g, o, none⟩) (rest0.length + 1) cap, .iface 146 (.agg #[])]] (w.alloc (.cells #[.int .i64 p, .slice (some ⟨g, o, none⟩) (rest0.length + 1) cap, .iface 146 (.agg #[])] 62)) fun e w' => e = .returned .nilIface ∧ RuleK pb sb kb env fl fv n (Rd.kzL rest0 + 1) w (.no p) e w') := refuse_d pb sb kb env fl fv n _ w p _ _ _ _ _ hp hnz (by omega) _ hB
    have j1 : (rest0.length : Int) + 1 < 3 := by omega
    clear hp hs HF hshort hno hnone hsome
    unfold lsV
    go_enter Tryz.func51, Tryz.ntmps51
    go_wp2_with (first | (go_at_call 59; refine HREF.out.mono ?_; rintro e w1 ⟨rfl, hfin⟩; have HFIN := (show Hid _ from hfin); clear hfin))
    go_ret
    exact HFIN.out
  · obtain ⟨d1, rest, rfl⟩ : ∃ d1 rest, rest0 = d1 :: rest := by
      cases rest0 with
      | nil => simp at hl
      | cons d1 rest => exact ⟨d1, rest, rfl⟩
    simp only [List.length_cons] at hl hcap hs hlz ⊢
    have hr : rest ≠ [] := fun e => by subst e; simp at hl
    have hlr : 0 < rest.length := List.length_pos_iff.2 hr
    have hz : Rd.kzL (d1 :: rest) = Rd.kzD d1 + Rd.kzL rest := by rw [Rd.kzL]
    have hzp := Rd.kzD_pos d1
    have hB := box_below w (.cells #[.int .i64 p, .slice (some ⟨g, o, none⟩) (rest.length + 2) cap, .iface 146 (.agg #[])] 62)
    have hs2 := hs.mono (ok' := fun k => ¬ PMK pb sb fv k) (w' := w.alloc (.cells #[.int .i64 p, .slice (some ⟨g, o, none⟩) (rest.length + 2) cap, .iface 146 (.agg #[])] 62)) (fun k hk h => ⟨h, Below.heap_alloc _ _ _ hk⟩)
    obtain ⟨q, ps, en⟩ := d1
    have hzd : Rd.kzD (.mk q ps en) = 1 + Rd.kzL ps := by rw [Rd.kzD]
    have hpz := Rd.kzL_len ps
    obtain ⟨po, pc, e0, e1, e2, hok, hps⟩ := hs2.listAt 1 (by simp) (p := q) (ps := ps) (en := en) rfl
    obtain ⟨ti, xv, hav⟩ : ∃ t x, aV en = .iface t x := by cases en <;> exact ⟨_, _, rfl⟩
    rw [hav] at e2
    simp only [Nat.mul_one] at e0 e1 e2
    have HI : Hid (∀ W, Calls Tryz.prog 60 #[.agg #[.int .i64 q, .slice po ps.length pc, .iface ti xv]] W fun e w' => e = .returned (.bool en.isEmpty) ∧ Below W.heap.size W w') := fun W => by rw [← hav]; exact isList_any q po ps.length pc en W
    have hisl : (Rd.D.mk q ps en).isList = en.isEmpty := by cases en <;> rfl
    have hB1 : ∀ W, Below (w.alloc (.cells #[.int .i64 p, .slice (some ⟨g, o, none⟩) (rest.length + 2) cap, .iface 146 (.agg #[])] 62)).heap.size (w.alloc (.cells #[.int .i64 p, .slice (some ⟨g, o, none⟩) (rest.length + 2) cap, .iface 146 (.agg #[])] 62)) W → Below w.heap.size w W := fun W hW => hB.trans (hW.mono (by simp))
    have HB1 := (show Hid _ from hB1)
    by_cases hise : en.isEmpty = true
    · have hRe : (Rd.namesK ps [] = none → R = .no p) ∧ ∀ ns, Rd.namesK ps [] = some ns → R = (Rd.kForms f (ns :: env) rest).map (.lam ns.length ·) := ⟨fun h => hnone _ _ rfl hr (hisl.trans hise) h, fun ns h => hsome _ _ ns rfl hr (hisl.trans hise) h⟩
      have hnb := notPMK hp (Nat.le_refl w.heap.size)
      have HPR : Hid (∀ W, Below (w.alloc (.cells #[.int .i64 p, .slice (some ⟨g, o, none⟩) (rest.length + 2) cap, .iface 146 (.agg #[])] 62)).heap.size (w.alloc (.cells #[.int .i64 p, .slice (some ⟨g, o, none⟩) (rest.length + 2) cap, .iface 146 (.agg #[])] 62)) W → Calls Tryz.prog 102 #[.pointer (some ⟨pb, 0, none⟩), .agg #[.int .i64 p, .slice (some ⟨g, o, none⟩) (rest.length + 2) cap, .iface 146 (.agg #[])], .slice po ps.length pc] W.drew (RuleK pb sb kb env fl fv n (Rd.kzL (.mk q ps en :: rest) + 1) W.drew R)) := fun W hW => by
        have hb := hB1 W hW
        exact proc_k f HF pb sb kb env fl fv n _ W.drew p g o cap d0 (.mk q ps en) rest ps _ ((hp.kept hb).kept (Below.refl _ _).drew) ((hs.mono fun k hk h => ⟨h, hb.block k hk⟩).mono fun k _ h => ⟨h, rfl⟩) ((hps.mono (ok' := fun _ => True) fun k hk _ => ⟨trivial, hW.block k hk⟩).mono fun k _ h => ⟨h, rfl⟩) (by omega) (by omega) hf (by omega) (by omega) hr R hRe.1 hRe.2
      rw [hise] at HI
      have HOK : Hid (∀ k, PMK pb sb fv k → k ≠ g) := fun k hk e => hok (e ▸ hk)
      have hil2 : ¬ ((rest.length : Int) + 1 + 1 < 3) := by omega
      have hil3 : (1 : Int) < (rest.length : Int) + 2 := by omega
      have hil4 : (1 : Int) < (rest.length : Int) + 1 + 1 := by omega
      clear hp hs HF hshort hno hnone hsome hs2 hps hRe hav hB1 hisl hise
      generalize Rd.kzL (.mk q ps en :: rest) = Z at *
      unfold lsV
      go_enter Tryz.func51, Tryz.ntmps51
      go_wp2_with (go_at_call 60; refine (HI.out _).mono ?_; rintro e w1 ⟨rfl, hb1⟩; have hsz1 : w.heap.size < w1.heap.size := (by have := hb1.size; simp at this; omega); obtain ⟨q0, q1, q2, _, _, _⟩ := cells3 (Below.at hb1 (at_new w _)); have y0 := (Kept.of_below hb1 (PMK pb sb fv)).cell hok e0; have y1 := (Kept.of_below hb1 (PMK pb sb fv)).cell hok e1; have y2 := (Kept.of_below hb1 (PMK pb sb fv)).cell hok e2)
      go_region_held3 (fun W => W.cell? ⟨w.heap.size, 0, none⟩ = some (.int .i64 p) ∧ W.cell? ⟨w.heap.size, 1, none⟩ = some (.slice (some ⟨g, o, none⟩) (rest.length + 2) cap) ∧ W.cell? ⟨w.heap.size, 2, none⟩ = some (.iface 146 (.agg #[])) ∧ W.cell? ⟨g, o + 3 + 1, none⟩ = some (.slice po ps.length pc)) (first | go_keep) (first | (go_at_call 102; refine (HPR.out _ hb1).mono ?_; rintro e w2 hfin; obtain ⟨v, hv⟩ : ∃ v, e = .returned v := (by obtain ⟨v, _, _, h, _⟩ := hfin; exact ⟨v, h⟩); have hk4 : Kept (PMK pb sb fv) w1.drew w2 := (by obtain ⟨_, _, _, _, _, _, _, _, h, _⟩ := hfin; exact h); subst hv; have z0 := hk4.cell hnb q0; have z1 := hk4.cell hnb q1; have z2 := hk4.cell hnb q2; have z3 := hk4.cell hok y1; have HFIN := (show Hid _ from hfin); clear hfin))
      all_goals
        go_wp2
        go_ret
        exact RuleK.from (HB1.out _ (hb1.trans ((Below.refl _ w1).drew.mono hb1.size))) HFIN.out
    · rw [hno _ _ rfl (by rw [hisl]; simpa using hise)]
      have hef : en.isEmpty = false := by simpa using hise
      rw [hef] at HI
      have HREF : Hid (∀ W, Below w.heap.size w W → Calls Tryz.prog 59 #[.pointer (some ⟨pb, 0, none⟩), .agg #[.int .i64 p, .slice (some ⟨g, o, none⟩) (rest.length + 2) cap, .iface 146 (.agg #[])]] W fun e w' => e = .returned .nilIface ∧ RuleK pb sb kb env fl fv n (Rd.kzL (.mk q ps en :: rest) + 1) w (.no p) e w') := fun W hW => refuse_d pb sb kb env fl fv n _ w p _ _ _ _ _ hp hnz (by omega) W hW
      have hil2 : ¬ ((rest.length : Int) + 1 + 1 < 3) := by omega
      clear hp hs HF hshort hno hnone hsome hs2 hps hav hB1 hisl hise hef
      generalize Rd.kzL (.mk q ps en :: rest) = Z at *
      unfold lsV
      go_enter Tryz.func51, Tryz.ntmps51
      go_wp2_with (first | (go_at_call 60; refine (HI.out _).mono ?_; rintro e w1 ⟨rfl, hb1⟩; have hsz1 : w.heap.size < w1.heap.size := (by have := hb1.size; simp at this; omega); obtain ⟨q0, q1, q2, _, _, _⟩ := cells3 (Below.at hb1 (at_new w _))) | (go_at_call 59; refine (HREF.out _ (HB1.out _ hb1)).mono ?_; rintro e w2 ⟨rfl, hfin⟩; have HFIN := (show Hid _ from hfin); clear hfin))
      go_ret
      exact HFIN.out
end Go.Proofs.YtodeeegbajgafaaGreatDoor

namespace Go.Proofs.YtodeeegbajgafaaGreatDoor
open Go.RowKit
set_option maxHeartbeats 2000000 in
set_option maxRecDepth 10000 in
theorem shift_k (f : Nat) (HF : FormsCK f) (pb sb kb : Nat) (env : List (List Rd.Sym)) (fl : Option Nat) (fv : Value) (n : Nat) (w : World) (p : Nat) (g o cap : Nat) (d0 : Rd.D) (rest0 : List Rd.D) (hp : PAtK pb sb kb env fl fv n w)
    (hs : RepS (fun k => ¬ PMK pb sb fv k) w (.slice (some ⟨g, o, none⟩) (rest0.length + 1) cap) (d0 :: rest0)) (hf2 : 2 * Rd.kzL rest0 + 1 ≤ f) (hf : env.length + 1 + f ≤ 5000) (hnz : n + (Rd.kzL rest0 + 1) ≤ 4000) (R : Rd.PR Rd.F) (hshort : rest0.length < 2 → R = .no p)
    (hnone : ∀ d1 rest, rest0 = d1 :: rest → d1.name = none → R = .no p) (hsome : ∀ d1 rest m, rest0 = d1 :: rest → rest ≠ [] → d1.name = some m → R = (Rd.kForms f ([m] :: env) rest).map .shift) :
    Calls Tryz.prog 58 #[.pointer (some ⟨pb, 0, none⟩), lsV p g o (rest0.length + 1) cap] w (RuleK pb sb kb env fl fv n (Rd.kzL rest0 + 1) w R) := by
  have hcap := hs.len.2
  simp only [List.length_cons] at hcap
  have hlz := Rd.kzL_len rest0
  by_cases hl : rest0.length < 2
  · rw [hshort hl]
    have hB := box_below w (.cells #[.int .i64 p, .slice (some ⟨g, o, none⟩) (rest0.length + 1) cap, .iface 146 (.agg #[])] 62)
    have HREF : Hid (Calls Tryz.prog 59 #[.pointer (some ⟨pb, 0, none⟩), .agg #[.int .i64 p, .slice (some ⟨g, o, none⟩) (rest0.length + 1) cap, .iface 146 (.agg #[])]] (w.alloc (.cells #[.int .i64 p, .slice (some ⟨g, o, none⟩) (rest0.length + 1) cap, .iface 146 (.agg #[])] 62)) fun e w' => e = .returned .nilIface ∧ RuleK pb sb kb env fl fv n (Rd.kzL rest0 + 1) w (.no p) e w') := refuse_d pb sb kb env fl fv n _ w p _ _ _ _ _ hp hnz (by omega) _ hB
    have j1 : (rest0.length : Int) + 1 < 3 := by omega
    clear hp hs HF hshort hnone hsome
    unfold lsV
    go_enter Tryz.func58, Tryz.ntmps58
    go_wp2_with (first | (go_at_call 59; refine HREF.out.mono ?_; rintro e w1 ⟨rfl, hfin⟩; have HFIN := (show Hid _ from hfin); clear hfin))
    go_ret
    exact HFIN.out
  · obtain ⟨d1, rest, rfl⟩ : ∃ d1 rest, rest0 = d1 :: rest := by
      cases rest0 with
      | nil => simp at hl
      | cons d1 rest => exact ⟨d1, rest, rfl⟩
    simp only [List.length_cons] at hl hcap hs hlz ⊢
    have hr : rest ≠ [] := fun e => by subst e; simp at hl
    have hlr : 0 < rest.length := List.length_pos_iff.2 hr
    have hz : Rd.kzL (d1 :: rest) = Rd.kzD d1 + Rd.kzL rest := by rw [Rd.kzL]
    have hzp := Rd.kzD_pos d1
    have hzz : Rd.kzL rest ≤ Rd.kzL (d1 :: rest) := by omega
    have hB := box_below w (.cells #[.int .i64 p, .slice (some ⟨g, o, none⟩) (rest.length + 2) cap, .iface 146 (.agg #[])] 62)
    have hs2 := hs.mono (ok' := fun k => ¬ PMK pb sb fv k) (w' := w.alloc (.cells #[.int .i64 p, .slice (some ⟨g, o, none⟩) (rest.length + 2) cap, .iface 146 (.agg #[])] 62)) (fun k hk h => ⟨h, Below.heap_alloc _ _ _ hk⟩)
    obtain ⟨g', o', cap', pp, po, pn, pc, ti, xv, heq, hok, _, e0, e1, e2, hrep1⟩ := hs2.cells 1 (by simp)
    simp only [Value.slice.injEq, Option.some.injEq, Addr.mk.injEq, and_true] at heq
    obtain ⟨⟨rfl, rfl⟩, -, rfl⟩ := heq
    simp only [Nat.mul_one] at e0 e1 e2
    simp only [List.getElem_cons_succ, List.getElem_cons_zero] at hrep1
    have hNM := nameOf_d fv pb sb kb env _ d1 _ _ (hp.kept hB).par hrep1
    have hB1 : ∀ W, Below (w.alloc (.cells #[.int .i64 p, .slice (some ⟨g, o, none⟩) (rest.length + 2) cap, .iface 146 (.agg #[])] 62)).heap.size (w.alloc (.cells #[.int .i64 p, .slice (some ⟨g, o, none⟩) (rest.length + 2) cap, .iface 146 (.agg #[])] 62)) W → Below w.heap.size w W := fun W hW => hB.trans (hW.mono (by simp))
    have HB1 := (show Hid _ from hB1)
    cases hnm : d1.name with
    | none =>
      rw [hnone _ _ rfl hnm]
      have HREF : Hid (∀ W, Below w.heap.size w W → Calls Tryz.prog 59 #[.pointer (some ⟨pb, 0, none⟩), .agg #[.int .i64 p, .slice (some ⟨g, o, none⟩) (rest.length + 2) cap, .iface 146 (.agg #[])]] W fun e w' => e = .returned .nilIface ∧ RuleK pb sb kb env fl fv n (Rd.kzL (d1 :: rest) + 1) w (.no p) e w') := fun W hW => refuse_d pb sb kb env fl fv n _ w p _ _ _ _ _ hp hnz (by omega) W hW
      rw [hnm] at hNM
      have HNM : Hid (Calls Tryz.prog 105 #[.pointer (some ⟨pb, 0, none⟩), .agg #[.int .i64 pp, .slice po pn pc, .iface ti xv]] (w.alloc (.cells #[.int .i64 p, .slice (some ⟨g, o, none⟩) (rest.length + 2) cap, .iface 146 (.agg #[])] 62)) fun e w' => ∃ t, e = .returned (.tuple #[.string t, .bool false]) ∧ Below (w.alloc (.cells #[.int .i64 p, .slice (some ⟨g, o, none⟩) (rest.length + 2) cap, .iface 146 (.agg #[])] 62)).heap.size (w.alloc (.cells #[.int .i64 p, .slice (some ⟨g, o, none⟩) (rest.length + 2) cap, .iface 146 (.agg #[])] 62)) w') := hNM.mono fun e w' ⟨t, h1, _, h2⟩ => ⟨t, h1, h2⟩
      clear hp hs HF hshort hnone hsome hs2 hB1 hnm hNM hrep1 hz hzp hlz hf2 hnz
      generalize Rd.kzL (d1 :: rest) = Z at *
      unfold lsV
      go_enter Tryz.func58, Tryz.ntmps58
      go_wp2_with (first | (go_at_call 105; refine HNM.out.mono ?_; rintro e w1 ⟨tt, rfl, hb1⟩; have hsz1 : w.heap.size < w1.heap.size := (by have := hb1.size; simp at this; omega); obtain ⟨q0, q1, q2, _, _, _⟩ := cells3 (Below.at hb1 (at_new w _))) | (go_at_call 59; refine (HREF.out _ (HB1.out _ hb1)).mono ?_; rintro e w2 ⟨rfl, hfin⟩; have HFIN := (show Hid _ from hfin); clear hfin))
      go_ret
      exact HFIN.out
    | some m =>
      rw [hsome _ _ m rfl hr hnm]
      rw [hnm] at hNM
      have HNM : Hid (Calls Tryz.prog 105 #[.pointer (some ⟨pb, 0, none⟩), .agg #[.int .i64 pp, .slice po pn pc, .iface ti xv]] (w.alloc (.cells #[.int .i64 p, .slice (some ⟨g, o, none⟩) (rest.length + 2) cap, .iface 146 (.agg #[])] 62)) fun e w' => e = .returned (.tuple #[.string ⟨m.toArray⟩, .bool true]) ∧ Below (w.alloc (.cells #[.int .i64 p, .slice (some ⟨g, o, none⟩) (rest.length + 2) cap, .iface 146 (.agg #[])] 62)).heap.size (w.alloc (.cells #[.int .i64 p, .slice (some ⟨g, o, none⟩) (rest.length + 2) cap, .iface 146 (.agg #[])] 62)) w') := hNM.mono fun e w' ⟨t, h1, ht, h2⟩ => ⟨by rw [h1, ht m rfl]; rfl, h2⟩
      have hlp := hp.par.lt
      have HW : Hid (∀ W, Below w.heap.size w W → Calls Tryz.prog 104 #[.pointer (some ⟨pb, 0, none⟩), .slice (some ⟨W.heap.size, 0, none⟩) 1 1, .slice (some ⟨g, o + 6, none⟩) rest.length (cap - 2)] (W.alloc (.cells #[.string ⟨m.toArray⟩] 115)) (WithinR pb sb kb env fl fv n (Rd.kzL rest) rest.length (W.alloc (.cells #[.string ⟨m.toArray⟩] 115)) (Rd.kForms f ([m] :: env) rest))) := fun W hW => rest_within f HF pb sb kb env fl fv n w g o cap d0 d1 rest hp hs (by omega) hf (by omega) _ (hW.alloc hW.size _) _ [m] (RepN.one W m _ (notPMK hp hW.size)) (differ_one m) (by simp)
      have j1 : ¬ cap = 1 := by omega
      have j2 : ¬ cap = 2 := by omega
      generalize Rd.kForms f ([m] :: env) rest = K at *
      clear hp hs HF hshort hnone hsome hs2 hB1 hnm hNM hrep1 hlp hz hzp hlz hf2 hnz
      generalize Rd.kzL (d1 :: rest) = Z at *
      generalize Rd.kzL rest = Z' at *
      unfold lsV
      go_enter Tryz.func58, Tryz.ntmps58
      go_wp2_with (first | (go_at_call 105; refine HNM.out.mono ?_; rintro e w1 ⟨rfl, hb1⟩; have hsz1 : w.heap.size < w1.heap.size := (by have := hb1.size; simp at this; omega); obtain ⟨q0, q1, q2, _, _, _⟩ := cells3 (Below.at hb1 (at_new w _))))
      refine (HW.out _ (HB1.out _ hb1)).mono ?_
      rintro e w2 ⟨v, fv', n', rfl, ⟨sg, scap, rfl⟩, hrep, hp1, hn1, hk1, hnw1⟩
      have hb2 : Below w.heap.size w (w1.alloc (.cells #[.string ⟨m.toArray⟩] 115)) := (HB1.out _ hb1).alloc (HB1.out _ hb1).size _
      go_wp2
      go_ret
      refine ⟨_, fv', n', rfl, shp_map _ _ _ _, ?_, by rw [flOr_map]; exact hp1, by omega, hk1.below_then hb2, hnw1.below hb2⟩
      intro x hx
      cases K with
      | bad q => cases hx
      | no q => cases hx
      | ok xs =>
        cases hx
        exact .shift _ _ (NewOk.of hb2 (hrep xs rfl))
set_option maxHeartbeats 2000000 in
set_option maxRecDepth 10000 in
theorem set_k (f : Nat) (HF : FormCK f) (pb sb kb : Nat) (env : List (List Rd.Sym)) (fl : Option Nat) (fv : Value) (n : Nat) (w : World) (p : Nat) (g o cap : Nat) (d0 : Rd.D) (rest0 : List Rd.D) (hp : PAtK pb sb kb env fl fv n w)
    (hs : RepS (fun k => ¬ PMK pb sb fv k) w (.slice (some ⟨g, o, none⟩) (rest0.length + 1) cap) (d0 :: rest0)) (hf2 : 2 * Rd.kzL rest0 ≤ f) (hf : env.length + f ≤ 5000) (hnz : n + (Rd.kzL rest0 + 1) ≤ 4000) (R : Rd.PR Rd.F) (helse : rest0.length ≠ 2 → R = .no p)
    (hnone : ∀ d1 d2, rest0 = [d1, d2] → d1.name = none → R = .no p) (hsome : ∀ d1 d2 m, rest0 = [d1, d2] → d1.name = some m → R = (Rd.kForm f env d2).map (.set_ m (Rd.findName m env 0) ·)) :
    Calls Tryz.prog 54 #[.pointer (some ⟨pb, 0, none⟩), lsV p g o (rest0.length + 1) cap] w (RuleK pb sb kb env fl fv n (Rd.kzL rest0 + 1) w R) := by
  have hcap := hs.len.2
  simp only [List.length_cons] at hcap
  have hlz := Rd.kzL_len rest0
  by_cases hl : rest0.length ≠ 2
  · rw [helse hl]
    have hB := box_below w (.cells #[.int .i64 p, .slice (some ⟨g, o, none⟩) (rest0.length + 1) cap, .iface 146 (.agg #[])] 62)
    have HREF : Hid (Calls Tryz.prog 59 #[.pointer (some ⟨pb, 0, none⟩), .agg #[.int .i64 p, .slice (some ⟨g, o, none⟩) (rest0.length + 1) cap, .iface 146 (.agg #[])]] (w.alloc (.cells #[.int .i64 p, .slice (some ⟨g, o, none⟩) (rest0.length + 1) cap, .iface 146 (.agg #[])] 62)) fun e w' => e = .returned .nilIface ∧ RuleK pb sb kb env fl fv n (Rd.kzL rest0 + 1) w (.no p) e w') := refuse_d pb sb kb env fl fv n _ w p _ _ _ _ _ hp hnz (by omega) _ hB
    have j1 : ¬ (rest0.length : Int) + 1 = 3 := by omega
    clear hp hs HF helse hnone hsome
    unfold lsV
    go_enter Tryz.func54, Tryz.ntmps54
    go_wp2_with (first | (go_at_call 59; refine HREF.out.mono ?_; rintro e w1 ⟨rfl, hfin⟩; have HFIN := (show Hid _ from hfin); clear hfin))
    go_ret
    exact HFIN.out
  · obtain ⟨d1, d2, rfl⟩ : ∃ d1 d2, rest0 = [d1, d2] := by
      match rest0, hl with
      | [a, b], _ => exact ⟨a, b, rfl⟩
      | [], hl => exact absurd (by simp) hl
      | [_], hl => exact absurd (by simp) hl
      | _ :: _ :: _ :: _, hl => exact absurd (by simp) hl
    simp only [List.length_cons, List.length_nil, Nat.zero_add, Nat.reduceAdd] at hl hcap hs hlz ⊢
    have hz : Rd.kzL [d1, d2] = Rd.kzD d1 + Rd.kzD d2 := by rw [Rd.kzL, Rd.kzL, Rd.kzL]; omega
    have hzp := Rd.kzD_pos d1
    have hzz : Rd.kzD d2 ≤ Rd.kzL [d1, d2] := by omega
    have hB := box_below w (.cells #[.int .i64 p, .slice (some ⟨g, o, none⟩) 3 cap, .iface 146 (.agg #[])] 62)
    have hs2 := hs.mono (ok' := fun k => ¬ PMK pb sb fv k) (w' := w.alloc (.cells #[.int .i64 p, .slice (some ⟨g, o, none⟩) 3 cap, .iface 146 (.agg #[])] 62)) (fun k hk h => ⟨h, Below.heap_alloc _ _ _ hk⟩)
    obtain ⟨g', o', cap', pp, po, pn, pc, ti, xv, heq, hok, _, e0, e1, e2, hrep1⟩ := hs2.cells 1 (by simp)
    simp only [Value.slice.injEq, Option.some.injEq, Addr.mk.injEq, and_true] at heq
    obtain ⟨⟨rfl, rfl⟩, -, rfl⟩ := heq
    simp only [Nat.mul_one] at e0 e1 e2
    simp only [List.getElem_cons_succ, List.getElem_cons_zero] at hrep1
    have hNM := nameOf_d fv pb sb kb env _ d1 _ _ (hp.kept hB).par hrep1
    have hB1 : ∀ W, Below (w.alloc (.cells #[.int .i64 p, .slice (some ⟨g, o, none⟩) 3 cap, .iface 146 (.agg #[])] 62)).heap.size (w.alloc (.cells #[.int .i64 p, .slice (some ⟨g, o, none⟩) 3 cap, .iface 146 (.agg #[])] 62)) W → Below w.heap.size w W := fun W hW => hB.trans (hW.mono (by simp))
    have HB1 := (show Hid _ from hB1)
    cases hnm : d1.name with
    | none =>
      rw [hnone _ _ rfl hnm]
      have HREF : Hid (∀ W, Below w.heap.size w W → Calls Tryz.prog 59 #[.pointer (some ⟨pb, 0, none⟩), .agg #[.int .i64 p, .slice (some ⟨g, o, none⟩) 3 cap, .iface 146 (.agg #[])]] W fun e w' => e = .returned .nilIface ∧ RuleK pb sb kb env fl fv n (Rd.kzL [d1, d2] + 1) w (.no p) e w') := fun W hW => refuse_d pb sb kb env fl fv n _ w p _ _ _ _ _ hp hnz (by omega) W hW
      rw [hnm] at hNM
      have HNM : Hid (Calls Tryz.prog 105 #[.pointer (some ⟨pb, 0, none⟩), .agg #[.int .i64 pp, .slice po pn pc, .iface ti xv]] (w.alloc (.cells #[.int .i64 p, .slice (some ⟨g, o, none⟩) 3 cap, .iface 146 (.agg #[])] 62)) fun e w' => ∃ t, e = .returned (.tuple #[.string t, .bool false]) ∧ Below (w.alloc (.cells #[.int .i64 p, .slice (some ⟨g, o, none⟩) 3 cap, .iface 146 (.agg #[])] 62)).heap.size (w.alloc (.cells #[.int .i64 p, .slice (some ⟨g, o, none⟩) 3 cap, .iface 146 (.agg #[])] 62)) w') := hNM.mono fun e w' ⟨t, h1, _, h2⟩ => ⟨t, h1, h2⟩
      clear hp hs HF helse hnone hsome hs2 hB1 hnm hNM hrep1 hz hzp hlz hf2 hnz
      generalize Rd.kzL [d1, d2] = Z at *
      unfold lsV
      go_enter Tryz.func54, Tryz.ntmps54
      go_wp2_with (first | (go_at_call 105; refine HNM.out.mono ?_; rintro e w1 ⟨tt, rfl, hb1⟩; have hsz1 : w.heap.size < w1.heap.size := (by have := hb1.size; simp at this; omega); obtain ⟨q0, q1, q2, _, _, _⟩ := cells3 (Below.at hb1 (at_new w _))) | (go_at_call 59; refine (HREF.out _ (HB1.out _ hb1)).mono ?_; rintro e w2 ⟨rfl, hfin⟩; have HFIN := (show Hid _ from hfin); clear hfin))
      go_ret
      exact HFIN.out
    | some m =>
      rw [hsome _ _ m rfl hnm]
      rw [hnm] at hNM
      have HNM : Hid (Calls Tryz.prog 105 #[.pointer (some ⟨pb, 0, none⟩), .agg #[.int .i64 pp, .slice po pn pc, .iface ti xv]] (w.alloc (.cells #[.int .i64 p, .slice (some ⟨g, o, none⟩) 3 cap, .iface 146 (.agg #[])] 62)) fun e w' => e = .returned (.tuple #[.string ⟨m.toArray⟩, .bool true]) ∧ Below (w.alloc (.cells #[.int .i64 p, .slice (some ⟨g, o, none⟩) 3 cap, .iface 146 (.agg #[])] 62)).heap.size (w.alloc (.cells #[.int .i64 p, .slice (some ⟨g, o, none⟩) 3 cap, .iface 146 (.agg #[])] 62)) w') := hNM.mono fun e w' ⟨t, h1, ht, h2⟩ => ⟨by rw [h1, ht m rfl]; rfl, h2⟩
      obtain ⟨g3, o3, cap3, vp, vo, vn, vc, vt, vx, heq, _, _, y0, y1, y2, hrepv⟩ := hs2.cells 2 (by simp)
      simp only [Value.slice.injEq, Option.some.injEq, Addr.mk.injEq, and_true] at heq
      obtain ⟨⟨rfl, rfl⟩, -, rfl⟩ := heq
      simp only [List.getElem_cons_succ, List.getElem_cons_zero, show 3 * 2 = 6 by omega] at hrepv y0 y1 y2
      have hnb := notPMK hp (Nat.le_refl w.heap.size)
      have HFD : Hid (∀ W, Below w.heap.size w W → Calls Tryz.prog 106 #[.pointer (some ⟨pb, 0, none⟩), .string ⟨m.toArray⟩] W fun e w' => e = .returned (.agg #[.string ⟨m.toArray⟩, .bool (Rd.findName m env 0).isSome, .int .i64 (locUp (Rd.findName m env 0)), .int .i64 (locSlot (Rd.findName m env 0))]) ∧ Below W.heap.size W w') := fun W hW => find_v fv pb sb kb env m W (hp.kept hW).par (by omega)
      have HFM : Hid (∀ W, Below (w.alloc (.cells #[.int .i64 p, .slice (some ⟨g, o, none⟩) 3 cap, .iface 146 (.agg #[])] 62)).heap.size (w.alloc (.cells #[.int .i64 p, .slice (some ⟨g, o, none⟩) 3 cap, .iface 146 (.agg #[])] 62)) W → Calls Tryz.prog 63 #[.pointer (some ⟨pb, 0, none⟩), .agg #[.int .i64 vp, .slice vo vn vc, .iface vt vx]] W (RuleK pb sb kb env fl fv n (Rd.kzD d2) W (Rd.kForm f env d2))) := fun W hW => HF pb sb kb env fl fv n W d2 _ (hp.kept (hB1 W hW)) (by omega) hf (by omega) (hrepv.mono fun k hk h => ⟨h, hW.block k hk⟩)
      have HBX : Hid (∀ W, Below (w.alloc (.cells #[.int .i64 p, .slice (some ⟨g, o, none⟩) 3 cap, .iface 146 (.agg #[])] 62)).heap.size (w.alloc (.cells #[.int .i64 p, .slice (some ⟨g, o, none⟩) 3 cap, .iface 146 (.agg #[])] 62)) W → W.cell? ⟨w.heap.size, 1, none⟩ = some (.slice (some ⟨g, o, none⟩) 3 cap) ∧ W.cell? ⟨g, o + 6, none⟩ = some (.int .i64 vp) ∧ W.cell? ⟨g, o + 6 + 1, none⟩ = some (.slice vo vn vc) ∧ W.cell? ⟨g, o + 6 + 2, none⟩ = some (.iface vt vx)) := fun W hW => ⟨(Kept.of_below hW (PMK pb sb fv)).cell hnb (cells3 (at_new w _)).2.1, (Kept.of_below hW (PMK pb sb fv)).cell hok y0, (Kept.of_below hW (PMK pb sb fv)).cell hok y1, (Kept.of_below hW (PMK pb sb fv)).cell hok y2⟩
      have HZ3 := (show Hid _ from hzz)
      generalize Rd.kForm f env d2 = K at *
      generalize Rd.findName m env 0 = LL at *
      clear hp hs HF helse hnone hsome hs2 hB1 hnm hNM hrep1 hrepv y0 y1 y2 hz hzp hlz hf2 hnz hzz
      generalize Rd.kzL [d1, d2] = Z at *
      generalize Rd.kzD d2 = Z' at *
      unfold lsV
      cases hK : K with
      | ok y =>
        have HFN : Hid (∀ W, Below (w.alloc (.cells #[.int .i64 p, .slice (some ⟨g, o, none⟩) 3 cap, .iface 146 (.agg #[])] 62)).heap.size (w.alloc (.cells #[.int .i64 p, .slice (some ⟨g, o, none⟩) 3 cap, .iface 146 (.agg #[])] 62)) W → Calls Tryz.prog 63 #[.pointer (some ⟨pb, 0, none⟩), .agg #[.int .i64 vp, .slice vo vn vc, .iface vt vx]] W fun e w' => (∃ t x, e = .returned (.iface t x)) ∧ RuleK pb sb kb env fl fv n Z' W K e w') := fun W hW => (HFM.out W hW).mono fun e w' h => by
          have h0 := h
          obtain ⟨v, fv', n', he, hs, _⟩ := h0
          rw [hK] at hs
          obtain ⟨t, x, rfl⟩ := hs; exact ⟨⟨t, x, he⟩, h⟩
        rw [← hK]
        have HKK := (show Hid _ from hK)
        clear hK HFM
        go_enter Tryz.func54, Tryz.ntmps54
        go_wp2_with (first | (go_at_call 105; refine HNM.out.mono ?_; rintro e w1 ⟨rfl, hb1⟩; have hsz1 : w.heap.size < w1.heap.size := (by have := hb1.size; simp at this; omega); obtain ⟨q0, q1, q2, _, _, _⟩ := cells3 (Below.at hb1 (at_new w _))))
        obtain ⟨k0, k1, k2, k3⟩ := HBX.out _ hb1
        have hbd : Below (w.alloc (.cells #[.int .i64 p, .slice (some ⟨g, o, none⟩) 3 cap, .iface 146 (.agg #[])] 62)).heap.size (w.alloc (.cells #[.int .i64 p, .slice (some ⟨g, o, none⟩) 3 cap, .iface 146 (.agg #[])] 62)) w1.drew := hb1.trans ((Below.refl _ w1).drew.mono hb1.size)
        go_region_held3 (fun W => W.cell? ⟨w.heap.size, 1, none⟩ = some (.slice (some ⟨g, o, none⟩) 3 cap) ∧ W.cell? ⟨g, o + 6, none⟩ = some (.int .i64 vp) ∧ W.cell? ⟨g, o + 6 + 1, none⟩ = some (.slice vo vn vc) ∧ W.cell? ⟨g, o + 6 + 2, none⟩ = some (.iface vt vx)) (go_keep) (first | (go_at_call 106; refine (HFD.out _ (HB1.out _ hbd)).mono ?_; rintro e w2 ⟨rfl, hb2⟩; have hb12 : Below (w.alloc (.cells #[.int .i64 p, .slice (some ⟨g, o, none⟩) 3 cap, .iface 146 (.agg #[])] 62)).heap.size (w.alloc (.cells #[.int .i64 p, .slice (some ⟨g, o, none⟩) 3 cap, .iface 146 (.agg #[])] 62)) w2 := (hbd.trans (hb2.mono hbd.size)); obtain ⟨r0, r1, r2, r3⟩ := HBX.out w2 hb12) | (go_at_call 63; refine (HFN.out _ hb12).mono ?_; rintro e w3 ⟨⟨tf, xf, rfl⟩, hfin⟩; have hk1 : Kept (PMK pb sb fv) w2 w3 := (by obtain ⟨_, _, _, _, _, _, _, _, h, _⟩ := hfin; exact h); have HFIN := (show Hid _ from hfin); clear hfin; obtain ⟨z0, z1, z2, z3⟩ : w3.cell? ⟨w.heap.size, 1, none⟩ = some (.slice (some ⟨g, o, none⟩) 3 cap) ∧ w3.cell? ⟨g, o + 6, none⟩ = some (.int .i64 vp) ∧ w3.cell? ⟨g, o + 6 + 1, none⟩ = some (.slice vo vn vc) ∧ w3.cell? ⟨g, o + 6 + 2, none⟩ = some (.iface vt vx) := ⟨hk1.cell hnb r0, hk1.cell hok r1, hk1.cell hok r2, hk1.cell hok r3⟩))
        all_goals
          go_wp2
          go_ret
          obtain ⟨v, fv', n', he, hsp, hrep, hp1, hn1, hk1', hnw1⟩ := HFIN.out
          cases he
          have hb2' := HB1.out _ hb12
          refine ⟨_, fv', n', rfl, shp_map _ _ _ _, ?_, by rw [flOr_map]; exact hp1, by have := HZ3.out; omega, hk1'.below_then hb2', hnw1.below hb2'⟩
          intro x hx
          rw [HKK.out] at hx
          cases hx
          exact .set_ m LL _ _ (NewOk.of hb2' (hrep _ HKK.out))
      | no q =>
        have HFN : Hid (∀ W, Below (w.alloc (.cells #[.int .i64 p, .slice (some ⟨g, o, none⟩) 3 cap, .iface 146 (.agg #[])] 62)).heap.size (w.alloc (.cells #[.int .i64 p, .slice (some ⟨g, o, none⟩) 3 cap, .iface 146 (.agg #[])] 62)) W → Calls Tryz.prog 63 #[.pointer (some ⟨pb, 0, none⟩), .agg #[.int .i64 vp, .slice vo vn vc, .iface vt vx]] W fun e w' => e = .returned .nilIface ∧ RuleK pb sb kb env fl fv n Z' W K e w') := fun W hW => (HFM.out W hW).mono fun e w' h => by
          have h0 := h
          obtain ⟨v, fv', n', he, hs, _⟩ := h0
          rw [hK] at hs
          exact ⟨by rw [he, show v = .nilIface from hs], h⟩
        rw [← hK]
        have HKK := (show Hid _ from hK)
        clear hK HFM
        go_enter Tryz.func54, Tryz.ntmps54
        go_wp2_with (first | (go_at_call 105; refine HNM.out.mono ?_; rintro e w1 ⟨rfl, hb1⟩; have hsz1 : w.heap.size < w1.heap.size := (by have := hb1.size; simp at this; omega); obtain ⟨q0, q1, q2, _, _, _⟩ := cells3 (Below.at hb1 (at_new w _))))
        obtain ⟨k0, k1, k2, k3⟩ := HBX.out _ hb1
        have hbd : Below (w.alloc (.cells #[.int .i64 p, .slice (some ⟨g, o, none⟩) 3 cap, .iface 146 (.agg #[])] 62)).heap.size (w.alloc (.cells #[.int .i64 p, .slice (some ⟨g, o, none⟩) 3 cap, .iface 146 (.agg #[])] 62)) w1.drew := hb1.trans ((Below.refl _ w1).drew.mono hb1.size)
        go_region_held3 (fun W => W.cell? ⟨w.heap.size, 1, none⟩ = some (.slice (some ⟨g, o, none⟩) 3 cap) ∧ W.cell? ⟨g, o + 6, none⟩ = some (.int .i64 vp) ∧ W.cell? ⟨g, o + 6 + 1, none⟩ = some (.slice vo vn vc) ∧ W.cell? ⟨g, o + 6 + 2, none⟩ = some (.iface vt vx)) (go_keep) (first | (go_at_call 106; refine (HFD.out _ (HB1.out _ hbd)).mono ?_; rintro e w2 ⟨rfl, hb2⟩; have hb12 : Below (w.alloc (.cells #[.int .i64 p, .slice (some ⟨g, o, none⟩) 3 cap, .iface 146 (.agg #[])] 62)).heap.size (w.alloc (.cells #[.int .i64 p, .slice (some ⟨g, o, none⟩) 3 cap, .iface 146 (.agg #[])] 62)) w2 := (hbd.trans (hb2.mono hbd.size)); obtain ⟨r0, r1, r2, r3⟩ := HBX.out w2 hb12) | (go_at_call 63; refine (HFN.out _ hb12).mono ?_; rintro e w3 ⟨rfl, hfin⟩; have hk1 : Kept (PMK pb sb fv) w2 w3 := (by obtain ⟨_, _, _, _, _, _, _, _, h, _⟩ := hfin; exact h); have HFIN := (show Hid _ from hfin); clear hfin; obtain ⟨z0, z1, z2, z3⟩ : w3.cell? ⟨w.heap.size, 1, none⟩ = some (.slice (some ⟨g, o, none⟩) 3 cap) ∧ w3.cell? ⟨g, o + 6, none⟩ = some (.int .i64 vp) ∧ w3.cell? ⟨g, o + 6 + 1, none⟩ = some (.slice vo vn vc) ∧ w3.cell? ⟨g, o + 6 + 2, none⟩ = some (.iface vt vx) := ⟨hk1.cell hnb r0, hk1.cell hok r1, hk1.cell hok r2, hk1.cell hok r3⟩))
        all_goals
          go_wp2
          go_ret
          obtain ⟨v, fv', n', he, hsp, hrep, hp1, hn1, hk1', hnw1⟩ := HFIN.out
          cases he
          have hb2' := HB1.out _ hb12
          refine ⟨_, fv', n', rfl, shp_map _ _ _ _, ?_, by rw [flOr_map]; exact hp1, by have := HZ3.out; omega, hk1'.below_then hb2', hnw1.below hb2'⟩
          intro x hx
          rw [HKK.out] at hx
          cases hx
      | bad q =>
        have HFN : Hid (∀ W, Below (w.alloc (.cells #[.int .i64 p, .slice (some ⟨g, o, none⟩) 3 cap, .iface 146 (.agg #[])] 62)).heap.size (w.alloc (.cells #[.int .i64 p, .slice (some ⟨g, o, none⟩) 3 cap, .iface 146 (.agg #[])] 62)) W → Calls Tryz.prog 63 #[.pointer (some ⟨pb, 0, none⟩), .agg #[.int .i64 vp, .slice vo vn vc, .iface vt vx]] W fun e w' => (∃ t x, e = .returned (.iface t x)) ∧ RuleK pb sb kb env fl fv n Z' W K e w') := fun W hW => (HFM.out W hW).mono fun e w' h => by
          have h0 := h
          obtain ⟨v, fv', n', he, hs, _⟩ := h0
          rw [hK] at hs
          obtain ⟨t, x, rfl⟩ := hs; exact ⟨⟨t, x, he⟩, h⟩
        rw [← hK]
        have HKK := (show Hid _ from hK)
        clear hK HFM
        go_enter Tryz.func54, Tryz.ntmps54
        go_wp2_with (first | (go_at_call 105; refine HNM.out.mono ?_; rintro e w1 ⟨rfl, hb1⟩; have hsz1 : w.heap.size < w1.heap.size := (by have := hb1.size; simp at this; omega); obtain ⟨q0, q1, q2, _, _, _⟩ := cells3 (Below.at hb1 (at_new w _))))
        obtain ⟨k0, k1, k2, k3⟩ := HBX.out _ hb1
        have hbd : Below (w.alloc (.cells #[.int .i64 p, .slice (some ⟨g, o, none⟩) 3 cap, .iface 146 (.agg #[])] 62)).heap.size (w.alloc (.cells #[.int .i64 p, .slice (some ⟨g, o, none⟩) 3 cap, .iface 146 (.agg #[])] 62)) w1.drew := hb1.trans ((Below.refl _ w1).drew.mono hb1.size)
        go_region_held3 (fun W => W.cell? ⟨w.heap.size, 1, none⟩ = some (.slice (some ⟨g, o, none⟩) 3 cap) ∧ W.cell? ⟨g, o + 6, none⟩ = some (.int .i64 vp) ∧ W.cell? ⟨g, o + 6 + 1, none⟩ = some (.slice vo vn vc) ∧ W.cell? ⟨g, o + 6 + 2, none⟩ = some (.iface vt vx)) (go_keep) (first | (go_at_call 106; refine (HFD.out _ (HB1.out _ hbd)).mono ?_; rintro e w2 ⟨rfl, hb2⟩; have hb12 : Below (w.alloc (.cells #[.int .i64 p, .slice (some ⟨g, o, none⟩) 3 cap, .iface 146 (.agg #[])] 62)).heap.size (w.alloc (.cells #[.int .i64 p, .slice (some ⟨g, o, none⟩) 3 cap, .iface 146 (.agg #[])] 62)) w2 := (hbd.trans (hb2.mono hbd.size)); obtain ⟨r0, r1, r2, r3⟩ := HBX.out w2 hb12) | (go_at_call 63; refine (HFN.out _ hb12).mono ?_; rintro e w3 ⟨⟨tf, xf, rfl⟩, hfin⟩; have hk1 : Kept (PMK pb sb fv) w2 w3 := (by obtain ⟨_, _, _, _, _, _, _, _, h, _⟩ := hfin; exact h); have HFIN := (show Hid _ from hfin); clear hfin; obtain ⟨z0, z1, z2, z3⟩ : w3.cell? ⟨w.heap.size, 1, none⟩ = some (.slice (some ⟨g, o, none⟩) 3 cap) ∧ w3.cell? ⟨g, o + 6, none⟩ = some (.int .i64 vp) ∧ w3.cell? ⟨g, o + 6 + 1, none⟩ = some (.slice vo vn vc) ∧ w3.cell? ⟨g, o + 6 + 2, none⟩ = some (.iface vt vx) := ⟨hk1.cell hnb r0, hk1.cell hok r1, hk1.cell hok r2, hk1.cell hok r3⟩))
        all_goals
          go_wp2
          go_ret
          obtain ⟨v, fv', n', he, hsp, hrep, hp1, hn1, hk1', hnw1⟩ := HFIN.out
          cases he
          have hb2' := HB1.out _ hb12
          refine ⟨_, fv', n', rfl, shp_map _ _ _ _, ?_, by rw [flOr_map]; exact hp1, by have := HZ3.out; omega, hk1'.below_then hb2', hnw1.below hb2'⟩
          intro x hx
          rw [HKK.out] at hx
          cases hx
end Go.Proofs.YtodeeegbajgafaaGreatDoor

namespace Go.Proofs.YtodeeegbajgafaaGreatDoor
open Go.RowKit
theorem PAtK.grown {pb sb kb : Nat} {env : List (List Rd.Sym)} {fl : Option Nat} {fv : Value} {n : Nat} {w w' : World} {B : Nat} {row : Option Nat} (h : PAtK pb sb kb env fl fv n w) (hB : (pb < B ∧ sb < B ∧ kb < B) ∧ ∀ k, fv.ownBlock = some k → k < B) (hg : w.grownBy w' row) (hr : ∀ k, row = some k → B ≤ k) : PAtK pb sb kb env fl fv n w' := by
  obtain ⟨h1, ⟨⟨cs, h2, h3⟩, h4, h5⟩, h6⟩ := h
  refine ⟨h1.grown hB.1 hg hr, ⟨⟨cs, ownsRow_grown h2 hg (fun g e e' => ?_), h3⟩, h4, h5⟩, h6⟩
  have := hB.2 g e
  have := hr g e'
  omega
/-- What the loop over the bindings keeps. -/
structure LettingK (pb sb kb : Nat) (env : List (List Rd.Sym)) (fl : Option Nat) (fv : Value) (n : Nat) (B : Nat) (w : World) (ks vs : List Rd.D) (v5 v6 : Value) (wr : World) : Prop where
  par : PAtK pb sb kb env fl fv n wr
  kept : Below B w wr
  sz : B ≤ wr.heap.size
  own5 : ∃ xs, wr.ownsRow B 62 3 v5 ks.length xs ∧ ∀ i (hi : i < ks.length), RepD (fun k => ¬ PMK pb sb fv k ∧ k < B) wr (el3 xs i) ks[i]
  own6 : ∃ xs, wr.ownsRow B 62 3 v6 vs.length xs ∧ ∀ i (hi : i < vs.length), RepD (fun k => ¬ PMK pb sb fv k ∧ k < B) wr (el3 xs i) vs[i]
  diff : ∀ g, v5.ownBlock = some g → v6.ownBlock ≠ some g
theorem LettingK.push {pb sb kb : Nat} {env : List (List Rd.Sym)} {fl : Option Nat} {fv : Value} {n : Nat} {B : Nat} {w : World} {ks vs : List Rd.D} {u5 u6 v5 v6 : Value} {wr X1 X2 X3 X4 : World} {xs5 xs6 : List Value} {a0 a1 a2 b0 b1 b2 : Value} {a b : Rd.D}
    (hpar : PAtK pb sb kb env fl fv n wr) (hkept : Below B w wr) (hsz : B ≤ wr.heap.size) (hlp : (pb < B ∧ sb < B ∧ kb < B) ∧ ∀ k, fv.ownBlock = some k → k < B)
    (h5 : wr.ownsRow B 62 3 u5 ks.length xs5) (r5 : ∀ i (hi : i < ks.length), RepD (fun k => ¬ PMK pb sb fv k ∧ k < B) wr (el3 xs5 i) ks[i])
    (h6 : wr.ownsRow B 62 3 u6 vs.length xs6) (r6 : ∀ i (hi : i < vs.length), RepD (fun k => ¬ PMK pb sb fv k ∧ k < B) wr (el3 xs6 i) vs[i])
    (hdf : ∀ g, u5.ownBlock = some g → u6.ownBlock ≠ some g)
    (ha : RepD (fun k => ¬ PMK pb sb fv k ∧ k < B) wr (.agg #[a0, a1, a2]) a) (hb : RepD (fun k => ¬ PMK pb sb fv k ∧ k < B) wr (.agg #[b0, b1, b2]) b)
    (hb1 : Below wr.heap.size wr X1) (ho5 : X2.ownsRow B 62 3 v5 (ks.length + 1) (xs5 ++ [a0, a1, a2])) (hg1 : X1.grownBy X2 u5.ownBlock) (hat1 : v5.ownBlock = u5.ownBlock ∨ v5.ownBlock = some X1.heap.size)
    (hb2 : Below X2.heap.size X2 X3) (ho6 : X4.ownsRow B 62 3 v6 (vs.length + 1) (xs6 ++ [b0, b1, b2])) (hg2 : X3.grownBy X4 u6.ownBlock) (hat2 : v6.ownBlock = u6.ownBlock ∨ v6.ownBlock = some X3.heap.size) :
    LettingK pb sb kb env fl fv n B w (ks ++ [a]) (vs ++ [b]) v5 v6 X4 := by
  have l5 := ownBlock_of h5
  have l6 := ownBlock_of h6
  have lv5 := ownBlock_of ho5
  have s1 := hb1.size
  have s2 := hg1.size
  have s3 := hb2.size
  have s4 := hg2.size
  have hdiff1 : ∀ g, v5.ownBlock = some g → u6.ownBlock ≠ some g := by
    intro g e
    rcases hat1 with h | h
    · exact hdf g (by rw [← h]; exact e)
    · rw [h] at e; cases e
      intro e'; have := (l6 _ e').2; omega
  have hkeep : ∀ k, k < B → X4.heap[k]? = wr.heap[k]? := by
    intro k hk
    rw [hg2.block k (by omega) (fun e => by have := (l6 k e.symm).1; omega), hb2.block k (by omega), hg1.block k (by omega) (fun e => by have := (l5 k e.symm).1; omega), hb1.block k (by omega)]
  have hmv : ∀ k, k < wr.heap.size → (¬ PMK pb sb fv k ∧ k < B) → X4.heap[k]? = wr.heap[k]? := fun k _ h => hkeep k h.2
  refine ⟨?_, ?_, by omega, ⟨xs5 ++ [a0, a1, a2], ?_, row_push h5.1 r5 ha hmv⟩, ⟨xs6 ++ [b0, b1, b2], by simpa using ho6, row_push h6.1 r6 hb hmv⟩, ?_⟩
  · have p1 := (hpar.kept hb1).grown (B := B) hlp hg1 (fun k e => (l5 k e).1)
    exact (p1.kept hb2).grown (B := B) hlp hg2 (fun k e => (l6 k e).1)
  · exact (((hkept.trans (hb1.mono hsz)).grown hg1 (by omega) (fun k e => (l5 k e).1)).trans (hb2.mono (by omega))).grown hg2 (by omega) (fun k e => (l6 k e).1)
  · have := ownsRow_grown (ownsRow_kept' ho5 hb2) hg2 hdiff1
    simpa using this
  · intro g e
    rcases hat2 with h | h
    · rw [h]; exact hdiff1 g e
    · rw [h]; intro e'; cases e'
      have := (lv5 _ e).2; omega
theorem Rd.bindsK_cons (d : Rd.D) (ds : List Rd.D) : Rd.bindsK (d :: ds) = match d.parts with
    | [a, b] => if d.isList then (Rd.bindsK ds).map fun x => (a :: x.1, b :: x.2) else none
    | _ => none := by rw [Rd.bindsK]; rfl
/-- The bindings that are passed, and what the others come to. -/
def bindR (kj vj : List Rd.D) (r : Option (List Rd.D × List Rd.D)) : Option (List Rd.D × List Rd.D) := r.map fun x => (kj ++ x.1, vj ++ x.2)
theorem Rd.bindsK_sz : ∀ (bs ks vs : List Rd.D), Rd.bindsK bs = some (ks, vs) → Rd.kzL ks + Rd.kzL vs ≤ Rd.kzL bs ∧ ks.length = bs.length ∧ vs.length = bs.length
  | [], ks, vs, h => by rw [Rd.bindsK] at h; cases h; simp [Rd.kzL]
  | d :: ds, ks, vs, h => by
    rw [Rd.bindsK_cons] at h
    split at h
    · rename_i a b hab
      split at h
      · cases h2 : Rd.bindsK ds with
        | none => rw [h2] at h; cases h
        | some x =>
          obtain ⟨xs, ys⟩ := x
          rw [h2] at h
          cases h
          have := Rd.bindsK_sz ds xs ys h2
          obtain ⟨p, ps, en⟩ := d
          simp only [Rd.D.parts] at hab
          subst hab
          simp only [Rd.kzL, Rd.kzD, List.length_cons]
          omega
      · cases h
    · cases h
theorem Rd.bindsK_no {p : Nat} {ps : List Rd.D} {en : Rd.A} {ds : List Rd.D} (h : ps.length ≠ 2 ∨ en.isEmpty = false) : Rd.bindsK (.mk p ps en :: ds) = none := by
  rw [Rd.bindsK_cons]
  have hi : (Rd.D.mk p ps en).isList = en.isEmpty := by cases en <;> rfl
  show (match ps with | [a, b] => if (Rd.D.mk p ps en).isList = true then (Rd.bindsK ds).map (fun x => (a :: x.1, b :: x.2)) else none | _ => none) = none
  split
  · rename_i a b
    rcases h with h | h
    · exact absurd rfl h
    · rw [hi, h]; rfl
  · rfl
theorem Rd.bindsK_yes {p : Nat} {a b : Rd.D} {en : Rd.A} {ds : List Rd.D} (h : en.isEmpty = true) : Rd.bindsK (.mk p [a, b] en :: ds) = (Rd.bindsK ds).map fun x => (a :: x.1, b :: x.2) := by
  rw [Rd.bindsK_cons]
  have hi : (Rd.D.mk p [a, b] en).isList = true := by cases en <;> first | rfl | cases h
  show (if (Rd.D.mk p [a, b] en).isList = true then (Rd.bindsK ds).map (fun x => (a :: x.1, b :: x.2)) else none) = _
  rw [if_pos hi]
theorem two_of {α : Type} : ∀ (l : List α), l.length = 2 → ∃ a b, l = [a, b]
  | [a, b], _ => ⟨a, b, rfl⟩
  | [], h => by simp at h
  | [_], h => by simp at h
  | _ :: _ :: _ :: _, h => by simp at h
end Go.Proofs.YtodeeegbajgafaaGreatDoor

namespace Go.Proofs.YtodeeegbajgafaaGreatDoor
open Go.RowKit
set_option maxHeartbeats 4000000 in
set_option maxRecDepth 100000 in
theorem let_k (f : Nat) (HF : FormsCK f) (pb sb kb : Nat) (env : List (List Rd.Sym)) (fl : Option Nat) (fv : Value) (n : Nat) (w : World) (p : Nat) (g o cap : Nat) (d0 : Rd.D) (rest0 : List Rd.D) (hp : PAtK pb sb kb env fl fv n w)
    (hs : RepS (fun k => ¬ PMK pb sb fv k) w (.slice (some ⟨g, o, none⟩) (rest0.length + 1) cap) (d0 :: rest0)) (hf2 : 2 * Rd.kzL rest0 + 1 ≤ f) (hf : env.length + 1 + f ≤ 5000) (hnz : n + (Rd.kzL rest0 + 1) ≤ 4000) (R : Rd.PR Rd.F) (hshort : rest0.length < 2 → R = .no p) (hno : ∀ d1 rest, rest0 = d1 :: rest → d1.isList = false → R = .no p)
    (hbad : ∀ d1 rest, rest0 = d1 :: rest → rest ≠ [] → d1.isList = true → Rd.bindsK d1.parts = none → R = .no p)
    (hnone : ∀ d1 rest ks vs, rest0 = d1 :: rest → rest ≠ [] → d1.isList = true → Rd.bindsK d1.parts = some (ks, vs) → Rd.namesK ks [] = none → R = .no p)
    (hsome : ∀ d1 rest ks vs ns, rest0 = d1 :: rest → rest ≠ [] → d1.isList = true → Rd.bindsK d1.parts = some (ks, vs) → Rd.namesK ks [] = some ns → R = (match Rd.kForms f env vs with | .ok ys => (Rd.kForms f (ns :: env) rest).map (.let_ ys ·) | .no q => .bad q | .bad q => .bad q)) :
    Calls Tryz.prog 53 #[.pointer (some ⟨pb, 0, none⟩), lsV p g o (rest0.length + 1) cap] w (RuleK pb sb kb env fl fv n (Rd.kzL rest0 + 1) w R) := by
  have hcap := hs.len.2
  simp only [List.length_cons] at hcap
  have hlz := Rd.kzL_len rest0
  by_cases hl : rest0.length < 2
  · rw [hshort hl]
    have hB := box_below w (.cells #[.int .i64 p, .slice (some ⟨g, o, none⟩) (rest0.length + 1) cap, .iface 146 (.agg #[])] 62)
    have HREF : Hid (Calls Tryz.prog 59 #[.pointer (some ⟨pb, 0, none⟩), .agg #[.int .i64 p, .slice (some ⟨g, o, none⟩) (rest0.length + 1) cap, .iface 146 (.agg #[])]] (w.alloc (.cells #[.int .i64 p, .slice (some ⟨g, o, none⟩) (rest0.length + 1) cap, .iface 146 (.agg #[])] 62)) fun e w' => e = .returned .nilIface ∧ RuleK pb sb kb env fl fv n (Rd.kzL rest0 + 1) w (.no p) e w') := refuse_d pb sb kb env fl fv n _ w p _ _ _ _ _ hp hnz (by omega) _ hB
    have j1 : (rest0.length : Int) + 1 < 3 := by omega
    clear hp hs HF hshort hno hnone hsome hbad
    unfold lsV
    go_enter Tryz.func53, Tryz.ntmps53
    go_wp2_with (first | (go_at_call 59; refine HREF.out.mono ?_; rintro e w1 ⟨rfl, hfin⟩; have HFIN := (show Hid _ from hfin); clear hfin))
    go_ret
    exact HFIN.out
  obtain ⟨d1, rest, rfl⟩ : ∃ d1 rest, rest0 = d1 :: rest := by
    cases rest0 with
    | nil => simp at hl
    | cons d1 rest => exact ⟨d1, rest, rfl⟩
  simp only [List.length_cons] at hl hcap hs hlz ⊢
  have hr : rest ≠ [] := fun e => by subst e; simp at hl
  have hlr : 0 < rest.length := List.length_pos_iff.2 hr
  have hz : Rd.kzL (d1 :: rest) = Rd.kzD d1 + Rd.kzL rest := by rw [Rd.kzL]
  have hB := box_below w (.cells #[.int .i64 p, .slice (some ⟨g, o, none⟩) (rest.length + 2) cap, .iface 146 (.agg #[])] 62)
  have hs2 := hs.mono (ok' := fun k => ¬ PMK pb sb fv k) (w' := w.alloc (.cells #[.int .i64 p, .slice (some ⟨g, o, none⟩) (rest.length + 2) cap, .iface 146 (.agg #[])] 62)) (fun k hk h => ⟨h, Below.heap_alloc _ _ _ hk⟩)
  obtain ⟨q, bs, en⟩ := d1
  have hzd : Rd.kzD (.mk q bs en) = 1 + Rd.kzL bs := by rw [Rd.kzD]
  have hbz := Rd.kzL_len bs
  have hbl : bs.length ≤ 4000 := by omega
  obtain ⟨po, pc, e0, e1, e2, hok, hps⟩ := hs2.listAt 1 (by simp) (p := q) (ps := bs) (en := en) rfl
  obtain ⟨ti, xv, hav⟩ : ∃ t x, aV en = .iface t x := by cases en <;> exact ⟨_, _, rfl⟩
  rw [hav] at e2
  simp only [Nat.mul_one] at e0 e1 e2
  have HI : Hid (∀ W, Calls Tryz.prog 60 #[.agg #[.int .i64 q, .slice po bs.length pc, .iface ti xv]] W fun e w' => e = .returned (.bool en.isEmpty) ∧ Below W.heap.size W w') := fun W => by rw [← hav]; exact isList_any q po bs.length pc en W
  have hisl : (Rd.D.mk q bs en).isList = en.isEmpty := by cases en <;> rfl
  have hB1 : ∀ W, Below (w.alloc (.cells #[.int .i64 p, .slice (some ⟨g, o, none⟩) (rest.length + 2) cap, .iface 146 (.agg #[])] 62)).heap.size (w.alloc (.cells #[.int .i64 p, .slice (some ⟨g, o, none⟩) (rest.length + 2) cap, .iface 146 (.agg #[])] 62)) W → Below w.heap.size w W := fun W hW => hB.trans (hW.mono (by simp))
  have HB1 := (show Hid _ from hB1)
  have HREF : Hid (∀ W, Below w.heap.size w W → Calls Tryz.prog 59 #[.pointer (some ⟨pb, 0, none⟩), .agg #[.int .i64 p, .slice (some ⟨g, o, none⟩) (rest.length + 2) cap, .iface 146 (.agg #[])]] W fun e w' => e = .returned .nilIface ∧ RuleK pb sb kb env fl fv n (Rd.kzL (.mk q bs en :: rest) + 1) w (.no p) e w') := fun W hW => refuse_d pb sb kb env fl fv n _ w p _ _ _ _ _ hp hnz (by omega) W hW
  by_cases hise : en.isEmpty = true
  case neg =>
    rw [hno _ _ rfl (by rw [hisl]; simpa using hise)]
    have hef : en.isEmpty = false := by simpa using hise
    rw [hef] at HI
    clear hp hs HF hshort hno hnone hsome hbad hs2 hps hav hB1 hisl hise hef hz hzd hbz hlz hf2 hnz
    generalize Rd.kzL (.mk q bs en :: rest) = Z at *
    unfold lsV
    go_enter Tryz.func53, Tryz.ntmps53
    go_wp2_with (first | (go_at_call 60; refine (HI.out _).mono ?_; rintro e w1 ⟨rfl, hb1⟩; have hsz1 : w.heap.size < w1.heap.size := (by have := hb1.size; simp at this; omega); obtain ⟨q0, q1, q2, _, _, _⟩ := cells3 (Below.at hb1 (at_new w _))) | (go_at_call 59; refine (HREF.out _ (HB1.out _ hb1)).mono ?_; rintro e w2 ⟨rfl, hfin⟩; have HFIN := (show Hid _ from hfin); clear hfin))
    go_ret
    exact HFIN.out
  rw [hise] at HI
  obtain ⟨i0, hi, hz0, hz1, hz2⟩ := info_parts Tryz.info62
  have hlp := hp.par.lt
  have hol := hp.own_lt
  have hnb := notPMK hp (Nat.le_refl w.heap.size)
  have hpl := hps.len.2
  have hbnd : ∀ ks vs, Rd.bindsK bs = some (ks, vs) → Rd.kzL ks + Rd.kzL vs ≤ Rd.kzL bs ∧ ks.length = bs.length ∧ vs.length = bs.length := Rd.bindsK_sz bs
  generalize hBR : Rd.bindsK bs = BR at *
  have HBR := (show Hid _ from hBR)
  have HBND := (show Hid _ from hbnd)
  have HRB : Hid (BR = none → R = .no p) := fun e => hbad _ _ rfl hr (hisl.trans hise) (hBR.trans e)
  have HRN : Hid (∀ ks vs, BR = some (ks, vs) → Rd.namesK ks [] = none → R = .no p) := fun ks vs e => hnone _ _ ks vs rfl hr (hisl.trans hise) (hBR.trans e)
  have HRS : Hid (∀ ks vs ns, BR = some (ks, vs) → Rd.namesK ks [] = some ns → R = (match Rd.kForms f env vs with | .ok ys => (Rd.kForms f (ns :: env) rest).map (.let_ ys ·) | .no q => .bad q | .bad q => .bad q)) := fun ks vs ns e => hsome _ _ ks vs ns rfl hr (hisl.trans hise) (hBR.trans e)
  have HZ : Hid (Rd.kzL (.mk q bs en :: rest) = 1 + Rd.kzL bs + Rd.kzL rest) := by rw [Hid, hz, hzd]
  have HHF : Hid (FormsCK f) := HF
  have HP : Hid (PAtK pb sb kb env fl fv n w) := hp
  clear hBR hbnd hbad hnone hsome hno hshort hs hisl hise hav hz hzd hlz HF hp
  unfold lsV
  go_enter Tryz.func53, Tryz.ntmps53
  go_wp2_with (go_at_call 60; refine (HI.out _).mono ?_; rintro e w1 ⟨rfl, hb1⟩; have hsz1 : w.heap.size < w1.heap.size := (by have := hb1.size; simp at this; omega); have hbx := Below.at hb1 (at_new w _); obtain ⟨q0, q1, q2, _, _, _⟩ := cells3 hbx; have y0 := (Kept.of_below hb1 (PMK pb sb fv)).cell hok e0; have y1 := (Kept.of_below hb1 (PMK pb sb fv)).cell hok e1; have y2 := (Kept.of_below hb1 (PMK pb sb fv)).cell hok e2)
  have hb01 : Below w.heap.size w w1 := HB1.out _ hb1
  have hp1 := HP.out.kept hb01
  have hs1 : RepS (fun k => ¬ PMK pb sb fv k ∧ k < w1.heap.size) w1 (.slice (some ⟨g, o, none⟩) (rest.length + 2) cap) (d0 :: .mk q bs en :: rest) := hs2.mono fun k hk h => ⟨⟨h, Nat.lt_of_lt_of_le hk hb1.size⟩, hb1.block k hk⟩
  have hps1 : RepS (fun k => ¬ PMK pb sb fv k ∧ k < w1.heap.size) w1 (.slice po bs.length pc) bs := hps.mono fun k hk h => ⟨⟨h, Nat.lt_of_lt_of_le hk hb1.size⟩, hb1.block k hk⟩
  have hgl : g < w1.heap.size := by
    rcases hs1 with ⟨h, _⟩ | ⟨g', o', cap', c, T, va, vb, vc, heq, h, _⟩
    · cases h
    · cases heq; exact h.2
  have hlp1 : (pb < w1.heap.size ∧ sb < w1.heap.size ∧ kb < w1.heap.size) ∧ ∀ k, fv.ownBlock = some k → k < w1.heap.size := ⟨by omega, fun k e => by have := hol k e; omega⟩
  have hL0 : LettingK pb sb kb env fl fv n w1.heap.size w1 [] [] (.slice none 0 0) (.slice none 0 0) w1 := ⟨hp1, Below.refl _ _, Nat.le_refl _, ⟨[], ⟨rfl, Or.inl ⟨rfl, rfl⟩⟩, fun i hi => absurd hi (Nat.not_lt_zero _)⟩, ⟨[], ⟨rfl, Or.inl ⟨rfl, rfl⟩⟩, fun i hi => absurd hi (Nat.not_lt_zero _)⟩, fun g e => by cases e⟩
  have HHP1 := (show Hid _ from hlp1)
  clear hs2 hps hb1 e0 e1 e2 y0 y2 hlp1 hp1
  go_loopg [5, 6, 32] bs.length (fun k v5 v6 i wr => ∃ (j : Nat) (kj vj : List Rd.D), j + k = bs.length ∧ i = .int .i64 j ∧ kj.length ≤ 4000 ∧ vj.length ≤ 4000 ∧ Hid (kj.length = j ∧ vj.length = j ∧ bindR kj vj (Rd.bindsK (bs.drop j)) = BR) ∧ LettingK pb sb kb env fl fv n w1.heap.size w1 kj vj v5 v6 wr)
  case atStart => exact ⟨0, [], [], by omega, rfl, by simp, by simp, ⟨rfl, rfl, by rw [List.drop_zero, HBR.out]; cases BR <;> simp [bindR]⟩, hL0⟩
  case round =>
    obtain ⟨j, kj, vj, hj, rfl, hk4, hv4, HBJ, hL⟩ := hrel
    obtain ⟨hpar, hkept, hsz, ⟨xs5, h5, r5⟩, ⟨xs6, h6, r6⟩, hd56⟩ := hL
    have hbxr := (hkept.block w.heap.size hsz1).trans hbx
    by_cases hlt : j < bs.length
    · have hsr := hps1.mono (ok' := fun k => ¬ PMK pb sb fv k ∧ k < w1.heap.size) (w' := wr) (fun k hk h => ⟨h, hkept.block k h.2⟩)
      obtain ⟨hkj, hvj, hP⟩ := HBJ.out
      rw [List.drop_eq_getElem_cons hlt] at hP
      obtain ⟨pj, psj, ej, hbj⟩ : ∃ pj psj ej, bs[j] = .mk pj psj ej := by cases bs[j]; exact ⟨_, _, _, rfl⟩
      obtain ⟨gb, ob, capb, _, _, _, _, _, _, heq, _, _, _, _, _, _⟩ := hsr.cells j hlt
      simp only [Value.slice.injEq, true_and] at heq
      obtain ⟨rfl, rfl⟩ := heq
      obtain ⟨po2, pc2, c0, c1, c2, hokb, hab⟩ := hsr.listAt j hlt (p := pj) (ps := psj) (en := ej) hbj
      obtain ⟨tj, xj, havj⟩ : ∃ t x, aV ej = .iface t x := by cases ej <;> exact ⟨_, _, rfl⟩
      rw [havj] at c2
      rw [Nat.mul_comm 3 j] at c0 c1 c2
      have HI2 : Hid (∀ W, Calls Tryz.prog 60 #[.agg #[.int .i64 pj, .slice po2 psj.length pc2, .iface tj xj]] W fun e w' => e = .returned (.bool ej.isEmpty) ∧ Below W.heap.size W w') := fun W => by rw [← havj]; exact isList_any pj po2 psj.length pc2 ej W
      have hgbl : gb < w1.heap.size := hokb.2
      rw [hbj] at hP
      have HBW : Hid (∀ W, Below wr.heap.size wr W → Below w.heap.size w W) := fun W hW => hb01.trans ((hkept.trans (hW.mono hsz)).mono (by omega))
      have HQW : Hid (∀ W, Below wr.heap.size wr W → W.cell? ⟨w.heap.size, 0, none⟩ = some (.int .i64 p) ∧ W.cell? ⟨w.heap.size, 1, none⟩ = some (.slice (some ⟨g, o, none⟩) (rest.length + 2) cap) ∧ W.cell? ⟨w.heap.size, 2, none⟩ = some (.iface 146 (.agg #[]))) := fun W hW => by
        obtain ⟨a, b, c, _, _, _⟩ := cells3 (Below.at hW hbxr)
        exact ⟨a, b, c⟩
      have hsw : w.heap.size < wr.heap.size := by omega
      by_cases h2 : psj.length = 2
      case neg =>
        have hB0 : BR = none := by rw [← hP, Rd.bindsK_no (.inl h2)]; rfl
        rw [HRB.out hB0]
        have hn2 : ¬ (psj.length : Int) = 2 := by omega
        obtain ⟨x0, x1, x2⟩ := HQW.out (wr.alloc (.cells #[.int .i64 pj, .slice po2 psj.length pc2, .iface tj xj] 62)) ((Below.refl _ wr).alloc (Nat.le_refl _) _)
        have HRW : Hid (Calls Tryz.prog 59 #[.pointer (some ⟨pb, 0, none⟩), .agg #[.int .i64 p, .slice (some ⟨g, o, none⟩) (rest.length + 2) cap, .iface 146 (.agg #[])]] (wr.alloc (.cells #[.int .i64 pj, .slice po2 psj.length pc2, .iface tj xj] 62)) fun e w' => e = .returned .nilIface ∧ RuleK pb sb kb env fl fv n (Rd.kzL (.mk q bs en :: rest) + 1) w (.no p) e w') := HREF.out _ (HBW.out _ ((Below.refl _ wr).alloc (Nat.le_refl _) _))
        generalize Rd.kzL (.mk q bs en :: rest) = Z at *
        clear hsr hP hbj hab hpar hkept h5 h6 r5 r6 hd56 hps1 hs1 hL0 HBJ hkj hvj havj h2 hB0 HREF
        go_wp2_with (first | (go_at_call 59; refine HRW.out.mono ?_; rintro e w2 ⟨rfl, hfin⟩; have HFIN := (show Hid _ from hfin); clear hfin))
        go_ret
        exact HFIN.out
      obtain ⟨a, b, rfl⟩ := two_of psj h2
      simp only [List.length_cons, List.length_nil, Nat.zero_add, Nat.reduceAdd] at c0 c1 c2 hab HI2 HQW
      by_cases hej : ej.isEmpty = true
      case neg =>
        have hef : ej.isEmpty = false := by simpa using hej
        have hB0 : BR = none := by rw [← hP, Rd.bindsK_no (.inr hef)]; rfl
        rw [HRB.out hB0]
        rw [hef] at HI2
        have HRW : Hid (∀ W, Below wr.heap.size wr W → Calls Tryz.prog 59 #[.pointer (some ⟨pb, 0, none⟩), .agg #[.int .i64 p, .slice (some ⟨g, o, none⟩) (rest.length + 2) cap, .iface 146 (.agg #[])]] W fun e w' => e = .returned .nilIface ∧ RuleK pb sb kb env fl fv n (Rd.kzL (.mk q bs en :: rest) + 1) w (.no p) e w') := fun W hW => HREF.out W (HBW.out W hW)
        generalize Rd.kzL (.mk q bs en :: rest) = Z at *
        clear hsr hP hbj hab hpar hkept h5 h6 r5 r6 hd56 hps1 hs1 hL0 HBJ hkj hvj havj h2 hB0 HREF hej hef
        go_wp2_with (first | (go_at_call 60; refine (HI2.out _).mono ?_; rintro e w2 ⟨rfl, hb2⟩; have hw2 : Below wr.heap.size wr w2 := ((Below.refl _ wr).alloc (Nat.le_refl _) _).trans (hb2.mono (by simp)); obtain ⟨x0, x1, x2⟩ := HQW.out _ hw2) | (go_at_call 59; refine (HRW.out _ hw2).mono ?_; rintro e w3 ⟨rfl, hfin⟩; have HFIN := (show Hid _ from hfin); clear hfin))
        go_ret
        exact HFIN.out
      rw [Rd.bindsK_yes hej] at hP
      rw [hej] at HI2
      have HBN : Hid ((kj ++ [a]).length = j + 1 ∧ (vj ++ [b]).length = j + 1 ∧ bindR (kj ++ [a]) (vj ++ [b]) (Rd.bindsK (bs.drop (j + 1))) = BR) := ⟨by simp [hkj], by simp [hvj], by
        rw [← hP]
        cases Rd.bindsK (bs.drop (j + 1)) <;> simp [bindR]⟩
      obtain ⟨ga, oa, capa, p0, po0, pn0, pc0, ti0, xv0, heq, hoka, hca, f0, f1, f2, hra⟩ := hab.cells 0 (by simp)
      simp only [Value.slice.injEq, List.length_cons, List.length_nil, Nat.zero_add, Nat.reduceAdd, true_and] at heq
      obtain ⟨rfl, rfl⟩ := heq
      obtain ⟨ga', oa', capa', p1, po1, pn1, pc1, ti1, xv1, heq, _, _, g0, g1, g2, hrb⟩ := hab.cells 1 (by simp)
      simp only [Value.slice.injEq, List.length_cons, List.length_nil, Nat.zero_add, Nat.reduceAdd, true_and, Option.some.injEq, Addr.mk.injEq, and_true] at heq
      obtain ⟨⟨rfl, rfl⟩, rfl⟩ := heq
      simp only [List.getElem_cons_zero, List.getElem_cons_succ, Nat.mul_zero, Nat.add_zero, Nat.mul_one] at hra hrb f0 f1 f2 g0 g1 g2
      have hgal : ga < w1.heap.size := hoka.2
      have A : Aside (PAtK pb sb kb env fl fv n wr ∧ Below w1.heap.size w1 wr ∧ wr.ownsRow w1.heap.size 62 3 u5 kj.length xs5 ∧ wr.ownsRow w1.heap.size 62 3 u6 vj.length xs6) := ⟨hpar, hkept, h5, h6⟩
      have A2 := (show Aside _ from r5)
      have A3 := (show Aside _ from r6)
      have A4 := (show Aside _ from hd56)
      have A5 := (show Aside _ from hra)
      have A6 := (show Aside _ from hrb)
      clear hsr hP hbj hab hpar hkept h5 h6 r5 r6 hd56 hra hrb hps1 hs1 hL0 HBJ hkj hvj havj h2 hej HREF HBW HQW hbxr
      go_wp2_with (first | (go_at_call 60; refine (HI2.out _).mono ?_; rintro e w2 ⟨rfl, hb2⟩; have hw2 : Below wr.heap.size wr w2 := ((Below.refl _ wr).alloc (Nat.le_refl _) _).trans (hb2.mono (by simp)); have hbin := Below.at hb2 (at_new wr _); obtain ⟨n0, n1, n2, _, _, _⟩ := cells3 hbin; have hs2 := hw2.size; have m0 := (Kept.of_below hw2 (fun _ => False)).cell id f0; have m1 := (Kept.of_below hw2 (fun _ => False)).cell id f1; have m2 := (Kept.of_below hw2 (fun _ => False)).cell id f2) | (at_builtin; refine wpList_append_own_at _ rfl _ _ 55 rfl w1.heap.size 62 i0 (.agg #[.int .i64 0, .slice none 0 0, .nilIface]) 3 48 Tryz.underlying55 hi hz0 hz1 hz2 rfl (by decide) u5 kj.length xs5 rfl ?h1 ⟨w2.heap.size, 0, none⟩ 1 1 [.int .i64 p0, .slice po0 pn0 pc0, .iface ti0 xv0] rfl rfl ?h2 ?h3 ?h4 ?h5 ?h6 ?_))
      case h1 => exact ownsRow_kept' A.out.2.2.1 (hw2.alloc hs2 _)
      case h2 => exact cell_three (at_new w2 _)
      case h3 => intro u hu; simp at hu; rcases hu with rfl | rfl | rfl <;> rfl
      case h4 => unfold maxLen; omega
      case h5 => omega
      case h6 => simp; omega
      intro v5 w3 hown5 hg1 _ hat1
      obtain ⟨hpar, hkept, h5, h6⟩ := A.out
      have lo5 := ownBlock_of h5
      have lo6 := ownBlock_of h6
      have hs3 : w2.heap.size + 1 ≤ w3.heap.size := by simpa using hg1.size
      have hne5 : ∀ k, u5.ownBlock = some k → w1.heap.size ≤ k := fun k e => (lo5 k e).1
      have hk23 : ∀ k, k < w2.heap.size → some k ≠ u5.ownBlock → w3.heap[k]? = w2.heap[k]? := fun k hk hne => by
        rw [hg1.block k (by simp; omega) hne, Below.heap_alloc _ _ _ hk]
      have hbin3 := (hk23 wr.heap.size (lt_of_at hbin) (fun e => by have := (lo5 _ e.symm).2; omega)).trans hbin
      obtain ⟨n0', n1', n2', _, _, _⟩ := cells3 hbin3
      have hga3 : ∀ o, w3.cell? ⟨ga, o, none⟩ = wr.cell? ⟨ga, o, none⟩ := fun o => World.cell?_of_block (by
        rw [hk23 ga (by omega) (fun e => by have := (lo5 _ e.symm).1; omega), hw2.block ga (by omega)])
      have m0' := (hga3 _).trans g0
      have m1' := (hga3 _).trans g1
      have m2' := (hga3 _).trans g2
      have hX1 : Below wr.heap.size wr (w2.alloc (.cells #[.int .i64 p0, .slice po0 pn0 pc0, .iface ti0 xv0] 62)) := hw2.alloc hs2 _
      have hw6 := ownsRow_grown (ownsRow_kept' h6 hX1) hg1 (fun k e e' => A4.out k e' e)
      have B1 : Aside (PAtK pb sb kb env fl fv n wr ∧ Below w1.heap.size w1 wr ∧ wr.ownsRow w1.heap.size 62 3 u5 kj.length xs5 ∧ wr.ownsRow w1.heap.size 62 3 u6 vj.length xs6) := ⟨hpar, hkept, h5, h6⟩
      have B2 := (show Aside _ from hown5)
      have B3 := (show Aside _ from hg1)
      have B4 := (show Aside _ from hat1)
      have B5 := (show Aside _ from hw6)
      have B6 := (show Aside _ from hX1)
      clear hown5 hg1 hat1 hw6 hX1 hpar hkept h5 h6 hga3 hk23 lo5 lo6 hne5 A hbin hbin3 n0 n1 n2 m0 m1 m2
      go_wp2_with (at_builtin; refine wpList_append_own_at _ rfl _ _ 55 rfl w1.heap.size 62 i0 (.agg #[.int .i64 0, .slice none 0 0, .nilIface]) 3 48 Tryz.underlying55 hi hz0 hz1 hz2 rfl (by decide) u6 vj.length xs6 rfl ?h1 ⟨w3.heap.size, 0, none⟩ 1 1 [.int .i64 p1, .slice po1 pn1 pc1, .iface ti1 xv1] rfl rfl ?h2 ?h3 ?h4 ?h5 ?h6 ?_)
      case h1 => exact ownsRow_kept' B5.out ((Below.refl _ w3).alloc (Nat.le_refl _) _)
      case h2 => exact cell_three (at_new w3 _)
      case h3 => intro u hu; simp at hu; rcases hu with rfl | rfl | rfl <;> rfl
      case h4 => unfold maxLen; omega
      case h5 => omega
      case h6 => simp; omega
      intro v6 w4 hown6 hg2 _ hat2
      obtain ⟨hpar, hkept, h5, h6⟩ := B1.out
      have hLn : LettingK pb sb kb env fl fv n w1.heap.size w1 (kj ++ [a]) (vj ++ [b]) v5 v6 w4 :=
        LettingK.push hpar hkept hsz HHP1.out h5 A2.out h6 A3.out A4.out A5.out A6.out B6.out B2.out B3.out (by simpa using B4.out) ((Below.refl _ w3).alloc (Nat.le_refl _) _) hown6 hg2 (by simpa using hat2)
      clear hown6 hg2 hat2 hpar hkept h5 h6 B1 B2 B3 B4 B5 B6 A2 A3 A4 A5 A6
      go_wp2
      go_roundg (gk - 1)
      case measure => omega
      case rel => exact ⟨j + 1, kj ++ [a], vj ++ [b], by omega, by go_num, by have := HBN.out.1; omega, by have := HBN.out.2.1; omega, HBN, hLn⟩
    · have hjl : j = bs.length := by omega
      obtain ⟨hkj, hvj, hP⟩ := HBJ.out
      have hB0 : BR = some (kj, vj) := by
        rw [← hP, hjl, List.drop_length, Rd.bindsK]
        simp [bindR]
      obtain ⟨hzz, -, -⟩ := HBND.out kj vj hB0
      have hkl5 : kj.length ≤ 5000 := by omega
      have hRK : RepS (fun _ => True) wr u5 kj := (own_reps2 (ok := fun k => ¬ PMK pb sb fv k ∧ k < w1.heap.size ∨ w1.heap.size ≤ k) h5 (fun g h => Or.inr h) (fun i hi => (r5 i hi).mono fun k _ h => ⟨Or.inl h, rfl⟩)).mono fun k _ _ => ⟨trivial, rfl⟩
      have hnotB : ∀ k, w1.heap.size ≤ k → ¬ PMK pb sb fv k := fun k hk e => by
        have := HHP1.out
        rcases e with e | e | e
        · omega
        · omega
        · have := this.2 k e; omega
      have hRV : RepS (fun k => ¬ PMK pb sb fv k) wr u6 vj := own_reps2 h6 (fun g h => hnotB g h) (fun i hi => (r6 i hi).mono fun k _ h => ⟨h.1, rfl⟩)
      have hRD : RepS (fun k => ¬ PMK pb sb fv k) wr (.slice (some ⟨g, o, none⟩) (rest.length + 2) cap) (d0 :: .mk q bs en :: rest) := hs1.mono (fun k hk h => ⟨h.1, hkept.block k h.2⟩)
      obtain ⟨b5, c5, rfl⟩ : ∃ b c, u5 = .slice b kj.length c := by
        obtain ⟨_, ⟨rfl, e⟩ | ⟨g', cap', cur, rfl, _⟩⟩ := h5
        · exact ⟨none, 0, by rw [e]⟩
        · exact ⟨_, _, rfl⟩
      obtain ⟨b6, c6, rfl⟩ : ∃ b c, u6 = .slice b vj.length c := by
        obtain ⟨_, ⟨rfl, e⟩ | ⟨g', cap', cur, rfl, _⟩⟩ := h6
        · exact ⟨none, 0, by rw [e]⟩
        · exact ⟨_, _, rfl⟩
      have HN : Hid (Calls Tryz.prog 103 #[.pointer (some ⟨pb, 0, none⟩), .slice b5 kj.length c5] wr (NamesR (Rd.namesK kj []) wr)) := namesOf_k fv pb sb kb env wr kj _ hpar.par hRK hkl5
      have HBW : Hid (∀ W, Below wr.heap.size wr W → Below w.heap.size w W) := fun W hW => hb01.trans ((hkept.trans (hW.mono hsz)).mono (by omega))
      have HQW : Hid (∀ W, Below wr.heap.size wr W → W.cell? ⟨w.heap.size, 0, none⟩ = some (.int .i64 p) ∧ W.cell? ⟨w.heap.size, 1, none⟩ = some (.slice (some ⟨g, o, none⟩) (rest.length + 2) cap) ∧ W.cell? ⟨w.heap.size, 2, none⟩ = some (.iface 146 (.agg #[]))) := fun W hW => by
        obtain ⟨a, b, c, _, _, _⟩ := cells3 (Below.at hW hbxr)
        exact ⟨a, b, c⟩
      cases hnm : Rd.namesK kj [] with
      | none =>
        have HRE : Hid (R = .no p) := HRN.out kj vj hB0 hnm
        rw [hnm] at HN
        have HN2 : Hid (Calls Tryz.prog 103 #[.pointer (some ⟨pb, 0, none⟩), .slice b5 kj.length c5] wr fun e w' => e = .returned (.tuple #[.slice none 0 0, .bool false]) ∧ Below wr.heap.size wr w') := HN.out.mono fun e w' ⟨h1, h2⟩ => ⟨h1, h2⟩
        have HRW : Hid (∀ W, Below wr.heap.size wr W → Calls Tryz.prog 59 #[.pointer (some ⟨pb, 0, none⟩), .agg #[.int .i64 p, .slice (some ⟨g, o, none⟩) (rest.length + 2) cap, .iface 146 (.agg #[])]] W fun e w' => e = .returned .nilIface ∧ RuleK pb sb kb env fl fv n (Rd.kzL (.mk q bs en :: rest) + 1) w (.no p) e w') := fun W hW => HREF.out W (HBW.out W hW)
        generalize Rd.kzL (.mk q bs en :: rest) = Z at *
        clear h5 r5 h6 r6 hd56 hps1 hs1 hL0 HBJ hRD hRV hRK hpar hkept HN hnm hB0 hP hkj hvj hjl HREF
        go_wp2_with (first | (go_at_call 103; refine HN2.out.mono ?_; rintro e w2 ⟨rfl, hb2⟩; obtain ⟨x0, x1, x2⟩ := HQW.out _ hb2) | (go_at_call 59; refine (HRW.out _ hb2).mono ?_; rintro e w3 ⟨rfl, hfin⟩; have HFIN := (show Hid _ from hfin); clear hfin))
        go_ret
        rw [HRE.out]
        exact HFIN.out
      | some ns =>
        have hRR := HRS.out kj vj ns hB0 hnm
        rw [hnm] at HN
        have hdf := Rd.namesK_differ kj [] ns (fun i j hi _ _ => absurd hi (Nat.not_lt_zero _)) hnm
        have hnl := Rd.namesK_length kj [] ns hnm
        simp only [List.length_nil, Nat.zero_add] at hnl
        have hnl5 : ns.length ≤ 5000 := by omega
        have HN2 : Hid (Calls Tryz.prog 103 #[.pointer (some ⟨pb, 0, none⟩), .slice b5 kj.length c5] wr fun e w' => ∃ na nc, e = .returned (.tuple #[.slice na ns.length nc, .bool true]) ∧ RepN (fun k => wr.heap.size ≤ k) w' (.slice na ns.length nc) ns ∧ Below wr.heap.size wr w') := HN.out.mono fun e w' ⟨⟨nv, h1, h3⟩, h2⟩ => by
          obtain ⟨nb, nc, rfl, _⟩ := h3.shape
          exact ⟨nb, nc, h1, h3, h2⟩
        have hZ := HZ.out
        have HFA : Hid (∀ W, Below wr.heap.size wr W → Calls Tryz.prog 101 #[.pointer (some ⟨pb, 0, none⟩), .slice b6 vj.length c6] W (RulesK pb sb kb env fl fv n (Rd.kzL vj) vj.length W (Rd.kForms f env vj))) := fun W hW => HHF.out pb sb kb env fl fv n W vj _ (hpar.kept hW) (by omega) (by omega) (by omega) (hRV.mono fun k hk h => ⟨h, hW.block k hk⟩)
        have HFW : Hid (∀ (W W' : World) (fv' : Value) (n' : Nat) (fl' : Option Nat) (na : Option Addr) (nc : Nat), Below wr.heap.size wr W → RepN (fun k => wr.heap.size ≤ k) W (.slice na ns.length nc) ns → PAtK pb sb kb env fl' fv' n' W' → n' ≤ n + Rd.kzL vj → Kept (PMK pb sb fv) W W' → NewF W fv fv' → Calls Tryz.prog 104 #[.pointer (some ⟨pb, 0, none⟩), .slice na ns.length nc, .slice (some ⟨g, o + 6, none⟩) rest.length (cap - 2)] W' (WithinR pb sb kb env fl' fv' n' (Rd.kzL rest) rest.length W' (Rd.kForms f (ns :: env) rest))) := fun W W' fv' n' fl' na nc hW hN hW' hn' hK hNF =>
          rest_within f HHF.out pb sb kb env fl' fv' n' W' g o cap d0 (.mk q bs en) rest hW' ((hRD.mono fun k hk h => ⟨h, hW.block k hk⟩).mono (keptK_rep hK hNF)) (by omega) hf (by omega) W' (Below.refl _ _) _ ns ((hN.newK (fv := fv) (w := wr) (by have := HHP1.out; omega) (by have := HHP1.out; omega) (fun k e => by have := HHP1.out.2 k e; omega)).mono (keptK_rep hK hNF)) hdf hnl5
        have HRR := (show Hid _ from hRR)
        have HZ3 : Hid (Rd.kzL vj + Rd.kzL rest ≤ Rd.kzL (.mk q bs en :: rest)) := by rw [Hid]; omega
        have HZZ : Hid ((⟨0, 0⟩ : Nat × Nat) = (0, 0)) := rfl
        have i1 : ¬ cap = 2 := by omega
        have i2 : (2 : Int) ≤ (rest.length : Int) + 2 := by omega
        have i3 : (rest.length : Int) + 2 ≤ (cap : Int) := by omega
        have HFK := Rd.kForms_fine f env vj
        have HFINE := (show Hid _ from HFK)
        generalize Rd.kForms f env vj = KV at *
        generalize Rd.kForms f (ns :: env) rest = KB at *
        clear h5 r5 h6 r6 hd56 hps1 hs1 hL0 HBJ hRD hRV hRK hpar hkept HN hnm hB0 hP hkj hvj hjl hRR hdf hnl HREF HRB HRN HRS HBND HBR HFK hzz hZ hbz hf2 hnz
        generalize Rd.kzL (.mk q bs en :: rest) = Z at *
        generalize Rd.kzL vj = ZV at *
        generalize Rd.kzL rest = ZR at *
        go_wp2_with (go_at_call 103; refine HN2.out.mono ?_; rintro e w2 ⟨na, nc, rfl, hnv, hb2⟩; obtain ⟨x0, x1, x2⟩ := HQW.out _ hb2; have HNV : Hid (RepN (fun k => wr.heap.size ≤ k) w2 (.slice na ns.length nc) ns) := hnv; clear hnv)
        have hb2d : Below wr.heap.size wr w2.drew := hb2.trans ((Below.refl _ w2).drew.mono hb2.size)
        have HNVD : Hid (RepN (fun k => wr.heap.size ≤ k) w2.drew (.slice na ns.length nc) ns) := RepN.mono HNV.out fun k _ h => ⟨h, rfl⟩
        go_region_held3 (fun W => W.cell? ⟨w.heap.size, 1, none⟩ = some (.slice (some ⟨g, o, none⟩) (rest.length + 2) cap)) (go_keep) (first | (go_at_call 101; refine (HFA.out _ hb2d).mono ?_; rintro e w3 ⟨v3, fv3, n3, rfl, hsh3, hrep3, hp3, hn3, hk3, hnw3⟩; obtain ⟨sg, scap, sc, sT, rfl, _, _, _, _⟩ := id hsh3; have z1 := hk3.cell hnb x1) | (go_at_call 104; refine (HFW.out _ _ _ _ _ _ _ hb2d HNVD.out hp3 hn3 hk3 hnw3).mono ?_; rintro e w4 ⟨v4, fv4, n4, rfl, ⟨sg4, scap4, rfl⟩, hrep4, hp4, hn4, hk4, hnw4⟩; have z2 := (keptK_trans hk3 hk4 hnw3).cell hnb x1))
        all_goals
          go_wp2
          go_ret
          have hb0 := HBW.out _ hb2d
          have hs3 := hk3.size
          refine ⟨_, fv4, n4, rfl, ?_, ?_, ?_, by have := HZ3.out; omega, keptK_trans (hk3.below_then hb0) hk4 (hnw3.below hb0), (hnw3.below hb0).trans hnw4 (by have := hb0.size; omega)⟩
          · rw [HRR.out]
            cases KV with
            | no q => exact (HFINE.out).elim
            | bad q => exact ⟨_, _, rfl⟩
            | ok ys => exact shp_map _ _ _ _
          · intro x hx
            rw [HRR.out] at hx
            cases KV with
            | no q => cases hx
            | bad q => cases hx
            | ok ys =>
              cases KB with
              | no q => cases hx
              | bad q => cases hx
              | ok xs =>
                cases hx
                refine .let_ _ _ _ _ ((hrep3 ys rfl).mono fun k hk hge => ?_) ((hrep4 xs rfl).mono fun k _ hge => ⟨⟨by have h1 := hge.1; have := hb0.size; omega, hge.2⟩, rfl⟩)
                have h1 := hge.1
                refine ⟨⟨by have := hb0.size; omega, fun e => ?_⟩, hk4.block k hk fun e => ?_⟩
                · rcases hnw4 k e with e' | e'
                  · exact hge.2 e'
                  · omega
                · have hlpp := HP.out.par.lt
                  have hb0s := hb0.size
                  rcases e with e | e | e
                  · omega
                  · omega
                  · exact hge.2 e
          · rw [HRR.out]
            cases KV with
            | no q => exact (HFINE.out).elim
            | bad q => cases fl <;> exact hp4
            | ok ys => rw [flOr_map]; cases fl <;> exact hp4
end Go.Proofs.YtodeeegbajgafaaGreatDoor

namespace Go.Proofs.YtodeeegbajgafaaGreatDoor
open Go.RowKit
theorem form_factsV {fv : Value} {pb sb kb : Nat} {env : List (List Rd.Sym)} {w : World} (hp : PAtV fv pb sb kb env w) (n : Rd.Sym) :
    w.cell? ⟨pb, 2, none⟩ = some (.map (some kb)) ∧ (Instr.lookup 92 (.map (some kb)) (.string ⟨n.toArray⟩) false).run Tryz.prog w = .ok (((symIx n ruleList 0).map (·.2)).getD .nilFunc) w := by
  obtain ⟨⟨T, h1⟩, _, hru, _⟩ := hp
  exact ⟨cell_of_at h1 2, lookup_sym Tryz.underlying92 zero188 hru n⟩
set_option maxHeartbeats 2000000 in
set_option maxRecDepth 10000 in
theorem formQuote_k (pb sb kb : Nat) (env : List (List Rd.Sym)) (fl : Option Nat) (fv : Value) (n m : Nat) (w : World) (p : Nat) (g o cap : Nat) (d0 : Rd.D) (rest : List Rd.D) (R : Rd.PR Rd.F) (hp : PAtK pb sb kb env fl fv n w) (hl : rest.length ≤ 5000) (hs : RepS (fun k => ¬ PMK pb sb fv k) w (.slice (some ⟨g, o, none⟩) (rest.length + 1) cap) (d0 :: rest)) (hk : d0.sym = some Rd.kwQuote)
    (HR : ∀ W, Below w.heap.size w W → Calls Tryz.prog 49 #[.pointer (some ⟨pb, 0, none⟩), lsV p g o (rest.length + 1) cap] W (RuleK pb sb kb env fl fv n m W R)) :
    Calls Tryz.prog 63 #[.pointer (some ⟨pb, 0, none⟩), lsV p g o (rest.length + 1) cap] w (RuleK pb sb kb env fl fv n m w R) := by
  obtain ⟨q, rfl⟩ := sym_mk hk
  have hcap := hs.len.2
  simp only [List.length_cons] at hcap
  have hB := box_below w (.cells #[.int .i64 p, .slice (some ⟨g, o, none⟩) (rest.length + 1) cap, .iface 146 (.agg #[])] 62)
  have hs2 := hs.mono (ok' := fun k => ¬ PMK pb sb fv k) (w' := w.alloc (.cells #[.int .i64 p, .slice (some ⟨g, o, none⟩) (rest.length + 1) cap, .iface 146 (.agg #[])] 62)) (fun k hk h => ⟨h, Below.heap_alloc _ _ _ hk⟩)
  have hok : ¬ PMK pb sb fv g := by
    obtain ⟨g', o', cap', pp, po0, pn0, pc0, ti, xv, heq, hok, _⟩ := hs2.cells 0 (by simp)
    simp only [Value.slice.injEq, Option.some.injEq, Addr.mk.injEq, and_true] at heq
    obtain ⟨⟨rfl, rfl⟩, _, rfl⟩ := heq
    exact hok
  obtain ⟨po, pc, e0, e1, e2⟩ := hs2.symAt 0 (by simp) (p := q) (m := Rd.kwQuote) rfl
  simp only [Nat.mul_zero, Nat.add_zero, Rd.kwQuote] at e0 e1 e2
  have HI : Hid (∀ W, Calls Tryz.prog 60 #[.agg #[.int .i64 p, .slice (some ⟨g, o, none⟩) (rest.length + 1) cap, .iface 146 (.agg #[])]] W fun e w' => e = .returned (.bool true) ∧ Below W.heap.size W w') := fun W => isList_any p _ (rest.length + 1) cap .empty W
  have hS := fun W => symbol_leaf q po pc (.sym Rd.kwQuote) W
  simp only [aV, Rd.A.symbol, Option.getD_some, Option.isSome_some, Rd.kwQuote] at hS
  have HS := (show Hid _ from hS)
  have HRH : Hid (∀ W, Below (w.alloc (.cells #[.int .i64 p, .slice (some ⟨g, o, none⟩) (rest.length + 1) cap, .iface 146 (.agg #[])] 62)).heap.size (w.alloc (.cells #[.int .i64 p, .slice (some ⟨g, o, none⟩) (rest.length + 1) cap, .iface 146 (.agg #[])] 62)) W → Calls Tryz.prog 49 #[.pointer (some ⟨pb, 0, none⟩), .agg #[.int .i64 p, .slice (some ⟨g, o, none⟩) (rest.length + 1) cap, .iface 146 (.agg #[])]] W (RuleK pb sb kb env fl fv n m w R)) := fun W hW => (HR W (hB.trans (hW.mono (by simp)))).mono fun e w' h => RuleK.from (hB.trans (hW.mono (by simp))) h
  have HPP : Hid (∀ W, Below (w.alloc (.cells #[.int .i64 p, .slice (some ⟨g, o, none⟩) (rest.length + 1) cap, .iface 146 (.agg #[])] 62)).heap.size (w.alloc (.cells #[.int .i64 p, .slice (some ⟨g, o, none⟩) (rest.length + 1) cap, .iface 146 (.agg #[])] 62)) W → PAtV fv pb sb kb env W) := fun W hW => (hp.kept (hB.trans (hW.mono (by simp)))).par
  have hne := nef_func 49
  have hnz : (((rest.length : Int) + 1) == 0) = false := by simp; omega
  clear hS HR hs hk hs2 hp
  unfold lsV
  go_enter Tryz.func63, Tryz.ntmps63
  go_wp2_with (first | (go_at_call 60; refine (HI.out _).mono ?_; rintro e w1 ⟨rfl, hb1⟩; have hsz1 : w.heap.size < w1.heap.size := (by have := hb1.size; simp at this; omega); obtain ⟨q0, q1, q2, _, _, _⟩ := cells3 (Below.at hb1 (at_new w _)); have y0 := (Kept.of_below hb1 (PMK pb sb fv)).cell hok e0; have y1 := (Kept.of_below hb1 (PMK pb sb fv)).cell hok e1; have y2 := (Kept.of_below hb1 (PMK pb sb fv)).cell hok e2) | (go_at_call 61; refine (HS.out _).mono ?_; rintro e w2 ⟨rfl, hb2⟩; have hb12 := hb1.trans (hb2.mono hb1.size); obtain ⟨r0, r1, r2, _, _, _⟩ := cells3 (Below.at hb12 (at_new w _)); obtain ⟨c2, hlk⟩ := form_factsV (HPP.out _ hb12) Rd.kwQuote; have hlk : (Instr.lookup 92 (.map (some kb)) (.string ⟨List.toArray Rd.kwQuote⟩) false).run Tryz.prog w2 = .ok (.func (.func 49) #[] #[]) w2 := hlk; simp only [Rd.kwQuote] at hlk) | (go_at_call 49; refine (HRH.out _ hb12).mono ?_; rintro e w3 hfin; obtain ⟨v, hv⟩ : ∃ v, e = .returned v := (by obtain ⟨v, _, _, h, _⟩ := hfin; exact ⟨v, h⟩); subst hv; have HFIN := (show Hid _ from hfin); clear hfin))
  go_ret
  exact HFIN.out
set_option maxHeartbeats 2000000 in
set_option maxRecDepth 10000 in
theorem formIf_k (pb sb kb : Nat) (env : List (List Rd.Sym)) (fl : Option Nat) (fv : Value) (n m : Nat) (w : World) (p : Nat) (g o cap : Nat) (d0 : Rd.D) (rest : List Rd.D) (R : Rd.PR Rd.F) (hp : PAtK pb sb kb env fl fv n w) (hl : rest.length ≤ 5000) (hs : RepS (fun k => ¬ PMK pb sb fv k) w (.slice (some ⟨g, o, none⟩) (rest.length + 1) cap) (d0 :: rest)) (hk : d0.sym = some Rd.kwIf)
    (HR : ∀ W, Below w.heap.size w W → Calls Tryz.prog 50 #[.pointer (some ⟨pb, 0, none⟩), lsV p g o (rest.length + 1) cap] W (RuleK pb sb kb env fl fv n m W R)) :
    Calls Tryz.prog 63 #[.pointer (some ⟨pb, 0, none⟩), lsV p g o (rest.length + 1) cap] w (RuleK pb sb kb env fl fv n m w R) := by
  obtain ⟨q, rfl⟩ := sym_mk hk
  have hcap := hs.len.2
  simp only [List.length_cons] at hcap
  have hB := box_below w (.cells #[.int .i64 p, .slice (some ⟨g, o, none⟩) (rest.length + 1) cap, .iface 146 (.agg #[])] 62)
  have hs2 := hs.mono (ok' := fun k => ¬ PMK pb sb fv k) (w' := w.alloc (.cells #[.int .i64 p, .slice (some ⟨g, o, none⟩) (rest.length + 1) cap, .iface 146 (.agg #[])] 62)) (fun k hk h => ⟨h, Below.heap_alloc _ _ _ hk⟩)
  have hok : ¬ PMK pb sb fv g := by
    obtain ⟨g', o', cap', pp, po0, pn0, pc0, ti, xv, heq, hok, _⟩ := hs2.cells 0 (by simp)
    simp only [Value.slice.injEq, Option.some.injEq, Addr.mk.injEq, and_true] at heq
    obtain ⟨⟨rfl, rfl⟩, _, rfl⟩ := heq
    exact hok
  obtain ⟨po, pc, e0, e1, e2⟩ := hs2.symAt 0 (by simp) (p := q) (m := Rd.kwIf) rfl
  simp only [Nat.mul_zero, Nat.add_zero, Rd.kwIf] at e0 e1 e2
  have HI : Hid (∀ W, Calls Tryz.prog 60 #[.agg #[.int .i64 p, .slice (some ⟨g, o, none⟩) (rest.length + 1) cap, .iface 146 (.agg #[])]] W fun e w' => e = .returned (.bool true) ∧ Below W.heap.size W w') := fun W => isList_any p _ (rest.length + 1) cap .empty W
  have hS := fun W => symbol_leaf q po pc (.sym Rd.kwIf) W
  simp only [aV, Rd.A.symbol, Option.getD_some, Option.isSome_some, Rd.kwIf] at hS
  have HS := (show Hid _ from hS)
  have HRH : Hid (∀ W, Below (w.alloc (.cells #[.int .i64 p, .slice (some ⟨g, o, none⟩) (rest.length + 1) cap, .iface 146 (.agg #[])] 62)).heap.size (w.alloc (.cells #[.int .i64 p, .slice (some ⟨g, o, none⟩) (rest.length + 1) cap, .iface 146 (.agg #[])] 62)) W → Calls Tryz.prog 50 #[.pointer (some ⟨pb, 0, none⟩), .agg #[.int .i64 p, .slice (some ⟨g, o, none⟩) (rest.length + 1) cap, .iface 146 (.agg #[])]] W (RuleK pb sb kb env fl fv n m w R)) := fun W hW => (HR W (hB.trans (hW.mono (by simp)))).mono fun e w' h => RuleK.from (hB.trans (hW.mono (by simp))) h
  have HPP : Hid (∀ W, Below (w.alloc (.cells #[.int .i64 p, .slice (some ⟨g, o, none⟩) (rest.length + 1) cap, .iface 146 (.agg #[])] 62)).heap.size (w.alloc (.cells #[.int .i64 p, .slice (some ⟨g, o, none⟩) (rest.length + 1) cap, .iface 146 (.agg #[])] 62)) W → PAtV fv pb sb kb env W) := fun W hW => (hp.kept (hB.trans (hW.mono (by simp)))).par
  have hne := nef_func 50
  have hnz : (((rest.length : Int) + 1) == 0) = false := by simp; omega
  clear hS HR hs hk hs2 hp
  unfold lsV
  go_enter Tryz.func63, Tryz.ntmps63
  go_wp2_with (first | (go_at_call 60; refine (HI.out _).mono ?_; rintro e w1 ⟨rfl, hb1⟩; have hsz1 : w.heap.size < w1.heap.size := (by have := hb1.size; simp at this; omega); obtain ⟨q0, q1, q2, _, _, _⟩ := cells3 (Below.at hb1 (at_new w _)); have y0 := (Kept.of_below hb1 (PMK pb sb fv)).cell hok e0; have y1 := (Kept.of_below hb1 (PMK pb sb fv)).cell hok e1; have y2 := (Kept.of_below hb1 (PMK pb sb fv)).cell hok e2) | (go_at_call 61; refine (HS.out _).mono ?_; rintro e w2 ⟨rfl, hb2⟩; have hb12 := hb1.trans (hb2.mono hb1.size); obtain ⟨r0, r1, r2, _, _, _⟩ := cells3 (Below.at hb12 (at_new w _)); obtain ⟨c2, hlk⟩ := form_factsV (HPP.out _ hb12) Rd.kwIf; have hlk : (Instr.lookup 92 (.map (some kb)) (.string ⟨List.toArray Rd.kwIf⟩) false).run Tryz.prog w2 = .ok (.func (.func 50) #[] #[]) w2 := hlk; simp only [Rd.kwIf] at hlk) | (go_at_call 50; refine (HRH.out _ hb12).mono ?_; rintro e w3 hfin; obtain ⟨v, hv⟩ : ∃ v, e = .returned v := (by obtain ⟨v, _, _, h, _⟩ := hfin; exact ⟨v, h⟩); subst hv; have HFIN := (show Hid _ from hfin); clear hfin))
  go_ret
  exact HFIN.out
set_option maxHeartbeats 2000000 in
set_option maxRecDepth 10000 in
theorem formLambda_k (pb sb kb : Nat) (env : List (List Rd.Sym)) (fl : Option Nat) (fv : Value) (n m : Nat) (w : World) (p : Nat) (g o cap : Nat) (d0 : Rd.D) (rest : List Rd.D) (R : Rd.PR Rd.F) (hp : PAtK pb sb kb env fl fv n w) (hl : rest.length ≤ 5000) (hs : RepS (fun k => ¬ PMK pb sb fv k) w (.slice (some ⟨g, o, none⟩) (rest.length + 1) cap) (d0 :: rest)) (hk : d0.sym = some Rd.kwLambda)
    (HR : ∀ W, Below w.heap.size w W → Calls Tryz.prog 51 #[.pointer (some ⟨pb, 0, none⟩), lsV p g o (rest.length + 1) cap] W (RuleK pb sb kb env fl fv n m W R)) :
    Calls Tryz.prog 63 #[.pointer (some ⟨pb, 0, none⟩), lsV p g o (rest.length + 1) cap] w (RuleK pb sb kb env fl fv n m w R) := by
  obtain ⟨q, rfl⟩ := sym_mk hk
  have hcap := hs.len.2
  simp only [List.length_cons] at hcap
  have hB := box_below w (.cells #[.int .i64 p, .slice (some ⟨g, o, none⟩) (rest.length + 1) cap, .iface 146 (.agg #[])] 62)
  have hs2 := hs.mono (ok' := fun k => ¬ PMK pb sb fv k) (w' := w.alloc (.cells #[.int .i64 p, .slice (some ⟨g, o, none⟩) (rest.length + 1) cap, .iface 146 (.agg #[])] 62)) (fun k hk h => ⟨h, Below.heap_alloc _ _ _ hk⟩)
  have hok : ¬ PMK pb sb fv g := by
    obtain ⟨g', o', cap', pp, po0, pn0, pc0, ti, xv, heq, hok, _⟩ := hs2.cells 0 (by simp)
    simp only [Value.slice.injEq, Option.some.injEq, Addr.mk.injEq, and_true] at heq
    obtain ⟨⟨rfl, rfl⟩, _, rfl⟩ := heq
    exact hok
  obtain ⟨po, pc, e0, e1, e2⟩ := hs2.symAt 0 (by simp) (p := q) (m := Rd.kwLambda) rfl
  simp only [Nat.mul_zero, Nat.add_zero, Rd.kwLambda] at e0 e1 e2
  have HI : Hid (∀ W, Calls Tryz.prog 60 #[.agg #[.int .i64 p, .slice (some ⟨g, o, none⟩) (rest.length + 1) cap, .iface 146 (.agg #[])]] W fun e w' => e = .returned (.bool true) ∧ Below W.heap.size W w') := fun W => isList_any p _ (rest.length + 1) cap .empty W
  have hS := fun W => symbol_leaf q po pc (.sym Rd.kwLambda) W
  simp only [aV, Rd.A.symbol, Option.getD_some, Option.isSome_some, Rd.kwLambda] at hS
  have HS := (show Hid _ from hS)
  have HRH : Hid (∀ W, Below (w.alloc (.cells #[.int .i64 p, .slice (some ⟨g, o, none⟩) (rest.length + 1) cap, .iface 146 (.agg #[])] 62)).heap.size (w.alloc (.cells #[.int .i64 p, .slice (some ⟨g, o, none⟩) (rest.length + 1) cap, .iface 146 (.agg #[])] 62)) W → Calls Tryz.prog 51 #[.pointer (some ⟨pb, 0, none⟩), .agg #[.int .i64 p, .slice (some ⟨g, o, none⟩) (rest.length + 1) cap, .iface 146 (.agg #[])]] W (RuleK pb sb kb env fl fv n m w R)) := fun W hW => (HR W (hB.trans (hW.mono (by simp)))).mono fun e w' h => RuleK.from (hB.trans (hW.mono (by simp))) h
  have HPP : Hid (∀ W, Below (w.alloc (.cells #[.int .i64 p, .slice (some ⟨g, o, none⟩) (rest.length + 1) cap, .iface 146 (.agg #[])] 62)).heap.size (w.alloc (.cells #[.int .i64 p, .slice (some ⟨g, o, none⟩) (rest.length + 1) cap, .iface 146 (.agg #[])] 62)) W → PAtV fv pb sb kb env W) := fun W hW => (hp.kept (hB.trans (hW.mono (by simp)))).par
  have hne := nef_func 51
  have hnz : (((rest.length : Int) + 1) == 0) = false := by simp; omega
  clear hS HR hs hk hs2 hp
  unfold lsV
  go_enter Tryz.func63, Tryz.ntmps63
  go_wp2_with (first | (go_at_call 60; refine (HI.out _).mono ?_; rintro e w1 ⟨rfl, hb1⟩; have hsz1 : w.heap.size < w1.heap.size := (by have := hb1.size; simp at this; omega); obtain ⟨q0, q1, q2, _, _, _⟩ := cells3 (Below.at hb1 (at_new w _)); have y0 := (Kept.of_below hb1 (PMK pb sb fv)).cell hok e0; have y1 := (Kept.of_below hb1 (PMK pb sb fv)).cell hok e1; have y2 := (Kept.of_below hb1 (PMK pb sb fv)).cell hok e2) | (go_at_call 61; refine (HS.out _).mono ?_; rintro e w2 ⟨rfl, hb2⟩; have hb12 := hb1.trans (hb2.mono hb1.size); obtain ⟨r0, r1, r2, _, _, _⟩ := cells3 (Below.at hb12 (at_new w _)); obtain ⟨c2, hlk⟩ := form_factsV (HPP.out _ hb12) Rd.kwLambda; have hlk : (Instr.lookup 92 (.map (some kb)) (.string ⟨List.toArray Rd.kwLambda⟩) false).run Tryz.prog w2 = .ok (.func (.func 51) #[] #[]) w2 := hlk; simp only [Rd.kwLambda] at hlk) | (go_at_call 51; refine (HRH.out _ hb12).mono ?_; rintro e w3 hfin; obtain ⟨v, hv⟩ : ∃ v, e = .returned v := (by obtain ⟨v, _, _, h, _⟩ := hfin; exact ⟨v, h⟩); subst hv; have HFIN := (show Hid _ from hfin); clear hfin))
  go_ret
  exact HFIN.out
set_option maxHeartbeats 2000000 in
set_option maxRecDepth 10000 in
theorem formBegin_k (pb sb kb : Nat) (env : List (List Rd.Sym)) (fl : Option Nat) (fv : Value) (n m : Nat) (w : World) (p : Nat) (g o cap : Nat) (d0 : Rd.D) (rest : List Rd.D) (R : Rd.PR Rd.F) (hp : PAtK pb sb kb env fl fv n w) (hl : rest.length ≤ 5000) (hs : RepS (fun k => ¬ PMK pb sb fv k) w (.slice (some ⟨g, o, none⟩) (rest.length + 1) cap) (d0 :: rest)) (hk : d0.sym = some Rd.kwBegin)
    (HR : ∀ W, Below w.heap.size w W → Calls Tryz.prog 52 #[.pointer (some ⟨pb, 0, none⟩), lsV p g o (rest.length + 1) cap] W (RuleK pb sb kb env fl fv n m W R)) :
    Calls Tryz.prog 63 #[.pointer (some ⟨pb, 0, none⟩), lsV p g o (rest.length + 1) cap] w (RuleK pb sb kb env fl fv n m w R) := by
  obtain ⟨q, rfl⟩ := sym_mk hk
  have hcap := hs.len.2
  simp only [List.length_cons] at hcap
  have hB := box_below w (.cells #[.int .i64 p, .slice (some ⟨g, o, none⟩) (rest.length + 1) cap, .iface 146 (.agg #[])] 62)
  have hs2 := hs.mono (ok' := fun k => ¬ PMK pb sb fv k) (w' := w.alloc (.cells #[.int .i64 p, .slice (some ⟨g, o, none⟩) (rest.length + 1) cap, .iface 146 (.agg #[])] 62)) (fun k hk h => ⟨h, Below.heap_alloc _ _ _ hk⟩)
  have hok : ¬ PMK pb sb fv g := by
    obtain ⟨g', o', cap', pp, po0, pn0, pc0, ti, xv, heq, hok, _⟩ := hs2.cells 0 (by simp)
    simp only [Value.slice.injEq, Option.some.injEq, Addr.mk.injEq, and_true] at heq
    obtain ⟨⟨rfl, rfl⟩, _, rfl⟩ := heq
    exact hok
  obtain ⟨po, pc, e0, e1, e2⟩ := hs2.symAt 0 (by simp) (p := q) (m := Rd.kwBegin) rfl
  simp only [Nat.mul_zero, Nat.add_zero, Rd.kwBegin] at e0 e1 e2
  have HI : Hid (∀ W, Calls Tryz.prog 60 #[.agg #[.int .i64 p, .slice (some ⟨g, o, none⟩) (rest.length + 1) cap, .iface 146 (.agg #[])]] W fun e w' => e = .returned (.bool true) ∧ Below W.heap.size W w') := fun W => isList_any p _ (rest.length + 1) cap .empty W
  have hS := fun W => symbol_leaf q po pc (.sym Rd.kwBegin) W
  simp only [aV, Rd.A.symbol, Option.getD_some, Option.isSome_some, Rd.kwBegin] at hS
  have HS := (show Hid _ from hS)
  have HRH : Hid (∀ W, Below (w.alloc (.cells #[.int .i64 p, .slice (some ⟨g, o, none⟩) (rest.length + 1) cap, .iface 146 (.agg #[])] 62)).heap.size (w.alloc (.cells #[.int .i64 p, .slice (some ⟨g, o, none⟩) (rest.length + 1) cap, .iface 146 (.agg #[])] 62)) W → Calls Tryz.prog 52 #[.pointer (some ⟨pb, 0, none⟩), .agg #[.int .i64 p, .slice (some ⟨g, o, none⟩) (rest.length + 1) cap, .iface 146 (.agg #[])]] W (RuleK pb sb kb env fl fv n m w R)) := fun W hW => (HR W (hB.trans (hW.mono (by simp)))).mono fun e w' h => RuleK.from (hB.trans (hW.mono (by simp))) h
  have HPP : Hid (∀ W, Below (w.alloc (.cells #[.int .i64 p, .slice (some ⟨g, o, none⟩) (rest.length + 1) cap, .iface 146 (.agg #[])] 62)).heap.size (w.alloc (.cells #[.int .i64 p, .slice (some ⟨g, o, none⟩) (rest.length + 1) cap, .iface 146 (.agg #[])] 62)) W → PAtV fv pb sb kb env W) := fun W hW => (hp.kept (hB.trans (hW.mono (by simp)))).par
  have hne := nef_func 52
  have hnz : (((rest.length : Int) + 1) == 0) = false := by simp; omega
  clear hS HR hs hk hs2 hp
  unfold lsV
  go_enter Tryz.func63, Tryz.ntmps63
  go_wp2_with (first | (go_at_call 60; refine (HI.out _).mono ?_; rintro e w1 ⟨rfl, hb1⟩; have hsz1 : w.heap.size < w1.heap.size := (by have := hb1.size; simp at this; omega); obtain ⟨q0, q1, q2, _, _, _⟩ := cells3 (Below.at hb1 (at_new w _)); have y0 := (Kept.of_below hb1 (PMK pb sb fv)).cell hok e0; have y1 := (Kept.of_below hb1 (PMK pb sb fv)).cell hok e1; have y2 := (Kept.of_below hb1 (PMK pb sb fv)).cell hok e2) | (go_at_call 61; refine (HS.out _).mono ?_; rintro e w2 ⟨rfl, hb2⟩; have hb12 := hb1.trans (hb2.mono hb1.size); obtain ⟨r0, r1, r2, _, _, _⟩ := cells3 (Below.at hb12 (at_new w _)); obtain ⟨c2, hlk⟩ := form_factsV (HPP.out _ hb12) Rd.kwBegin; have hlk : (Instr.lookup 92 (.map (some kb)) (.string ⟨List.toArray Rd.kwBegin⟩) false).run Tryz.prog w2 = .ok (.func (.func 52) #[] #[]) w2 := hlk; simp only [Rd.kwBegin] at hlk) | (go_at_call 52; refine (HRH.out _ hb12).mono ?_; rintro e w3 hfin; obtain ⟨v, hv⟩ : ∃ v, e = .returned v := (by obtain ⟨v, _, _, h, _⟩ := hfin; exact ⟨v, h⟩); subst hv; have HFIN := (show Hid _ from hfin); clear hfin))
  go_ret
  exact HFIN.out
set_option maxHeartbeats 2000000 in
set_option maxRecDepth 10000 in
theorem formLet_k (pb sb kb : Nat) (env : List (List Rd.Sym)) (fl : Option Nat) (fv : Value) (n m : Nat) (w : World) (p : Nat) (g o cap : Nat) (d0 : Rd.D) (rest : List Rd.D) (R : Rd.PR Rd.F) (hp : PAtK pb sb kb env fl fv n w) (hl : rest.length ≤ 5000) (hs : RepS (fun k => ¬ PMK pb sb fv k) w (.slice (some ⟨g, o, none⟩) (rest.length + 1) cap) (d0 :: rest)) (hk : d0.sym = some Rd.kwLet)
    (HR : ∀ W, Below w.heap.size w W → Calls Tryz.prog 53 #[.pointer (some ⟨pb, 0, none⟩), lsV p g o (rest.length + 1) cap] W (RuleK pb sb kb env fl fv n m W R)) :
    Calls Tryz.prog 63 #[.pointer (some ⟨pb, 0, none⟩), lsV p g o (rest.length + 1) cap] w (RuleK pb sb kb env fl fv n m w R) := by
  obtain ⟨q, rfl⟩ := sym_mk hk
  have hcap := hs.len.2
  simp only [List.length_cons] at hcap
  have hB := box_below w (.cells #[.int .i64 p, .slice (some ⟨g, o, none⟩) (rest.length + 1) cap, .iface 146 (.agg #[])] 62)
  have hs2 := hs.mono (ok' := fun k => ¬ PMK pb sb fv k) (w' := w.alloc (.cells #[.int .i64 p, .slice (some ⟨g, o, none⟩) (rest.length + 1) cap, .iface 146 (.agg #[])] 62)) (fun k hk h => ⟨h, Below.heap_alloc _ _ _ hk⟩)
  have hok : ¬ PMK pb sb fv g := by
    obtain ⟨g', o', cap', pp, po0, pn0, pc0, ti, xv, heq, hok, _⟩ := hs2.cells 0 (by simp)
    simp only [Value.slice.injEq, Option.some.injEq, Addr.mk.injEq, and_true] at heq
    obtain ⟨⟨rfl, rfl⟩, _, rfl⟩ := heq
    exact hok
  obtain ⟨po, pc, e0, e1, e2⟩ := hs2.symAt 0 (by simp) (p := q) (m := Rd.kwLet) rfl
  simp only [Nat.mul_zero, Nat.add_zero, Rd.kwLet] at e0 e1 e2
  have HI : Hid (∀ W, Calls Tryz.prog 60 #[.agg #[.int .i64 p, .slice (some ⟨g, o, none⟩) (rest.length + 1) cap, .iface 146 (.agg #[])]] W fun e w' => e = .returned (.bool true) ∧ Below W.heap.size W w') := fun W => isList_any p _ (rest.length + 1) cap .empty W
  have hS := fun W => symbol_leaf q po pc (.sym Rd.kwLet) W
  simp only [aV, Rd.A.symbol, Option.getD_some, Option.isSome_some, Rd.kwLet] at hS
  have HS := (show Hid _ from hS)
  have HRH : Hid (∀ W, Below (w.alloc (.cells #[.int .i64 p, .slice (some ⟨g, o, none⟩) (rest.length + 1) cap, .iface 146 (.agg #[])] 62)).heap.size (w.alloc (.cells #[.int .i64 p, .slice (some ⟨g, o, none⟩) (rest.length + 1) cap, .iface 146 (.agg #[])] 62)) W → Calls Tryz.prog 53 #[.pointer (some ⟨pb, 0, none⟩), .agg #[.int .i64 p, .slice (some ⟨g, o, none⟩) (rest.length + 1) cap, .iface 146 (.agg #[])]] W (RuleK pb sb kb env fl fv n m w R)) := fun W hW => (HR W (hB.trans (hW.mono (by simp)))).mono fun e w' h => RuleK.from (hB.trans (hW.mono (by simp))) h
  have HPP : Hid (∀ W, Below (w.alloc (.cells #[.int .i64 p, .slice (some ⟨g, o, none⟩) (rest.length + 1) cap, .iface 146 (.agg #[])] 62)).heap.size (w.alloc (.cells #[.int .i64 p, .slice (some ⟨g, o, none⟩) (rest.length + 1) cap, .iface 146 (.agg #[])] 62)) W → PAtV fv pb sb kb env W) := fun W hW => (hp.kept (hB.trans (hW.mono (by simp)))).par
  have hne := nef_func 53
  have hnz : (((rest.length : Int) + 1) == 0) = false := by simp; omega
  clear hS HR hs hk hs2 hp
  unfold lsV
  go_enter Tryz.func63, Tryz.ntmps63
  go_wp2_with (first | (go_at_call 60; refine (HI.out _).mono ?_; rintro e w1 ⟨rfl, hb1⟩; have hsz1 : w.heap.size < w1.heap.size := (by have := hb1.size; simp at this; omega); obtain ⟨q0, q1, q2, _, _, _⟩ := cells3 (Below.at hb1 (at_new w _)); have y0 := (Kept.of_below hb1 (PMK pb sb fv)).cell hok e0; have y1 := (Kept.of_below hb1 (PMK pb sb fv)).cell hok e1; have y2 := (Kept.of_below hb1 (PMK pb sb fv)).cell hok e2) | (go_at_call 61; refine (HS.out _).mono ?_; rintro e w2 ⟨rfl, hb2⟩; have hb12 := hb1.trans (hb2.mono hb1.size); obtain ⟨r0, r1, r2, _, _, _⟩ := cells3 (Below.at hb12 (at_new w _)); obtain ⟨c2, hlk⟩ := form_factsV (HPP.out _ hb12) Rd.kwLet; have hlk : (Instr.lookup 92 (.map (some kb)) (.string ⟨List.toArray Rd.kwLet⟩) false).run Tryz.prog w2 = .ok (.func (.func 53) #[] #[]) w2 := hlk; simp only [Rd.kwLet] at hlk) | (go_at_call 53; refine (HRH.out _ hb12).mono ?_; rintro e w3 hfin; obtain ⟨v, hv⟩ : ∃ v, e = .returned v := (by obtain ⟨v, _, _, h, _⟩ := hfin; exact ⟨v, h⟩); subst hv; have HFIN := (show Hid _ from hfin); clear hfin))
  go_ret
  exact HFIN.out
set_option maxHeartbeats 2000000 in
set_option maxRecDepth 10000 in
theorem formSet_k (pb sb kb : Nat) (env : List (List Rd.Sym)) (fl : Option Nat) (fv : Value) (n m : Nat) (w : World) (p : Nat) (g o cap : Nat) (d0 : Rd.D) (rest : List Rd.D) (R : Rd.PR Rd.F) (hp : PAtK pb sb kb env fl fv n w) (hl : rest.length ≤ 5000) (hs : RepS (fun k => ¬ PMK pb sb fv k) w (.slice (some ⟨g, o, none⟩) (rest.length + 1) cap) (d0 :: rest)) (hk : d0.sym = some Rd.kwSet)
    (HR : ∀ W, Below w.heap.size w W → Calls Tryz.prog 54 #[.pointer (some ⟨pb, 0, none⟩), lsV p g o (rest.length + 1) cap] W (RuleK pb sb kb env fl fv n m W R)) :
    Calls Tryz.prog 63 #[.pointer (some ⟨pb, 0, none⟩), lsV p g o (rest.length + 1) cap] w (RuleK pb sb kb env fl fv n m w R) := by
  obtain ⟨q, rfl⟩ := sym_mk hk
  have hcap := hs.len.2
  simp only [List.length_cons] at hcap
  have hB := box_below w (.cells #[.int .i64 p, .slice (some ⟨g, o, none⟩) (rest.length + 1) cap, .iface 146 (.agg #[])] 62)
  have hs2 := hs.mono (ok' := fun k => ¬ PMK pb sb fv k) (w' := w.alloc (.cells #[.int .i64 p, .slice (some ⟨g, o, none⟩) (rest.length + 1) cap, .iface 146 (.agg #[])] 62)) (fun k hk h => ⟨h, Below.heap_alloc _ _ _ hk⟩)
  have hok : ¬ PMK pb sb fv g := by
    obtain ⟨g', o', cap', pp, po0, pn0, pc0, ti, xv, heq, hok, _⟩ := hs2.cells 0 (by simp)
    simp only [Value.slice.injEq, Option.some.injEq, Addr.mk.injEq, and_true] at heq
    obtain ⟨⟨rfl, rfl⟩, _, rfl⟩ := heq
    exact hok
  obtain ⟨po, pc, e0, e1, e2⟩ := hs2.symAt 0 (by simp) (p := q) (m := Rd.kwSet) rfl
  simp only [Nat.mul_zero, Nat.add_zero, Rd.kwSet] at e0 e1 e2
  have HI : Hid (∀ W, Calls Tryz.prog 60 #[.agg #[.int .i64 p, .slice (some ⟨g, o, none⟩) (rest.length + 1) cap, .iface 146 (.agg #[])]] W fun e w' => e = .returned (.bool true) ∧ Below W.heap.size W w') := fun W => isList_any p _ (rest.length + 1) cap .empty W
  have hS := fun W => symbol_leaf q po pc (.sym Rd.kwSet) W
  simp only [aV, Rd.A.symbol, Option.getD_some, Option.isSome_some, Rd.kwSet] at hS
  have HS := (show Hid _ from hS)
  have HRH : Hid (∀ W, Below (w.alloc (.cells #[.int .i64 p, .slice (some ⟨g, o, none⟩) (rest.length + 1) cap, .iface 146 (.agg #[])] 62)).heap.size (w.alloc (.cells #[.int .i64 p, .slice (some ⟨g, o, none⟩) (rest.length + 1) cap, .iface 146 (.agg #[])] 62)) W → Calls Tryz.prog 54 #[.pointer (some ⟨pb, 0, none⟩), .agg #[.int .i64 p, .slice (some ⟨g, o, none⟩) (rest.length + 1) cap, .iface 146 (.agg #[])]] W (RuleK pb sb kb env fl fv n m w R)) := fun W hW => (HR W (hB.trans (hW.mono (by simp)))).mono fun e w' h => RuleK.from (hB.trans (hW.mono (by simp))) h
  have HPP : Hid (∀ W, Below (w.alloc (.cells #[.int .i64 p, .slice (some ⟨g, o, none⟩) (rest.length + 1) cap, .iface 146 (.agg #[])] 62)).heap.size (w.alloc (.cells #[.int .i64 p, .slice (some ⟨g, o, none⟩) (rest.length + 1) cap, .iface 146 (.agg #[])] 62)) W → PAtV fv pb sb kb env W) := fun W hW => (hp.kept (hB.trans (hW.mono (by simp)))).par
  have hne := nef_func 54
  have hnz : (((rest.length : Int) + 1) == 0) = false := by simp; omega
  clear hS HR hs hk hs2 hp
  unfold lsV
  go_enter Tryz.func63, Tryz.ntmps63
  go_wp2_with (first | (go_at_call 60; refine (HI.out _).mono ?_; rintro e w1 ⟨rfl, hb1⟩; have hsz1 : w.heap.size < w1.heap.size := (by have := hb1.size; simp at this; omega); obtain ⟨q0, q1, q2, _, _, _⟩ := cells3 (Below.at hb1 (at_new w _)); have y0 := (Kept.of_below hb1 (PMK pb sb fv)).cell hok e0; have y1 := (Kept.of_below hb1 (PMK pb sb fv)).cell hok e1; have y2 := (Kept.of_below hb1 (PMK pb sb fv)).cell hok e2) | (go_at_call 61; refine (HS.out _).mono ?_; rintro e w2 ⟨rfl, hb2⟩; have hb12 := hb1.trans (hb2.mono hb1.size); obtain ⟨r0, r1, r2, _, _, _⟩ := cells3 (Below.at hb12 (at_new w _)); obtain ⟨c2, hlk⟩ := form_factsV (HPP.out _ hb12) Rd.kwSet; have hlk : (Instr.lookup 92 (.map (some kb)) (.string ⟨List.toArray Rd.kwSet⟩) false).run Tryz.prog w2 = .ok (.func (.func 54) #[] #[]) w2 := hlk; simp only [Rd.kwSet] at hlk) | (go_at_call 54; refine (HRH.out _ hb12).mono ?_; rintro e w3 hfin; obtain ⟨v, hv⟩ : ∃ v, e = .returned v := (by obtain ⟨v, _, _, h, _⟩ := hfin; exact ⟨v, h⟩); subst hv; have HFIN := (show Hid _ from hfin); clear hfin))
  go_ret
  exact HFIN.out
set_option maxHeartbeats 2000000 in
set_option maxRecDepth 10000 in
theorem formAnd_k (pb sb kb : Nat) (env : List (List Rd.Sym)) (fl : Option Nat) (fv : Value) (n m : Nat) (w : World) (p : Nat) (g o cap : Nat) (d0 : Rd.D) (rest : List Rd.D) (R : Rd.PR Rd.F) (hp : PAtK pb sb kb env fl fv n w) (hl : rest.length ≤ 5000) (hs : RepS (fun k => ¬ PMK pb sb fv k) w (.slice (some ⟨g, o, none⟩) (rest.length + 1) cap) (d0 :: rest)) (hk : d0.sym = some Rd.kwAnd)
    (HR : ∀ W, Below w.heap.size w W → Calls Tryz.prog 55 #[.pointer (some ⟨pb, 0, none⟩), lsV p g o (rest.length + 1) cap] W (RuleK pb sb kb env fl fv n m W R)) :
    Calls Tryz.prog 63 #[.pointer (some ⟨pb, 0, none⟩), lsV p g o (rest.length + 1) cap] w (RuleK pb sb kb env fl fv n m w R) := by
  obtain ⟨q, rfl⟩ := sym_mk hk
  have hcap := hs.len.2
  simp only [List.length_cons] at hcap
  have hB := box_below w (.cells #[.int .i64 p, .slice (some ⟨g, o, none⟩) (rest.length + 1) cap, .iface 146 (.agg #[])] 62)
  have hs2 := hs.mono (ok' := fun k => ¬ PMK pb sb fv k) (w' := w.alloc (.cells #[.int .i64 p, .slice (some ⟨g, o, none⟩) (rest.length + 1) cap, .iface 146 (.agg #[])] 62)) (fun k hk h => ⟨h, Below.heap_alloc _ _ _ hk⟩)
  have hok : ¬ PMK pb sb fv g := by
    obtain ⟨g', o', cap', pp, po0, pn0, pc0, ti, xv, heq, hok, _⟩ := hs2.cells 0 (by simp)
    simp only [Value.slice.injEq, Option.some.injEq, Addr.mk.injEq, and_true] at heq
    obtain ⟨⟨rfl, rfl⟩, _, rfl⟩ := heq
    exact hok
  obtain ⟨po, pc, e0, e1, e2⟩ := hs2.symAt 0 (by simp) (p := q) (m := Rd.kwAnd) rfl
  simp only [Nat.mul_zero, Nat.add_zero, Rd.kwAnd] at e0 e1 e2
  have HI : Hid (∀ W, Calls Tryz.prog 60 #[.agg #[.int .i64 p, .slice (some ⟨g, o, none⟩) (rest.length + 1) cap, .iface 146 (.agg #[])]] W fun e w' => e = .returned (.bool true) ∧ Below W.heap.size W w') := fun W => isList_any p _ (rest.length + 1) cap .empty W
  have hS := fun W => symbol_leaf q po pc (.sym Rd.kwAnd) W
  simp only [aV, Rd.A.symbol, Option.getD_some, Option.isSome_some, Rd.kwAnd] at hS
  have HS := (show Hid _ from hS)
  have HRH : Hid (∀ W, Below (w.alloc (.cells #[.int .i64 p, .slice (some ⟨g, o, none⟩) (rest.length + 1) cap, .iface 146 (.agg #[])] 62)).heap.size (w.alloc (.cells #[.int .i64 p, .slice (some ⟨g, o, none⟩) (rest.length + 1) cap, .iface 146 (.agg #[])] 62)) W → Calls Tryz.prog 55 #[.pointer (some ⟨pb, 0, none⟩), .agg #[.int .i64 p, .slice (some ⟨g, o, none⟩) (rest.length + 1) cap, .iface 146 (.agg #[])]] W (RuleK pb sb kb env fl fv n m w R)) := fun W hW => (HR W (hB.trans (hW.mono (by simp)))).mono fun e w' h => RuleK.from (hB.trans (hW.mono (by simp))) h
  have HPP : Hid (∀ W, Below (w.alloc (.cells #[.int .i64 p, .slice (some ⟨g, o, none⟩) (rest.length + 1) cap, .iface 146 (.agg #[])] 62)).heap.size (w.alloc (.cells #[.int .i64 p, .slice (some ⟨g, o, none⟩) (rest.length + 1) cap, .iface 146 (.agg #[])] 62)) W → PAtV fv pb sb kb env W) := fun W hW => (hp.kept (hB.trans (hW.mono (by simp)))).par
  have hne := nef_func 55
  have hnz : (((rest.length : Int) + 1) == 0) = false := by simp; omega
  clear hS HR hs hk hs2 hp
  unfold lsV
  go_enter Tryz.func63, Tryz.ntmps63
  go_wp2_with (first | (go_at_call 60; refine (HI.out _).mono ?_; rintro e w1 ⟨rfl, hb1⟩; have hsz1 : w.heap.size < w1.heap.size := (by have := hb1.size; simp at this; omega); obtain ⟨q0, q1, q2, _, _, _⟩ := cells3 (Below.at hb1 (at_new w _)); have y0 := (Kept.of_below hb1 (PMK pb sb fv)).cell hok e0; have y1 := (Kept.of_below hb1 (PMK pb sb fv)).cell hok e1; have y2 := (Kept.of_below hb1 (PMK pb sb fv)).cell hok e2) | (go_at_call 61; refine (HS.out _).mono ?_; rintro e w2 ⟨rfl, hb2⟩; have hb12 := hb1.trans (hb2.mono hb1.size); obtain ⟨r0, r1, r2, _, _, _⟩ := cells3 (Below.at hb12 (at_new w _)); obtain ⟨c2, hlk⟩ := form_factsV (HPP.out _ hb12) Rd.kwAnd; have hlk : (Instr.lookup 92 (.map (some kb)) (.string ⟨List.toArray Rd.kwAnd⟩) false).run Tryz.prog w2 = .ok (.func (.func 55) #[] #[]) w2 := hlk; simp only [Rd.kwAnd] at hlk) | (go_at_call 55; refine (HRH.out _ hb12).mono ?_; rintro e w3 hfin; obtain ⟨v, hv⟩ : ∃ v, e = .returned v := (by obtain ⟨v, _, _, h, _⟩ := hfin; exact ⟨v, h⟩); subst hv; have HFIN := (show Hid _ from hfin); clear hfin))
  go_ret
  exact HFIN.out
set_option maxHeartbeats 2000000 in
set_option maxRecDepth 10000 in
theorem formOr_k (pb sb kb : Nat) (env : List (List Rd.Sym)) (fl : Option Nat) (fv : Value) (n m : Nat) (w : World) (p : Nat) (g o cap : Nat) (d0 : Rd.D) (rest : List Rd.D) (R : Rd.PR Rd.F) (hp : PAtK pb sb kb env fl fv n w) (hl : rest.length ≤ 5000) (hs : RepS (fun k => ¬ PMK pb sb fv k) w (.slice (some ⟨g, o, none⟩) (rest.length + 1) cap) (d0 :: rest)) (hk : d0.sym = some Rd.kwOr)
    (HR : ∀ W, Below w.heap.size w W → Calls Tryz.prog 56 #[.pointer (some ⟨pb, 0, none⟩), lsV p g o (rest.length + 1) cap] W (RuleK pb sb kb env fl fv n m W R)) :
    Calls Tryz.prog 63 #[.pointer (some ⟨pb, 0, none⟩), lsV p g o (rest.length + 1) cap] w (RuleK pb sb kb env fl fv n m w R) := by
  obtain ⟨q, rfl⟩ := sym_mk hk
  have hcap := hs.len.2
  simp only [List.length_cons] at hcap
  have hB := box_below w (.cells #[.int .i64 p, .slice (some ⟨g, o, none⟩) (rest.length + 1) cap, .iface 146 (.agg #[])] 62)
  have hs2 := hs.mono (ok' := fun k => ¬ PMK pb sb fv k) (w' := w.alloc (.cells #[.int .i64 p, .slice (some ⟨g, o, none⟩) (rest.length + 1) cap, .iface 146 (.agg #[])] 62)) (fun k hk h => ⟨h, Below.heap_alloc _ _ _ hk⟩)
  have hok : ¬ PMK pb sb fv g := by
    obtain ⟨g', o', cap', pp, po0, pn0, pc0, ti, xv, heq, hok, _⟩ := hs2.cells 0 (by simp)
    simp only [Value.slice.injEq, Option.some.injEq, Addr.mk.injEq, and_true] at heq
    obtain ⟨⟨rfl, rfl⟩, _, rfl⟩ := heq
    exact hok
  obtain ⟨po, pc, e0, e1, e2⟩ := hs2.symAt 0 (by simp) (p := q) (m := Rd.kwOr) rfl
  simp only [Nat.mul_zero, Nat.add_zero, Rd.kwOr] at e0 e1 e2
  have HI : Hid (∀ W, Calls Tryz.prog 60 #[.agg #[.int .i64 p, .slice (some ⟨g, o, none⟩) (rest.length + 1) cap, .iface 146 (.agg #[])]] W fun e w' => e = .returned (.bool true) ∧ Below W.heap.size W w') := fun W => isList_any p _ (rest.length + 1) cap .empty W
  have hS := fun W => symbol_leaf q po pc (.sym Rd.kwOr) W
  simp only [aV, Rd.A.symbol, Option.getD_some, Option.isSome_some, Rd.kwOr] at hS
  have HS := (show Hid _ from hS)
  have HRH : Hid (∀ W, Below (w.alloc (.cells #[.int .i64 p, .slice (some ⟨g, o, none⟩) (rest.length + 1) cap, .iface 146 (.agg #[])] 62)).heap.size (w.alloc (.cells #[.int .i64 p, .slice (some ⟨g, o, none⟩) (rest.length + 1) cap, .iface 146 (.agg #[])] 62)) W → Calls Tryz.prog 56 #[.pointer (some ⟨pb, 0, none⟩), .agg #[.int .i64 p, .slice (some ⟨g, o, none⟩) (rest.length + 1) cap, .iface 146 (.agg #[])]] W (RuleK pb sb kb env fl fv n m w R)) := fun W hW => (HR W (hB.trans (hW.mono (by simp)))).mono fun e w' h => RuleK.from (hB.trans (hW.mono (by simp))) h
  have HPP : Hid (∀ W, Below (w.alloc (.cells #[.int .i64 p, .slice (some ⟨g, o, none⟩) (rest.length + 1) cap, .iface 146 (.agg #[])] 62)).heap.size (w.alloc (.cells #[.int .i64 p, .slice (some ⟨g, o, none⟩) (rest.length + 1) cap, .iface 146 (.agg #[])] 62)) W → PAtV fv pb sb kb env W) := fun W hW => (hp.kept (hB.trans (hW.mono (by simp)))).par
  have hne := nef_func 56
  have hnz : (((rest.length : Int) + 1) == 0) = false := by simp; omega
  clear hS HR hs hk hs2 hp
  unfold lsV
  go_enter Tryz.func63, Tryz.ntmps63
  go_wp2_with (first | (go_at_call 60; refine (HI.out _).mono ?_; rintro e w1 ⟨rfl, hb1⟩; have hsz1 : w.heap.size < w1.heap.size := (by have := hb1.size; simp at this; omega); obtain ⟨q0, q1, q2, _, _, _⟩ := cells3 (Below.at hb1 (at_new w _)); have y0 := (Kept.of_below hb1 (PMK pb sb fv)).cell hok e0; have y1 := (Kept.of_below hb1 (PMK pb sb fv)).cell hok e1; have y2 := (Kept.of_below hb1 (PMK pb sb fv)).cell hok e2) | (go_at_call 61; refine (HS.out _).mono ?_; rintro e w2 ⟨rfl, hb2⟩; have hb12 := hb1.trans (hb2.mono hb1.size); obtain ⟨r0, r1, r2, _, _, _⟩ := cells3 (Below.at hb12 (at_new w _)); obtain ⟨c2, hlk⟩ := form_factsV (HPP.out _ hb12) Rd.kwOr; have hlk : (Instr.lookup 92 (.map (some kb)) (.string ⟨List.toArray Rd.kwOr⟩) false).run Tryz.prog w2 = .ok (.func (.func 56) #[] #[]) w2 := hlk; simp only [Rd.kwOr] at hlk) | (go_at_call 56; refine (HRH.out _ hb12).mono ?_; rintro e w3 hfin; obtain ⟨v, hv⟩ : ∃ v, e = .returned v := (by obtain ⟨v, _, _, h, _⟩ := hfin; exact ⟨v, h⟩); subst hv; have HFIN := (show Hid _ from hfin); clear hfin))
  go_ret
  exact HFIN.out
set_option maxHeartbeats 2000000 in
set_option maxRecDepth 10000 in
theorem formReset_k (pb sb kb : Nat) (env : List (List Rd.Sym)) (fl : Option Nat) (fv : Value) (n m : Nat) (w : World) (p : Nat) (g o cap : Nat) (d0 : Rd.D) (rest : List Rd.D) (R : Rd.PR Rd.F) (hp : PAtK pb sb kb env fl fv n w) (hl : rest.length ≤ 5000) (hs : RepS (fun k => ¬ PMK pb sb fv k) w (.slice (some ⟨g, o, none⟩) (rest.length + 1) cap) (d0 :: rest)) (hk : d0.sym = some Rd.kwReset)
    (HR : ∀ W, Below w.heap.size w W → Calls Tryz.prog 57 #[.pointer (some ⟨pb, 0, none⟩), lsV p g o (rest.length + 1) cap] W (RuleK pb sb kb env fl fv n m W R)) :
    Calls Tryz.prog 63 #[.pointer (some ⟨pb, 0, none⟩), lsV p g o (rest.length + 1) cap] w (RuleK pb sb kb env fl fv n m w R) := by
  obtain ⟨q, rfl⟩ := sym_mk hk
  have hcap := hs.len.2
  simp only [List.length_cons] at hcap
  have hB := box_below w (.cells #[.int .i64 p, .slice (some ⟨g, o, none⟩) (rest.length + 1) cap, .iface 146 (.agg #[])] 62)
  have hs2 := hs.mono (ok' := fun k => ¬ PMK pb sb fv k) (w' := w.alloc (.cells #[.int .i64 p, .slice (some ⟨g, o, none⟩) (rest.length + 1) cap, .iface 146 (.agg #[])] 62)) (fun k hk h => ⟨h, Below.heap_alloc _ _ _ hk⟩)
  have hok : ¬ PMK pb sb fv g := by
    obtain ⟨g', o', cap', pp, po0, pn0, pc0, ti, xv, heq, hok, _⟩ := hs2.cells 0 (by simp)
    simp only [Value.slice.injEq, Option.some.injEq, Addr.mk.injEq, and_true] at heq
    obtain ⟨⟨rfl, rfl⟩, _, rfl⟩ := heq
    exact hok
  obtain ⟨po, pc, e0, e1, e2⟩ := hs2.symAt 0 (by simp) (p := q) (m := Rd.kwReset) rfl
  simp only [Nat.mul_zero, Nat.add_zero, Rd.kwReset] at e0 e1 e2
  have HI : Hid (∀ W, Calls Tryz.prog 60 #[.agg #[.int .i64 p, .slice (some ⟨g, o, none⟩) (rest.length + 1) cap, .iface 146 (.agg #[])]] W fun e w' => e = .returned (.bool true) ∧ Below W.heap.size W w') := fun W => isList_any p _ (rest.length + 1) cap .empty W
  have hS := fun W => symbol_leaf q po pc (.sym Rd.kwReset) W
  simp only [aV, Rd.A.symbol, Option.getD_some, Option.isSome_some, Rd.kwReset] at hS
  have HS := (show Hid _ from hS)
  have HRH : Hid (∀ W, Below (w.alloc (.cells #[.int .i64 p, .slice (some ⟨g, o, none⟩) (rest.length + 1) cap, .iface 146 (.agg #[])] 62)).heap.size (w.alloc (.cells #[.int .i64 p, .slice (some ⟨g, o, none⟩) (rest.length + 1) cap, .iface 146 (.agg #[])] 62)) W → Calls Tryz.prog 57 #[.pointer (some ⟨pb, 0, none⟩), .agg #[.int .i64 p, .slice (some ⟨g, o, none⟩) (rest.length + 1) cap, .iface 146 (.agg #[])]] W (RuleK pb sb kb env fl fv n m w R)) := fun W hW => (HR W (hB.trans (hW.mono (by simp)))).mono fun e w' h => RuleK.from (hB.trans (hW.mono (by simp))) h
  have HPP : Hid (∀ W, Below (w.alloc (.cells #[.int .i64 p, .slice (some ⟨g, o, none⟩) (rest.length + 1) cap, .iface 146 (.agg #[])] 62)).heap.size (w.alloc (.cells #[.int .i64 p, .slice (some ⟨g, o, none⟩) (rest.length + 1) cap, .iface 146 (.agg #[])] 62)) W → PAtV fv pb sb kb env W) := fun W hW => (hp.kept (hB.trans (hW.mono (by simp)))).par
  have hne := nef_func 57
  have hnz : (((rest.length : Int) + 1) == 0) = false := by simp; omega
  clear hS HR hs hk hs2 hp
  unfold lsV
  go_enter Tryz.func63, Tryz.ntmps63
  go_wp2_with (first | (go_at_call 60; refine (HI.out _).mono ?_; rintro e w1 ⟨rfl, hb1⟩; have hsz1 : w.heap.size < w1.heap.size := (by have := hb1.size; simp at this; omega); obtain ⟨q0, q1, q2, _, _, _⟩ := cells3 (Below.at hb1 (at_new w _)); have y0 := (Kept.of_below hb1 (PMK pb sb fv)).cell hok e0; have y1 := (Kept.of_below hb1 (PMK pb sb fv)).cell hok e1; have y2 := (Kept.of_below hb1 (PMK pb sb fv)).cell hok e2) | (go_at_call 61; refine (HS.out _).mono ?_; rintro e w2 ⟨rfl, hb2⟩; have hb12 := hb1.trans (hb2.mono hb1.size); obtain ⟨r0, r1, r2, _, _, _⟩ := cells3 (Below.at hb12 (at_new w _)); obtain ⟨c2, hlk⟩ := form_factsV (HPP.out _ hb12) Rd.kwReset; have hlk : (Instr.lookup 92 (.map (some kb)) (.string ⟨List.toArray Rd.kwReset⟩) false).run Tryz.prog w2 = .ok (.func (.func 57) #[] #[]) w2 := hlk; simp only [Rd.kwReset] at hlk) | (go_at_call 57; refine (HRH.out _ hb12).mono ?_; rintro e w3 hfin; obtain ⟨v, hv⟩ : ∃ v, e = .returned v := (by obtain ⟨v, _, _, h, _⟩ := hfin; exact ⟨v, h⟩); subst hv; have HFIN := (show Hid _ from hfin); clear hfin))
  go_ret
  exact HFIN.out
set_option maxHeartbeats 2000000 in
set_option maxRecDepth 10000 in
theorem formShift_k (pb sb kb : Nat) (env : List (List Rd.Sym)) (fl : Option Nat) (fv : Value) (n m : Nat) (w : World) (p : Nat) (g o cap : Nat) (d0 : Rd.D) (rest : List Rd.D) (R : Rd.PR Rd.F) (hp : PAtK pb sb kb env fl fv n w) (hl : rest.length ≤ 5000) (hs : RepS (fun k => ¬ PMK pb sb fv k) w (.slice (some ⟨g, o, none⟩) (rest.length + 1) cap) (d0 :: rest)) (hk : d0.sym = some Rd.kwShift)
    (HR : ∀ W, Below w.heap.size w W → Calls Tryz.prog 58 #[.pointer (some ⟨pb, 0, none⟩), lsV p g o (rest.length + 1) cap] W (RuleK pb sb kb env fl fv n m W R)) :
    Calls Tryz.prog 63 #[.pointer (some ⟨pb, 0, none⟩), lsV p g o (rest.length + 1) cap] w (RuleK pb sb kb env fl fv n m w R) := by
  obtain ⟨q, rfl⟩ := sym_mk hk
  have hcap := hs.len.2
  simp only [List.length_cons] at hcap
  have hB := box_below w (.cells #[.int .i64 p, .slice (some ⟨g, o, none⟩) (rest.length + 1) cap, .iface 146 (.agg #[])] 62)
  have hs2 := hs.mono (ok' := fun k => ¬ PMK pb sb fv k) (w' := w.alloc (.cells #[.int .i64 p, .slice (some ⟨g, o, none⟩) (rest.length + 1) cap, .iface 146 (.agg #[])] 62)) (fun k hk h => ⟨h, Below.heap_alloc _ _ _ hk⟩)
  have hok : ¬ PMK pb sb fv g := by
    obtain ⟨g', o', cap', pp, po0, pn0, pc0, ti, xv, heq, hok, _⟩ := hs2.cells 0 (by simp)
    simp only [Value.slice.injEq, Option.some.injEq, Addr.mk.injEq, and_true] at heq
    obtain ⟨⟨rfl, rfl⟩, _, rfl⟩ := heq
    exact hok
  obtain ⟨po, pc, e0, e1, e2⟩ := hs2.symAt 0 (by simp) (p := q) (m := Rd.kwShift) rfl
  simp only [Nat.mul_zero, Nat.add_zero, Rd.kwShift] at e0 e1 e2
  have HI : Hid (∀ W, Calls Tryz.prog 60 #[.agg #[.int .i64 p, .slice (some ⟨g, o, none⟩) (rest.length + 1) cap, .iface 146 (.agg #[])]] W fun e w' => e = .returned (.bool true) ∧ Below W.heap.size W w') := fun W => isList_any p _ (rest.length + 1) cap .empty W
  have hS := fun W => symbol_leaf q po pc (.sym Rd.kwShift) W
  simp only [aV, Rd.A.symbol, Option.getD_some, Option.isSome_some, Rd.kwShift] at hS
  have HS := (show Hid _ from hS)
  have HRH : Hid (∀ W, Below (w.alloc (.cells #[.int .i64 p, .slice (some ⟨g, o, none⟩) (rest.length + 1) cap, .iface 146 (.agg #[])] 62)).heap.size (w.alloc (.cells #[.int .i64 p, .slice (some ⟨g, o, none⟩) (rest.length + 1) cap, .iface 146 (.agg #[])] 62)) W → Calls Tryz.prog 58 #[.pointer (some ⟨pb, 0, none⟩), .agg #[.int .i64 p, .slice (some ⟨g, o, none⟩) (rest.length + 1) cap, .iface 146 (.agg #[])]] W (RuleK pb sb kb env fl fv n m w R)) := fun W hW => (HR W (hB.trans (hW.mono (by simp)))).mono fun e w' h => RuleK.from (hB.trans (hW.mono (by simp))) h
  have HPP : Hid (∀ W, Below (w.alloc (.cells #[.int .i64 p, .slice (some ⟨g, o, none⟩) (rest.length + 1) cap, .iface 146 (.agg #[])] 62)).heap.size (w.alloc (.cells #[.int .i64 p, .slice (some ⟨g, o, none⟩) (rest.length + 1) cap, .iface 146 (.agg #[])] 62)) W → PAtV fv pb sb kb env W) := fun W hW => (hp.kept (hB.trans (hW.mono (by simp)))).par
  have hne := nef_func 58
  have hnz : (((rest.length : Int) + 1) == 0) = false := by simp; omega
  clear hS HR hs hk hs2 hp
  unfold lsV
  go_enter Tryz.func63, Tryz.ntmps63
  go_wp2_with (first | (go_at_call 60; refine (HI.out _).mono ?_; rintro e w1 ⟨rfl, hb1⟩; have hsz1 : w.heap.size < w1.heap.size := (by have := hb1.size; simp at this; omega); obtain ⟨q0, q1, q2, _, _, _⟩ := cells3 (Below.at hb1 (at_new w _)); have y0 := (Kept.of_below hb1 (PMK pb sb fv)).cell hok e0; have y1 := (Kept.of_below hb1 (PMK pb sb fv)).cell hok e1; have y2 := (Kept.of_below hb1 (PMK pb sb fv)).cell hok e2) | (go_at_call 61; refine (HS.out _).mono ?_; rintro e w2 ⟨rfl, hb2⟩; have hb12 := hb1.trans (hb2.mono hb1.size); obtain ⟨r0, r1, r2, _, _, _⟩ := cells3 (Below.at hb12 (at_new w _)); obtain ⟨c2, hlk⟩ := form_factsV (HPP.out _ hb12) Rd.kwShift; have hlk : (Instr.lookup 92 (.map (some kb)) (.string ⟨List.toArray Rd.kwShift⟩) false).run Tryz.prog w2 = .ok (.func (.func 58) #[] #[]) w2 := hlk; simp only [Rd.kwShift] at hlk) | (go_at_call 58; refine (HRH.out _ hb12).mono ?_; rintro e w3 hfin; obtain ⟨v, hv⟩ : ∃ v, e = .returned v := (by obtain ⟨v, _, _, h, _⟩ := hfin; exact ⟨v, h⟩); subst hv; have HFIN := (show Hid _ from hfin); clear hfin))
  go_ret
  exact HFIN.out
set_option maxHeartbeats 2000000 in
set_option maxRecDepth 10000 in
theorem formDefine_k (pb sb kb : Nat) (env : List (List Rd.Sym)) (fl : Option Nat) (fv : Value) (n m : Nat) (w : World) (p : Nat) (g o cap : Nat) (d0 : Rd.D) (rest : List Rd.D) (R : Rd.PR Rd.F) (hp : PAtK pb sb kb env fl fv n w) (hl : rest.length ≤ 5000) (hs : RepS (fun k => ¬ PMK pb sb fv k) w (.slice (some ⟨g, o, none⟩) (rest.length + 1) cap) (d0 :: rest)) (hk : d0.sym = some Rd.kwDefine)
    (HR : ∀ W, Below w.heap.size w W → Calls Tryz.prog 59 #[.pointer (some ⟨pb, 0, none⟩), lsV p g o (rest.length + 1) cap] W (RuleK pb sb kb env fl fv n m W R)) :
    Calls Tryz.prog 63 #[.pointer (some ⟨pb, 0, none⟩), lsV p g o (rest.length + 1) cap] w (RuleK pb sb kb env fl fv n m w R) := by
  obtain ⟨q, rfl⟩ := sym_mk hk
  have hcap := hs.len.2
  simp only [List.length_cons] at hcap
  have hB := box_below w (.cells #[.int .i64 p, .slice (some ⟨g, o, none⟩) (rest.length + 1) cap, .iface 146 (.agg #[])] 62)
  have hs2 := hs.mono (ok' := fun k => ¬ PMK pb sb fv k) (w' := w.alloc (.cells #[.int .i64 p, .slice (some ⟨g, o, none⟩) (rest.length + 1) cap, .iface 146 (.agg #[])] 62)) (fun k hk h => ⟨h, Below.heap_alloc _ _ _ hk⟩)
  have hok : ¬ PMK pb sb fv g := by
    obtain ⟨g', o', cap', pp, po0, pn0, pc0, ti, xv, heq, hok, _⟩ := hs2.cells 0 (by simp)
    simp only [Value.slice.injEq, Option.some.injEq, Addr.mk.injEq, and_true] at heq
    obtain ⟨⟨rfl, rfl⟩, _, rfl⟩ := heq
    exact hok
  obtain ⟨po, pc, e0, e1, e2⟩ := hs2.symAt 0 (by simp) (p := q) (m := Rd.kwDefine) rfl
  simp only [Nat.mul_zero, Nat.add_zero, Rd.kwDefine] at e0 e1 e2
  have HI : Hid (∀ W, Calls Tryz.prog 60 #[.agg #[.int .i64 p, .slice (some ⟨g, o, none⟩) (rest.length + 1) cap, .iface 146 (.agg #[])]] W fun e w' => e = .returned (.bool true) ∧ Below W.heap.size W w') := fun W => isList_any p _ (rest.length + 1) cap .empty W
  have hS := fun W => symbol_leaf q po pc (.sym Rd.kwDefine) W
  simp only [aV, Rd.A.symbol, Option.getD_some, Option.isSome_some, Rd.kwDefine] at hS
  have HS := (show Hid _ from hS)
  have HRH : Hid (∀ W, Below (w.alloc (.cells #[.int .i64 p, .slice (some ⟨g, o, none⟩) (rest.length + 1) cap, .iface 146 (.agg #[])] 62)).heap.size (w.alloc (.cells #[.int .i64 p, .slice (some ⟨g, o, none⟩) (rest.length + 1) cap, .iface 146 (.agg #[])] 62)) W → Calls Tryz.prog 59 #[.pointer (some ⟨pb, 0, none⟩), .agg #[.int .i64 p, .slice (some ⟨g, o, none⟩) (rest.length + 1) cap, .iface 146 (.agg #[])]] W (RuleK pb sb kb env fl fv n m w R)) := fun W hW => (HR W (hB.trans (hW.mono (by simp)))).mono fun e w' h => RuleK.from (hB.trans (hW.mono (by simp))) h
  have HPP : Hid (∀ W, Below (w.alloc (.cells #[.int .i64 p, .slice (some ⟨g, o, none⟩) (rest.length + 1) cap, .iface 146 (.agg #[])] 62)).heap.size (w.alloc (.cells #[.int .i64 p, .slice (some ⟨g, o, none⟩) (rest.length + 1) cap, .iface 146 (.agg #[])] 62)) W → PAtV fv pb sb kb env W) := fun W hW => (hp.kept (hB.trans (hW.mono (by simp)))).par
  have hne := nef_func 59
  have hnz : (((rest.length : Int) + 1) == 0) = false := by simp; omega
  clear hS HR hs hk hs2 hp
  unfold lsV
  go_enter Tryz.func63, Tryz.ntmps63
  go_wp2_with (first | (go_at_call 60; refine (HI.out _).mono ?_; rintro e w1 ⟨rfl, hb1⟩; have hsz1 : w.heap.size < w1.heap.size := (by have := hb1.size; simp at this; omega); obtain ⟨q0, q1, q2, _, _, _⟩ := cells3 (Below.at hb1 (at_new w _)); have y0 := (Kept.of_below hb1 (PMK pb sb fv)).cell hok e0; have y1 := (Kept.of_below hb1 (PMK pb sb fv)).cell hok e1; have y2 := (Kept.of_below hb1 (PMK pb sb fv)).cell hok e2) | (go_at_call 61; refine (HS.out _).mono ?_; rintro e w2 ⟨rfl, hb2⟩; have hb12 := hb1.trans (hb2.mono hb1.size); obtain ⟨r0, r1, r2, _, _, _⟩ := cells3 (Below.at hb12 (at_new w _)); obtain ⟨c2, hlk⟩ := form_factsV (HPP.out _ hb12) Rd.kwDefine; have hlk : (Instr.lookup 92 (.map (some kb)) (.string ⟨List.toArray Rd.kwDefine⟩) false).run Tryz.prog w2 = .ok (.func (.func 59) #[] #[]) w2 := hlk; simp only [Rd.kwDefine] at hlk) | (go_at_call 59; refine (HRH.out _ hb12).mono ?_; rintro e w3 hfin; obtain ⟨v, hv⟩ : ∃ v, e = .returned v := (by obtain ⟨v, _, _, h, _⟩ := hfin; exact ⟨v, h⟩); subst hv; have HFIN := (show Hid _ from hfin); clear hfin))
  go_ret
  exact HFIN.out
end Go.Proofs.YtodeeegbajgafaaGreatDoor
