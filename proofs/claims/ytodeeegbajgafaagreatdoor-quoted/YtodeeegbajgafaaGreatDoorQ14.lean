/- Forms of data, one behind the other. A scope is left behind a call that was deferred; forms in a scope of their own. -/
import Derived.Deep.OwnRows
import Derived.Test.YtodeeegbajgafaaGreatDoorQ13
namespace Go.Proofs.YtodeeegbajgafaaGreatDoor
open Go.RowKit

/-- What making a form of a datum does. -/
def FormC (f : Nat) : Prop := ∀ (pb sb kb : Nat) (env : List (List Rd.Sym)) (w : World) (d : Rd.D) (x : Rd.F) (v : Value), PAt pb sb kb env w → env.length + f ≤ 5000 → RepD (fun k => ¬ PM pb sb k) w v d → Rd.pForm f env d = some x →
  Calls Tryz.prog 63 #[.pointer (some ⟨pb, 0, none⟩), v] w fun e w' => ∃ fv, e = .returned fv ∧ RepF (fun k => w.heap.size ≤ k) w' fv x ∧ PAt pb sb kb env w' ∧ Kept (PM pb sb) w w'

def FormsC (f : Nat) : Prop := ∀ (pb sb kb : Nat) (env : List (List Rd.Sym)) (w : World) (ds : List Rd.D) (xs : List Rd.F) (sl : Value), PAt pb sb kb env w → env.length + f ≤ 5000 → RepS (fun k => ¬ PM pb sb k) w sl ds → Rd.pForms f env ds = some xs → ds ≠ [] →
  Calls Tryz.prog 101 #[.pointer (some ⟨pb, 0, none⟩), sl] w fun e w' => ∃ fv, e = .returned fv ∧ RepFs (fun k => w.heap.size ≤ k) w' fv xs ∧ PAt pb sb kb env w' ∧ Kept (PM pb sb) w w'

theorem Rd.pForms_more {f : Nat} {env : List (List Rd.Sym)} {d : Rd.D} {ds : List Rd.D} {r : List Rd.F} (h : Rd.pForms (f + 1) env (d :: ds) = some r) :
    ∃ x xs, Rd.pForm f env d = some x ∧ Rd.pForms f env ds = some xs ∧ r = x :: xs := by
  rw [Rd.pForms] at h
  split at h
  · rename_i x hx
    split at h
    · rename_i xs hxs
      cases h
      exact ⟨x, xs, hx, hxs, rfl⟩
    · cases h
  · cases h
theorem Rd.pForms_short : ∀ (f : Nat) (env : List (List Rd.Sym)) (ds : List Rd.D) (xs : List Rd.F), Rd.pForms f env ds = some xs → ds.length < f ∧ xs.length = ds.length
  | 0, _, _, _, h => by rw [Rd.pForms] at h; cases h
  | f + 1, env, [], xs, h => by rw [Rd.pForms] at h; cases h; simp
  | f + 1, env, d :: ds, xs, h => by
    obtain ⟨x, ys, _, h2, rfl⟩ := Rd.pForms_more h
    have := Rd.pForms_short f env ds ys h2
    simp; omega

theorem RepS.cells {ok : Nat → Prop} {w : World} {sl : Value} {ds : List Rd.D} (h : RepS ok w sl ds) (i : Nat) (hi : i < ds.length) :
    ∃ g o cap p po pn pc ti xv, sl = .slice (some ⟨g, o, none⟩) ds.length cap ∧ ok g ∧ ds.length ≤ cap ∧ w.cell? ⟨g, o + 3 * i, none⟩ = some (.int .i64 p) ∧ w.cell? ⟨g, o + 3 * i + 1, none⟩ = some (.slice po pn pc) ∧ w.cell? ⟨g, o + 3 * i + 2, none⟩ = some (.iface ti xv) ∧
      RepD ok w (.agg #[.int .i64 p, .slice po pn pc, .iface ti xv]) ds[i] := by
  rcases h with ⟨rfl, rfl⟩ | ⟨g, o, cap, c, T, va, vb, vc, rfl, hg, hh, hn, hc, hs⟩
  · exact absurd hi (Nat.not_lt_zero _)
  · obtain ⟨h1, h2, h3⟩ := hc i hi
    have hd := hs i hi
    obtain ⟨p, ds', en, he⟩ : ∃ p ds' en, ds[i] = .mk p ds' en := by cases ds[i]; exact ⟨_, _, _, rfl⟩
    rw [he] at hd
    obtain ⟨sl, hv, hsl⟩ := hd.inv
    have hsh : ∃ po pn pc, sl = .slice po pn pc := by
      rcases hsl with ⟨rfl, _⟩ | ⟨g, o, cap, c, T, va, vb, vc, rfl, _⟩ <;> exact ⟨_, _, _, rfl⟩
    obtain ⟨po, pn, pc, rfl⟩ := hsh
    obtain ⟨ti, xv, hav⟩ : ∃ t x, aV en = .iface t x := by cases en <;> exact ⟨_, _, rfl⟩
    rw [hav] at hv
    simp only [Value.agg.injEq, Array.mk.injEq, List.cons.injEq, and_true] at hv
    obtain ⟨e1, e2, e3⟩ := hv
    refine ⟨g, o, cap, p, po, pn, pc, ti, xv, rfl, hg, hn, ?_, ?_, ?_, ?_⟩
    · rw [cell_of_at hh, h1, e1]
    · rw [cell_of_at hh, h2, e2]
    · rw [cell_of_at hh, h3, e3]
    · rw [he, ← e1, ← e2, ← e3]; exact hd

/-- The loop's relation: the first j forms are there. -/
structure Forming (pb sb kb : Nat) (env : List (List Rd.Sym)) (w : World) (g n : Nat) (xs : List Rd.F) (j : Nat) (wr : World) : Prop where
  par : PAt pb sb kb env wr
  kept : Kept (PM pb sb) w wr
  row : ∃ (c : Array Value) (vf : Nat → Value), wr.heap[g]? = some (.cells c 96 (0, 0)) ∧ c.size = n ∧ (∀ i, i < j → c[i]? = some (vf i)) ∧ ∀ i (hi : i < xs.length), i < j → RepF (fun k => w.heap.size ≤ k ∧ k ≠ g) wr (vf i) xs[i]

theorem Tryz.info96 : (Tryz.prog.info? 96).map (fun i => (i.zero, i.size, i.bytes)) = some (some .nilIface, 1, 16) := by kernel_rfl

/-- One form more. -/
theorem Forming.push {pb sb kb : Nat} {env : List (List Rd.Sym)} {w : World} {g n : Nat} {xs : List Rd.F} {j : Nat} {wr w1 : World} (hF : Forming pb sb kb env w g n xs j wr) (hg : w.heap.size ≤ g) (hlp : pb < w.heap.size ∧ sb < w.heap.size) (hgp : g ≠ pb ∧ g ≠ sb ∧ g ≠ kb) (hj : j < n) (hx : xs.length = n)
    {o : Obj} {v : Value} (hrep : RepF (fun k => (wr.alloc o).heap.size ≤ k) w1 v xs[j]) (hp1 : PAt pb sb kb env w1) (hk1 : Kept (PM pb sb) (wr.alloc o) w1) :
    Forming pb sb kb env w g n xs (j + 1) (w1.setCell ⟨g, j, none⟩ v) := by
  obtain ⟨hpar, hkept, c, vf, hrow, hcs, hci, hels⟩ := hF
  have hgl := lt_of_at hrow
  have hng : ¬ PM pb sb g := fun h => by rcases h with h | h; exact hgp.1 h; exact hgp.2.1 h
  have hrow1 : w1.heap[g]? = some (.cells c 96 (0, 0)) := hk1.at hng (at_alloc hrow o)
  have hne : ∀ k, k ≠ g → (w1.setCell ⟨g, j, none⟩ v).heap[k]? = w1.heap[k]? := fun k hk => Below.heap_setCell _ _ _ _ hk
  have hs1 := hk1.size
  simp at hs1
  refine ⟨?_, ?_, c.setIfInBounds j v, fun i => if i = j then v else vf i, ?_, by simpa using hcs, ?_, ?_⟩
  · obtain ⟨⟨T, h1⟩, ⟨es, cl, h2, h3⟩, ⟨fs, d, h4, h5⟩, h6⟩ := hp1
    exact ⟨⟨T, (hne _ (fun e => hgp.1 e.symm)).trans h1⟩, ⟨es, cl, (hne _ (fun e => hgp.2.1 e.symm)).trans h2, h3⟩, ⟨fs, d, (hne _ (fun e => hgp.2.2 e.symm)).trans h4, h5⟩, h6⟩
  · have h1 := (hkept.alloc o).trans hk1
    exact h1.setCell (p := ⟨g, j, none⟩) (fun h => absurd (show g < w.heap.size from h) (by omega)) v
  · rw [at_setCell hrow1 j v]
  · intro i hi
    by_cases e : i = j
    · subst e
      simp [hcs, hj]
    · rw [Array.getElem?_setIfInBounds_ne (by omega)]
      simp only [e, if_false]
      exact hci i (by omega)
  · intro i hi hij
    by_cases e : i = j
    · subst e
      simp only [if_true]
      refine hrep.mono ?_
      intro k hk hge
      have hge : wr.heap.size + 1 ≤ k := by simpa using hge
      exact ⟨⟨by have := hkept.size; omega, by omega⟩, hne k (by omega)⟩
    · simp only [e, if_false]
      refine (hels i hi (by omega)).mono ?_
      intro k hk ⟨h1, h2⟩
      refine ⟨⟨h1, h2⟩, ?_⟩
      rw [hne k h2, hk1.block k (by simp; omega) (fun h => ?_), Below.heap_alloc _ _ _ hk]
      rcases h with h | h <;> omega

set_option maxHeartbeats 1000000 in
set_option maxRecDepth 10000 in
theorem forms_any (f : Nat) (H : ∀ g, g < f → FormC g) : FormsC f := by
  intro pb sb kb env w ds xs sl hp hf hsl hpf hne
  obtain ⟨hlen, hxl⟩ := Rd.pForms_short _ _ _ _ hpf
  have hpos : 0 < ds.length := List.length_pos_iff.2 hne
  obtain ⟨bb, cap, rfl, hcap⟩ : ∃ b cap, sl = .slice b ds.length cap ∧ ds.length ≤ cap := by
    rcases hsl with ⟨rfl, rfl⟩ | ⟨g, o, cap, c, T, va, vb, vc, rfl, _, _, hn, _⟩
    · exact ⟨none, 0, rfl, Nat.le_refl _⟩
    · exact ⟨_, cap, rfl, hn⟩
  have hmk := fun w => run_make_row' (P := Tryz.prog) 65 96 .nilIface 16 Tryz.underlying65 Tryz.info96 rfl .i64 .i64 ds.length (by omega) (by omega) w
  have hlp := hp.lt
  have hF0 : Forming pb sb kb env w w.heap.size ds.length xs 0 (w.alloc (.cells (madeCells #[.nilIface] ds.length) 96)) :=
    ⟨hp.kept ((Below.refl _ w).alloc (Nat.le_refl _) _), (Kept.refl _ w).alloc _, madeCells #[.nilIface] ds.length, fun _ => undef, at_new _ _, by simp [madeCells], fun i hi => absurd hi (Nat.not_lt_zero _), fun i _ hi => absurd hi (Nat.not_lt_zero _)⟩
  have hg3 : w.heap.size ≠ pb ∧ w.heap.size ≠ sb ∧ w.heap.size ≠ kb := by omega
  generalize hG : w.heap.size = g at *
  have HG := (show Hid _ from hG)
  clear hG
  go_enter Tryz.func101, Tryz.ntmps101
  go_wp2
  rw [HG.out]
  go_loopg [13] f (fun k i wr => ∃ j : Nat, i = .int .i64 j ∧ j ≤ ds.length ∧ k ≤ f ∧ Hid (Rd.pForms k env (ds.drop j) = some (xs.drop j)) ∧ Forming pb sb kb env w g ds.length xs j wr)
  case atStart => exact ⟨0, rfl, Nat.zero_le _, Nat.le_refl _, by simpa [Hid] using hpf, hF0⟩
  case round =>
    obtain ⟨j, rfl, hj, hkf, HP, hF⟩ := hrel
    obtain ⟨hpar, hkept, c, vf, hrow, hcs, hci, hels⟩ := id hF
    by_cases hlt : j < ds.length
    · have hsr := hsl.mono (hkept.rep (ok := fun k => ¬ PM pb sb k) fun _ _ h => h)
      obtain ⟨gd, od, cap', pp, po, pn, pc, ti, xv, heq, hgd, _, d0, d1, d2, hrepd⟩ := hsr.cells j hlt
      cases heq
      have hP := HP.out
      rw [List.drop_eq_getElem_cons hlt] at hP
      cases gk with
      | zero => rw [Rd.pForms] at hP; cases hP
      | succ k =>
      obtain ⟨x, ys, hx1, hx2, hx3⟩ := Rd.pForms_more hP
      have hjx : j < xs.length := by omega
      rw [List.drop_eq_getElem_cons hjx] at hx3
      simp only [List.cons.injEq] at hx3
      obtain ⟨hx4, hx5⟩ := hx3
      have HX1 : Hid (Rd.pForm k env ds[j] = some xs[j]) := by rw [Hid, hx4]; exact hx1
      have HX2 : Hid (Rd.pForms k env (ds.drop (j + 1)) = some (xs.drop (j + 1))) := by rw [Hid, hx5]; exact hx2
      have hrepd2 := hrepd.mono (ok' := fun k => ¬ PM pb sb k) (w' := wr.alloc (.cells #[.int .i64 pp, .slice po pn pc, .iface ti xv] 62)) (fun k hk h => ⟨h, Below.heap_alloc _ _ _ hk⟩)
      have hpar2 := hpar.kept ((Below.refl _ wr).alloc (Nat.le_refl _) (.cells #[.int .i64 pp, .slice po pn pc, .iface ti xv] 62))
      have hrow2 := at_alloc hrow (.cells #[.int .i64 pp, .slice po pn pc, .iface ti xv] 62)
      have hng : ¬ PM pb sb g := fun h => by rcases h with h | h; exact hg3.1 h; exact hg3.2.1 h
      clear HP hP hx1 hx2 hx4 hx5 hsr hsl hpf hrepd hpar hkept hci hels hrow hF0 hp
      rw [Nat.mul_comm 3 j] at d0 d1 d2
      go_wp2_with (go_at_call 63; refine (H k (by omega) pb sb kb env _ ds[j] xs[j] _ hpar2 (by omega) hrepd2 HX1.out).mono ?_; rintro e w1 ⟨fv, rfl, hrepf, hp1, hk1⟩; obtain ⟨tf, xf, rfl⟩ := RepF.iface hrepf; have hrow3 := hk1.at hng hrow2; have c3 : w1.cell? ⟨g, j, none⟩ = some (c[j]'(by omega)) := by { rw [cell_of_at hrow3 j, Array.getElem?_eq_getElem] }; have f3 := free_of_at hrow3 j)
      go_roundg k
      case measure => omega
      case rel => exact ⟨j + 1, by go_num, by omega, by omega, HX2, hF.push (by rw [← HG.out]; exact Nat.le_refl _) (by have := HG.out; omega) hg3 hlt hxl hrepf hp1 hk1⟩
    · have : j = ds.length := by omega
      subst this
      clear hsl hF0 hpf HP
      go_wp2
      go_ret
      refine ⟨_, rfl, ?_, hpar, hkept⟩
      rw [← hxl]
      refine .list g 0 _ c 96 xs vf ?_ hrow (Nat.le_refl _) (by omega) ?_ ?_
      · exact Nat.le_refl _
      · intro i hi
        rw [Nat.zero_add]
        exact hci i (by omega)
      · intro i hi
        exact (hels i hi (by omega)).mono fun k _ h => ⟨by have h1 := h.1; have := HG.out; omega, rfl⟩
end Go.Proofs.YtodeeegbajgafaaGreatDoor

namespace Go.Proofs.YtodeeegbajgafaaGreatDoor
open Go.RowKit

set_option maxHeartbeats 1000000 in
set_option maxRecDepth 10000 in
theorem leave_d (pb sb kb : Nat) (env : List (List Rd.Sym)) (sl : Value) (ns : List Rd.Sym) (u : FrameMode) (w : World) (hp : PAt pb sb kb (ns :: env) w) (he : env.length ≤ 100000) (hl : ns.length ≤ 100000) (hn : RepN (fun k => ¬ PM pb sb k) w sl ns) :
    CallsD Tryz.prog 138 #[.pointer (some ⟨pb, 0, none⟩), sl] u w fun e u' w' => u' = u ∧ (e = .returned (.tuple #[]) ∧ PAt pb sb kb env w' ∧ Kept (PM pb sb) w w') := by
  obtain ⟨⟨T, h1⟩, hsl, hru, hap⟩ := id hp
  obtain ⟨bb, cap, rfl, hcap⟩ := hn.shape
  have hE0 : Leaving pb sb kb env ns w 0 w := ⟨⟨T, by rw [h1]; simp⟩, by simpa [slotsFrom, slotsOf] using hsl, hru, Kept.refl _ _⟩
  clear h1 hsl hru
  go_enter_d Tryz.func138, Tryz.ntmps138
  go_wp2
  go_loopg [8] ns.length (fun k i wr => ∃ j : Nat, j + k = ns.length ∧ i = .int .i64 j ∧ Leaving pb sb kb env ns w j wr)
  case atStart => exact ⟨0, by omega, rfl, hE0⟩
  case round =>
    obtain ⟨j, hj, rfl, hE⟩ := hrel
    obtain ⟨⟨T2, b2⟩, ⟨es, cl, hmb, hkv⟩, hru2, hk2⟩ := id hE
    have e0 := cell_of_at b2 0
    have e1 := cell_of_at b2 1
    simp only [List.getElem?_toArray, List.getElem?_cons_zero, List.getElem?_cons_succ] at e0 e1
    have f1 := free_of_at b2 1
    by_cases hlt : j < ns.length
    · have hnr := hn.mono (hk2.rep (ok := fun k => ¬ PM pb sb k) fun _ _ h => h)
      obtain ⟨g, cap', heq, _, hcap2, hcell⟩ := hnr.cell j hlt
      cases heq
      have hno := slotsFrom_ix env ns j hlt
      have hup := fun ty => delete_spot (w := wr.drew) hmb hkv (env.length + 1) ns[j] ty _ _ hno
      simp only [spotV, symV] at hup hcell
      have ec : (((env.length + 1 : Nat) : Int)) = (env.length : Int) + 1 := by omega
      rw [ec] at hup
      have hnx : Leaving pb sb kb env ns w (j + 1) (putObj wr.drew sb (.map (es.eraseIdxIfInBounds (slotsOf env).length) cl)) := by
        refine ⟨⟨T2, by rw [putObj_ne _ _ _ _ hap.1]; exact b2⟩, ?_, ?_, ?_⟩
        · have := SlotsAt.erase (w := wr.drew) hmb hkv (slotsOf env).length
          rw [slotsFrom_erase env ns j hlt] at this
          exact this
        · obtain ⟨fs, c, h2, h3⟩ := hru2
          exact ⟨fs, c, by rw [putObj_ne _ _ _ _ (fun e => hap.2.2 e.symm)]; exact h2, h3⟩
        · exact hk2.drew.trans ((putObj_kept _ _ _).mono fun k _ h => Or.inr h)
      clear hnr hno hmb hkv hru2 b2 hE hk2 hn hE0 hp
      go_wp2
      go_region
      all_goals
        go_wp2
        go_roundg (gk - 1)
        case measure => omega
        case rel => exact ⟨j + 1, by omega, by go_num, hnx⟩
    · have : j = ns.length := by omega
      subst this
      have hkv2 : kvs es.toList = (slotsOf env).map spotKV := by rw [hkv]; simp [slotsFrom, level]
      clear hn hE0 hp
      go_wp2
      go_end0
      refine ⟨rfl, ⟨⟨T2, ?_⟩, ?_, ?_, hap⟩, ?_⟩
      · rw [at_setCell b2 1 _]; simp
      · exact ⟨es, cl, at_setCell_ne hmb _ (fun e => hap.1 e.symm) _, hkv2⟩
      · obtain ⟨fs, c, h2, h3⟩ := hru2
        exact ⟨fs, c, at_setCell_ne h2 _ (fun e => hap.2.1 e.symm) _, h3⟩
      · exact hk2.setCell (p := ⟨pb, 1, none⟩) (fun _ => Or.inl rfl) _

set_option maxHeartbeats 1000000 in
set_option maxRecDepth 10000 in
theorem formsWithin_any (f : Nat) (HF : FormsC f) (pb sb kb : Nat) (env : List (List Rd.Sym)) (w : World) (ns : List Rd.Sym) (nv : Value) (ds : List Rd.D) (xs : List Rd.F) (sl : Value) (hp : PAt pb sb kb env w) (hf : env.length + 1 + f ≤ 5000) (hl : ns.length ≤ 5000)
    (hn : RepN (fun k => ¬ PM pb sb k) w nv ns) (hd : Differ ns) (hsl : RepS (fun k => ¬ PM pb sb k) w sl ds) (hpf : Rd.pForms f (ns :: env) ds = some xs) (hne : ds ≠ []) :
    Calls Tryz.prog 104 #[.pointer (some ⟨pb, 0, none⟩), nv, sl] w fun e w' => ∃ fv, e = .returned fv ∧ RepFs (fun k => w.heap.size ≤ k) w' fv xs ∧ PAt pb sb kb env w' ∧ Kept (PM pb sb) w w' := by
  obtain ⟨nb, nc, rfl, hnc⟩ := hn.shape
  have HP := (show Hid _ from hpf)
  clear hpf
  go_enter_defers Tryz.func104, Tryz.ntmps104
  go_wp2_with (first | (go_at_call 137; refine (enter_any pb sb kb env _ ns _ hp (by omega) (by omega) hn hd).mono ?_; rintro e w1 ⟨rfl, hp1, hk1⟩) | (go_at_call 101; refine (HF pb sb kb (ns :: env) _ ds xs _ hp1 (by simp; omega) (hsl.mono (hk1.rep fun _ _ h => h)) HP.out hne).mono ?_; rintro e w2 ⟨fv, rfl, hrep, hp2, hk2⟩))
  refine leaves_cons (f := 138) (args := #[.pointer (some ⟨pb, 0, none⟩), .slice nb ns.length nc]) (by simp) (by simp [go_sem]) ?_
  refine (leave_d pb sb kb env _ ns .returning _ hp2 (by omega) (by omega) ((hn.mono (hk1.rep fun _ _ h => h)).mono (hk2.rep fun _ _ h => h))).mono ?_
  rintro e u' w3 ⟨rfl, rfl, hp3, hk3⟩
  have hs1 := hk1.size
  have hlp := hp.lt
  refine ⟨_, results_tmp rfl _ _ _, fv, rfl, ?_, hp3, (hk1.trans hk2).trans hk3⟩
  refine hrep.mono ?_
  intro k hk hge
  refine ⟨by omega, hk3.block k hk fun h => ?_⟩
  rcases h with h | h <;> omega
end Go.Proofs.YtodeeegbajgafaaGreatDoor
