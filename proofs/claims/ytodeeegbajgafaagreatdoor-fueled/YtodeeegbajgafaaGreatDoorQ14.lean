/- Forms of data, one behind the other. The parser with any faults: where names stand; scopes are entered and left. Written by gen_kpat.py. -/
import Derived.Deep.OwnRows
import Derived.Test.YtodeeegbajgafaaGreatDoorQ13
namespace Go.Proofs.YtodeeegbajgafaaGreatDoor
open Go.RowKit
theorem RepS.cells {ok : Nat → Prop} {w : World} {sl : Value} {ds : List Rd.D} (h : RepS ok w sl ds) (i : Nat) (hi : i < ds.length) :
    ∃ g o cap p po pn pc ti xv, sl = .slice (some ⟨g, o, none⟩) ds.length cap ∧ ok g ∧ ds.length ≤ cap ∧ w.cell? ⟨g, o + 3 * i, none⟩ = some (.int .i64 p) ∧ w.cell? ⟨g, o + 3 * i + 1, none⟩ = some (.slice po pn pc) ∧ w.cell? ⟨g, o + 3 * i + 2, none⟩ = some (.iface ti xv) ∧
      RepD ok w (.agg #[.int .i64 p, .slice po pn pc, .iface ti xv]) ds[i] := by
  rcases h with ⟨rfl, rfl⟩ | ⟨g, o, cap, c, T, va, vb, vc, rfl, hg, hh, hn, hc, hs⟩
  · exact absurd hi (Nat.not_lt_zero _)
  · obtain ⟨h1, h2, h3⟩ := hc i hi
    have hd := hs i hi
    obtain ⟨p, ds', en, he⟩ : ∃ p ds' en, ds[i] = .mk p ds' en := by cases ds[i]; exact ⟨_, _, _, rfl⟩
    rw [he] at hd
    obtain ⟨sl, hv, hsl⟩ := hd.inv
    have hsh : ∃ po pn pc, sl = .slice po pn pc := by
      rcases hsl with ⟨rfl, _⟩ | ⟨g, o, cap, c, T, va, vb, vc, rfl, _⟩ <;> exact ⟨_, _, _, rfl⟩
    obtain ⟨po, pn, pc, rfl⟩ := hsh
    obtain ⟨ti, xv, hav⟩ : ∃ t x, aV en = .iface t x := by cases en <;> exact ⟨_, _, rfl⟩
    rw [hav] at hv
    simp only [Value.agg.injEq, Array.mk.injEq, List.cons.injEq, and_true] at hv
    obtain ⟨e1, e2, e3⟩ := hv
    refine ⟨g, o, cap, p, po, pn, pc, ti, xv, rfl, hg, hn, ?_, ?_, ?_, ?_⟩
    · rw [cell_of_at hh, h1, e1]
    · rw [cell_of_at hh, h2, e2]
    · rw [cell_of_at hh, h3, e3]
    · rw [he, ← e1, ← e2, ← e3]; exact hd
theorem Tryz.info96 : (Tryz.prog.info? 96).map (fun i => (i.zero, i.size, i.bytes)) = some (some .nilIface, 1, 16) := by kernel_rfl
end Go.Proofs.YtodeeegbajgafaaGreatDoor

namespace Go.Proofs.YtodeeegbajgafaaGreatDoor
open Go.RowKit
/-- The parser lies in block pb, its slots in sb, its rules in kb; no fault was found. -/
structure PAtV (fv : Value) (pb sb kb : Nat) (env : List (List Rd.Sym)) (w : World) : Prop where
  blk : ∃ T, w.heap[pb]? = some (.cells #[.map (some sb), .int .i64 env.length, .map (some kb), fv] T (0, 0))
  slots : SlotsAt sb (slotsOf env) w
  rules : SymsAt kb ruleList w
  apart : pb ≠ sb ∧ pb ≠ kb ∧ sb ≠ kb
theorem PAtV.kept {fv : Value} {pb sb kb : Nat} {env : List (List Rd.Sym)} {w w' : World} (h : PAtV fv pb sb kb env w) (hb : Below w.heap.size w w') : PAtV fv pb sb kb env w' := by
  obtain ⟨⟨T, h1⟩, ⟨es, c, h2, h3⟩, ⟨fs, d, h4, h5⟩, h6⟩ := h
  exact ⟨⟨T, Below.at hb h1⟩, ⟨es, c, Below.at hb h2, h3⟩, ⟨fs, d, Below.at hb h4, h5⟩, h6⟩
theorem PAtV.lt {fv : Value} {pb sb kb : Nat} {env : List (List Rd.Sym)} {w : World} (h : PAtV fv pb sb kb env w) : pb < w.heap.size ∧ sb < w.heap.size ∧ kb < w.heap.size := by
  obtain ⟨⟨T, h1⟩, ⟨es, c, h2, h3⟩, ⟨fs, d, h4, h5⟩, h6⟩ := h
  exact ⟨lt_of_at h1, lt_of_at h2, lt_of_at h4⟩
set_option maxHeartbeats 1000000 in
set_option maxRecDepth 10000 in
theorem find_v (fv : Value) (pb sb kb : Nat) (env : List (List Rd.Sym)) (n : Rd.Sym) (w : World) (hp : PAtV fv pb sb kb env w) (he : env.length ≤ 100000) :
    Calls Tryz.prog 106 #[.pointer (some ⟨pb, 0, none⟩), symV n] w fun e w' => e = .returned (nameV n (Rd.findName n env 0)) ∧ Below w.heap.size w w' := by
  have hlt := hp.lt
  obtain ⟨⟨T, h1⟩, hsl, _, _⟩ := hp.kept ((Below.refl _ w).alloc (Nat.le_refl _) (.cells #[.string ⟨#[]⟩, .bool false, .int .i64 0, .int .i64 0] 178))
  have c0 := cell_of_at h1 0
  have c1 := cell_of_at h1 1
  simp only [List.getElem?_toArray, List.getElem?_cons_zero, List.getElem?_cons_succ] at c0 c1
  have hlk := fun k => lookup_spot hsl k n
  simp only [spotV] at hlk
  have HLK := (show Hid _ from hlk)
  clear h1 hsl hlk
  unfold symV
  go_enter Tryz.func106, Tryz.ntmps106
  go_wp2
  go_loop [5] (fun i => ∃ k : Nat, k ≤ env.length ∧ i = .int .i64 k ∧ Hid (Rd.findName n (env.drop (env.length - k)) (env.length - k) = Rd.findName n env 0)) (fun i => (intOf i).toNat)
  case atStart => exact ⟨env.length, Nat.le_refl _, rfl, by rw [Hid, Nat.sub_self]; rfl⟩
  case round =>
    obtain ⟨k, hk, rfl, H⟩ := hrel
    by_cases h0 : k = 0
    · subst h0
      have hf : Rd.findName n env 0 = none := by
        have := H.out
        rw [Nat.sub_zero, List.drop_length] at this
        exact this.symm
      have HF := (show Hid _ from hf)
      clear HLK H hf
      go_wp2
      exact bodyPost_ret (v := nameV n none) (by simp [results, Tryz.results106, go_sem, nameV, symV, locUp, locSlot]) rfl ⟨by rw [HF.out], (Below.refl _ _).alloc (Nat.le_refl _) _⟩
    · have hk0 : (0 : Int) < (k : Int) := by omega
      have hs := spotIx_slots n env k (by omega) hk
      have hst := findName_step n env (env.length - k) (by omega)
      have hl := HLK.out k
      have hi := isSome_of_map hs
      rw [hs, hi] at hl
      cases hx : Rd.nameIx n (env[env.length - k]'(by omega)) 0 with
      | none =>
        have hx' : Rd.nameIx n (env[env.length - k]'(by omega)) 0 = none := hx
        rw [hx'] at hl hst
        simp only [Option.getD_none, Option.isSome_none, Int.natCast_zero] at hl
        have HN : Hid (Rd.findName n (env.drop (env.length - (k - 1))) (env.length - (k - 1)) = Rd.findName n env 0) := by
          rw [Hid, ← H.out, hst, show env.length - (k - 1) = env.length - k + 1 by omega]
        clear hs hst hi hx hx' HLK H
        go_wp2
        go_round
        case rel => exact ⟨k - 1, by omega, by rw [show ((k - 1 : Nat) : Int) = (k : Int) - 1 by omega], HN⟩
        case measure => simp [intOf]; omega
      | some sl =>
        have hx' : Rd.nameIx n (env[env.length - k]'(by omega)) 0 = some sl := hx
        rw [hx'] at hl hst
        simp only [Option.getD_some, Option.isSome_some] at hl
        have hf : Rd.findName n env 0 = some (env.length - k, sl) := by rw [← H.out, hst]
        have HF := (show Hid _ from hf)
        clear hs hst hi hx hx' HLK H hf
        have hsub : ((env.length : Int) - (k : Int)) = ((env.length - k : Nat) : Int) := by omega
        go_wp2
        exact bodyPost_ret (v := nameV n (some (env.length - k, sl))) (by simp [results, Tryz.results106, go_sem, nameV, symV, locUp, locSlot]) rfl ⟨by rw [HF.out], (Below.refl _ _).alloc (Nat.le_refl _) _⟩
set_option maxHeartbeats 1000000 in
set_option maxRecDepth 10000 in
theorem nameOf_v (fv : Value) (pb sb kb : Nat) (env : List (List Rd.Sym)) (p : Int) (ad : Option Addr) (c : Nat) (n : Rd.Sym) (w : World) (hp : PAtV fv pb sb kb env w) (hn : Rd.keys.contains n = false) :
    Calls Tryz.prog 105 #[.pointer (some ⟨pb, 0, none⟩), .agg #[.int .i64 p, .slice ad 0 c, .iface 115 (symV n)]] w fun e w' => e = .returned (.tuple #[symV n, .bool true]) ∧ Below w.heap.size w w' := by
  have hS := fun w => symbol_leaf p ad c (.sym n) w
  simp only [aV, Rd.A.symbol, Option.getD_some, Option.isSome_some] at hS
  have HS := (show Hid _ from hS)
  have hnone := rules_none n hn
  clear hS hn
  unfold symV
  go_enter Tryz.func105, Tryz.ntmps105
  go_wp2_with (go_at_call 61; refine (HS.out _).mono ?_; rintro e w1 ⟨rfl, hb⟩)
  have hb1 : Below w.heap.size w w1 := ((Below.refl _ w).alloc (Nat.le_refl _) _).trans (hb.mono (by simp))
  obtain ⟨⟨T, h1⟩, _, hr, _⟩ := hp.kept hb1
  have c2 := cell_of_at h1 2
  simp only [List.getElem?_toArray, List.getElem?_cons_zero, List.getElem?_cons_succ] at c2
  have hlk : ∀ k, (Instr.lookup 92 (.map (some kb)) (.string ⟨n.toArray⟩) false).run Tryz.prog (w1.drewN k) = .ok .nilFunc (w1.drewN k) := by
    intro k
    have hr' : SymsAt kb ruleList (w1.drewN k) := hr
    have := lookup_sym Tryz.underlying92 zero188 hr' n
    rw [hnone] at this
    exact this
  have hlk1 : (Instr.lookup 92 (.map (some kb)) (.string ⟨n.toArray⟩) false).run Tryz.prog w1.drew = .ok .nilFunc w1.drew := hlk 1
  clear hr h1 hnone
  have hq := eqf_nil
  go_region
  all_goals
    go_wp2
    go_ret2
    exact ⟨rfl, hb1.drew⟩
/-- The relation of the loop in enter. -/
structure EnteringV (fv : Value) (pb sb kb : Nat) (env : List (List Rd.Sym)) (ns : List Rd.Sym) (w : World) (k : Nat) (wr : World) : Prop where
  blk : ∃ T, wr.heap[pb]? = some (.cells #[.map (some sb), .int .i64 ((env.length : Int) + 1), .map (some kb), fv] T (0, 0))
  slots : SlotsAt sb (slotsTo env ns k) wr
  rules : SymsAt kb ruleList wr
  kept : Kept (PM pb sb) w wr
set_option maxHeartbeats 1000000 in
set_option maxRecDepth 10000 in
theorem enter_v (fv : Value) (pb sb kb : Nat) (env : List (List Rd.Sym)) (sl : Value) (ns : List Rd.Sym) (w : World) (hp : PAtV fv pb sb kb env w) (he : env.length ≤ 100000) (hl : ns.length ≤ 100000) (hn : RepN (fun k => ¬ PM pb sb k) w sl ns) (hd : Differ ns) :
    Calls Tryz.prog 137 #[.pointer (some ⟨pb, 0, none⟩), sl] w fun e w' => e = .returned (.tuple #[]) ∧ PAtV fv pb sb kb (ns :: env) w' ∧ Kept (PM pb sb) w w' := by
  obtain ⟨⟨T, h1⟩, hsl, hru, hap⟩ := id hp
  have c0 := cell_of_at h1 0
  have c1 := cell_of_at h1 1
  simp only [List.getElem?_toArray, List.getElem?_cons_zero, List.getElem?_cons_succ] at c0 c1
  have f1 := free_of_at h1 1
  obtain ⟨bb, cap, rfl, hcap⟩ := hn.shape
  have hE0 : EnteringV fv pb sb kb env ns w 0 (w.setCell ⟨pb, 1, none⟩ (.int .i64 ((env.length : Int) + 1))) := by
    refine ⟨⟨T, by rw [at_setCell h1 1 _]; simp⟩, ?_, ?_, ?_⟩
    · obtain ⟨es, c, h2, h3⟩ := hsl
      exact ⟨es, c, at_setCell_ne h2 _ (fun e => hap.1 e.symm) _, by rw [h3]; simp [slotsTo, level]⟩
    · obtain ⟨es, c, h2, h3⟩ := hru
      exact ⟨es, c, at_setCell_ne h2 _ (fun e => hap.2.1 e.symm) _, h3⟩
    · have h := Kept.refl (PM pb sb) w
      exact h.setCell (p := ⟨pb, 1, none⟩) (fun _ => Or.inl rfl) _
  clear h1 hsl hru
  go_enter Tryz.func137, Tryz.ntmps137
  go_wp2
  go_loopg [15] ns.length (fun k i wr => ∃ j : Nat, j + k = ns.length ∧ i = .int .i64 j ∧ EnteringV fv pb sb kb env ns w j wr)
  case atStart => exact ⟨0, by omega, rfl, hE0⟩
  case round =>
    obtain ⟨j, hj, rfl, hE⟩ := hrel
    obtain ⟨⟨T2, b2⟩, ⟨es, cl, hmb, hkv⟩, hru2, hk2⟩ := id hE
    have e0 := cell_of_at b2 0
    have e1 := cell_of_at b2 1
    simp only [List.getElem?_toArray, List.getElem?_cons_zero, List.getElem?_cons_succ] at e0 e1
    by_cases hlt : j < ns.length
    · have hnr := hn.mono (hk2.rep (ok := fun k => ¬ PM pb sb k) fun _ _ h => h)
      obtain ⟨g, cap', heq, _, hcap2, hcell⟩ := hnr.cell j hlt
      cases heq
      have hno := slotsTo_none env ns j hlt hd
      have hup := update_spot (w := wr.drew) hmb hkv (env.length + 1) ns[j] (.int .i64 j) hno
      simp only [spotV, symV] at hup hcell
      have ec : (((env.length + 1 : Nat) : Int)) = (env.length : Int) + 1 := by omega
      rw [ec] at hup
      have hnx : EnteringV fv pb sb kb env ns w (j + 1) (putObj wr.drew sb (.map (es.push { key := spotV (env.length + 1) ns[j], val := .int .i64 j, born := cl }) (cl + 1))) := by
        refine ⟨⟨T2, by rw [putObj_ne _ _ _ _ hap.1]; exact b2⟩, ?_, ?_, ?_⟩
        · have := SlotsAt.push (w := wr.drew) hmb hkv (env.length + 1) ns[j] j (cl + 1)
          rw [slotsTo_succ env ns j hlt] at this
          exact this
        · obtain ⟨fs, c, h2, h3⟩ := hru2
          exact ⟨fs, c, by rw [putObj_ne _ _ _ _ (fun e => hap.2.2 e.symm)]; exact h2, h3⟩
        · exact hk2.drew.trans ((putObj_kept _ _ _).mono fun k _ h => Or.inr h)
      simp only [spotV] at hnx
      rw [ec] at hnx
      clear hnr hno hmb hkv hru2 b2 hE hk2 hn hE0 hp
      go_wp2
      go_region
      all_goals
        go_wp2
        go_roundg (gk - 1)
        case measure => omega
        case rel => exact ⟨j + 1, by omega, by go_num, hnx⟩
    · have : j = ns.length := by omega
      subst this
      clear hn hE0 hp
      go_wp2
      go_end0
      refine ⟨rfl, ⟨⟨T2, ?_⟩, ?_, hru2, hap⟩, hk2⟩
      · rw [b2]; simp
      · refine ⟨es, cl, hmb, ?_⟩
        rw [hkv]
        simp [slotsTo, slotsOf]
structure LeavingV (fv : Value) (pb sb kb : Nat) (env : List (List Rd.Sym)) (ns : List Rd.Sym) (w : World) (k : Nat) (wr : World) : Prop where
  blk : ∃ T, wr.heap[pb]? = some (.cells #[.map (some sb), .int .i64 ((env.length : Int) + 1), .map (some kb), fv] T (0, 0))
  slots : SlotsAt sb (slotsFrom env ns k) wr
  rules : SymsAt kb ruleList wr
  kept : Kept (PM pb sb) w wr
set_option maxHeartbeats 1000000 in
set_option maxRecDepth 10000 in
theorem leave_v (fv : Value) (pb sb kb : Nat) (env : List (List Rd.Sym)) (sl : Value) (ns : List Rd.Sym) (w : World) (hp : PAtV fv pb sb kb (ns :: env) w) (he : env.length ≤ 100000) (hl : ns.length ≤ 100000) (hn : RepN (fun k => ¬ PM pb sb k) w sl ns) :
    Calls Tryz.prog 138 #[.pointer (some ⟨pb, 0, none⟩), sl] w fun e w' => e = .returned (.tuple #[]) ∧ PAtV fv pb sb kb env w' ∧ Kept (PM pb sb) w w' := by
  obtain ⟨⟨T, h1⟩, hsl, hru, hap⟩ := id hp
  obtain ⟨bb, cap, rfl, hcap⟩ := hn.shape
  have hE0 : LeavingV fv pb sb kb env ns w 0 w := ⟨⟨T, by rw [h1]; simp⟩, by simpa [slotsFrom, slotsOf] using hsl, hru, Kept.refl _ _⟩
  clear h1 hsl hru
  go_enter Tryz.func138, Tryz.ntmps138
  go_wp2
  go_loopg [8] ns.length (fun k i wr => ∃ j : Nat, j + k = ns.length ∧ i = .int .i64 j ∧ LeavingV fv pb sb kb env ns w j wr)
  case atStart => exact ⟨0, by omega, rfl, hE0⟩
  case round =>
    obtain ⟨j, hj, rfl, hE⟩ := hrel
    obtain ⟨⟨T2, b2⟩, ⟨es, cl, hmb, hkv⟩, hru2, hk2⟩ := id hE
    have e0 := cell_of_at b2 0
    have e1 := cell_of_at b2 1
    simp only [List.getElem?_toArray, List.getElem?_cons_zero, List.getElem?_cons_succ] at e0 e1
    have f1 := free_of_at b2 1
    by_cases hlt : j < ns.length
    · have hnr := hn.mono (hk2.rep (ok := fun k => ¬ PM pb sb k) fun _ _ h => h)
      obtain ⟨g, cap', heq, _, hcap2, hcell⟩ := hnr.cell j hlt
      cases heq
      have hno := slotsFrom_ix env ns j hlt
      have hup := fun ty => delete_spot (w := wr.drew) hmb hkv (env.length + 1) ns[j] ty _ _ hno
      simp only [spotV, symV] at hup hcell
      have ec : (((env.length + 1 : Nat) : Int)) = (env.length : Int) + 1 := by omega
      rw [ec] at hup
      have hnx : LeavingV fv pb sb kb env ns w (j + 1) (putObj wr.drew sb (.map (es.eraseIdxIfInBounds (slotsOf env).length) cl)) := by
        refine ⟨⟨T2, by rw [putObj_ne _ _ _ _ hap.1]; exact b2⟩, ?_, ?_, ?_⟩
        · have := SlotsAt.erase (w := wr.drew) hmb hkv (slotsOf env).length
          rw [slotsFrom_erase env ns j hlt] at this
          exact this
        · obtain ⟨fs, c, h2, h3⟩ := hru2
          exact ⟨fs, c, by rw [putObj_ne _ _ _ _ (fun e => hap.2.2 e.symm)]; exact h2, h3⟩
        · exact hk2.drew.trans ((putObj_kept _ _ _).mono fun k _ h => Or.inr h)
      clear hnr hno hmb hkv hru2 b2 hE hk2 hn hE0 hp
      go_wp2
      go_region
      all_goals
        go_wp2
        go_roundg (gk - 1)
        case measure => omega
        case rel => exact ⟨j + 1, by omega, by go_num, hnx⟩
    · have : j = ns.length := by omega
      subst this
      have hkv2 : kvs es.toList = (slotsOf env).map spotKV := by rw [hkv]; simp [slotsFrom, level]
      clear hn hE0 hp
      go_wp2
      go_end0
      refine ⟨rfl, ⟨⟨T2, ?_⟩, ?_, ?_, hap⟩, ?_⟩
      · rw [at_setCell b2 1 _]; simp
      · exact ⟨es, cl, at_setCell_ne hmb _ (fun e => hap.1 e.symm) _, hkv2⟩
      · obtain ⟨fs, c, h2, h3⟩ := hru2
        exact ⟨fs, c, at_setCell_ne h2 _ (fun e => hap.2.1 e.symm) _, h3⟩
      · exact hk2.setCell (p := ⟨pb, 1, none⟩) (fun _ => Or.inl rfl) _
set_option maxHeartbeats 1000000 in
set_option maxRecDepth 10000 in
theorem leave_dv (fv : Value) (pb sb kb : Nat) (env : List (List Rd.Sym)) (sl : Value) (ns : List Rd.Sym) (u : FrameMode) (w : World) (hp : PAtV fv pb sb kb (ns :: env) w) (he : env.length ≤ 100000) (hl : ns.length ≤ 100000) (hn : RepN (fun k => ¬ PM pb sb k) w sl ns) :
    CallsD Tryz.prog 138 #[.pointer (some ⟨pb, 0, none⟩), sl] u w fun e u' w' => u' = u ∧ (e = .returned (.tuple #[]) ∧ PAtV fv pb sb kb env w' ∧ Kept (PM pb sb) w w') := by
  obtain ⟨⟨T, h1⟩, hsl, hru, hap⟩ := id hp
  obtain ⟨bb, cap, rfl, hcap⟩ := hn.shape
  have hE0 : LeavingV fv pb sb kb env ns w 0 w := ⟨⟨T, by rw [h1]; simp⟩, by simpa [slotsFrom, slotsOf] using hsl, hru, Kept.refl _ _⟩
  clear h1 hsl hru
  go_enter_d Tryz.func138, Tryz.ntmps138
  go_wp2
  go_loopg [8] ns.length (fun k i wr => ∃ j : Nat, j + k = ns.length ∧ i = .int .i64 j ∧ LeavingV fv pb sb kb env ns w j wr)
  case atStart => exact ⟨0, by omega, rfl, hE0⟩
  case round =>
    obtain ⟨j, hj, rfl, hE⟩ := hrel
    obtain ⟨⟨T2, b2⟩, ⟨es, cl, hmb, hkv⟩, hru2, hk2⟩ := id hE
    have e0 := cell_of_at b2 0
    have e1 := cell_of_at b2 1
    simp only [List.getElem?_toArray, List.getElem?_cons_zero, List.getElem?_cons_succ] at e0 e1
    have f1 := free_of_at b2 1
    by_cases hlt : j < ns.length
    · have hnr := hn.mono (hk2.rep (ok := fun k => ¬ PM pb sb k) fun _ _ h => h)
      obtain ⟨g, cap', heq, _, hcap2, hcell⟩ := hnr.cell j hlt
      cases heq
      have hno := slotsFrom_ix env ns j hlt
      have hup := fun ty => delete_spot (w := wr.drew) hmb hkv (env.length + 1) ns[j] ty _ _ hno
      simp only [spotV, symV] at hup hcell
      have ec : (((env.length + 1 : Nat) : Int)) = (env.length : Int) + 1 := by omega
      rw [ec] at hup
      have hnx : LeavingV fv pb sb kb env ns w (j + 1) (putObj wr.drew sb (.map (es.eraseIdxIfInBounds (slotsOf env).length) cl)) := by
        refine ⟨⟨T2, by rw [putObj_ne _ _ _ _ hap.1]; exact b2⟩, ?_, ?_, ?_⟩
        · have := SlotsAt.erase (w := wr.drew) hmb hkv (slotsOf env).length
          rw [slotsFrom_erase env ns j hlt] at this
          exact this
        · obtain ⟨fs, c, h2, h3⟩ := hru2
          exact ⟨fs, c, by rw [putObj_ne _ _ _ _ (fun e => hap.2.2 e.symm)]; exact h2, h3⟩
        · exact hk2.drew.trans ((putObj_kept _ _ _).mono fun k _ h => Or.inr h)
      clear hnr hno hmb hkv hru2 b2 hE hk2 hn hE0 hp
      go_wp2
      go_region
      all_goals
        go_wp2
        go_roundg (gk - 1)
        case measure => omega
        case rel => exact ⟨j + 1, by omega, by go_num, hnx⟩
    · have : j = ns.length := by omega
      subst this
      have hkv2 : kvs es.toList = (slotsOf env).map spotKV := by rw [hkv]; simp [slotsFrom, level]
      clear hn hE0 hp
      go_wp2
      go_end0
      refine ⟨rfl, ⟨⟨T2, ?_⟩, ?_, ?_, hap⟩, ?_⟩
      · rw [at_setCell b2 1 _]; simp
      · exact ⟨es, cl, at_setCell_ne hmb _ (fun e => hap.1 e.symm) _, hkv2⟩
      · obtain ⟨fs, c, h2, h3⟩ := hru2
        exact ⟨fs, c, at_setCell_ne h2 _ (fun e => hap.2.1 e.symm) _, h3⟩
      · exact hk2.setCell (p := ⟨pb, 1, none⟩) (fun _ => Or.inl rfl) _
end Go.Proofs.YtodeeegbajgafaaGreatDoor
