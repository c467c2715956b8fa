/- A scope is entered, and left. A scope is left. -/
import Derived.Test.YtodeeegbajgafaaGreatDoorQ10
import Derived.Deep.LoopGhost
namespace Go.Proofs.YtodeeegbajgafaaGreatDoor
open Go.RowKit

/-- The slice holds these names. -/
def RepN (ok : Nat → Prop) (w : World) (sl : Value) (ns : List Rd.Sym) : Prop :=
  (sl = .slice none 0 0 ∧ ns = []) ∨ ∃ g cap c T, sl = .slice (some ⟨g, 0, none⟩) ns.length cap ∧ ok g ∧ w.heap[g]? = some (.cells c T (0, 0)) ∧ ns.length ≤ cap ∧ ∀ i (h : i < ns.length), c[i]? = some (symV ns[i])

theorem RepN.mono {ok ok' : Nat → Prop} {w w' : World} {v : Value} {ns : List Rd.Sym} (h : RepN ok w v ns) (hk : ∀ k, k < w.heap.size → ok k → ok' k ∧ w'.heap[k]? = w.heap[k]?) : RepN ok' w' v ns := by
  rcases h with h | ⟨g, cap, c, T, h1, hg, hh, hn, hc⟩
  · exact Or.inl h
  · obtain ⟨k1, k2⟩ := hk g (lt_of_at hh) hg
    exact Or.inr ⟨g, cap, c, T, h1, k1, k2.trans hh, hn, hc⟩
theorem RepN.shape {ok : Nat → Prop} {w : World} {v : Value} {ns : List Rd.Sym} (h : RepN ok w v ns) : ∃ b cap, v = .slice b ns.length cap ∧ ns.length ≤ cap := by
  rcases h with ⟨rfl, rfl⟩ | ⟨g, cap, c, T, rfl, _, _, hn, _⟩
  · exact ⟨none, 0, rfl, Nat.le_refl _⟩
  · exact ⟨_, cap, rfl, hn⟩
theorem RepN.cell {ok : Nat → Prop} {w : World} {v : Value} {ns : List Rd.Sym} (h : RepN ok w v ns) (i : Nat) (hi : i < ns.length) : ∃ g cap, v = .slice (some ⟨g, 0, none⟩) ns.length cap ∧ ok g ∧ ns.length ≤ cap ∧ w.cell? ⟨g, i, none⟩ = some (symV ns[i]) := by
  rcases h with ⟨rfl, rfl⟩ | ⟨g, cap, c, T, rfl, hg, hh, hn, hc⟩
  · exact absurd hi (Nat.not_lt_zero _)
  · exact ⟨g, cap, rfl, hg, hn, (cell_of_at hh i).trans (hc i hi)⟩

/-- Names all different. -/
def Differ (ns : List Rd.Sym) : Prop := ∀ i j (hi : i < ns.length) (hj : j < ns.length), i < j → ns[i] ≠ ns[j]

theorem level_append (d : Nat) : ∀ (ns ms : List Rd.Sym) (i : Nat), level d (ns ++ ms) i = level d ns i ++ level d ms (i + ns.length)
  | [], ms, i => rfl
  | n :: ns, ms, i => by
    simp only [List.cons_append, level, level_append d ns ms (i + 1), List.length_cons]
    rw [show i + 1 + ns.length = i + (ns.length + 1) by omega]

theorem spotIx_level_none (d : Nat) (n : Rd.Sym) : ∀ (ns : List Rd.Sym) (i j : Nat), (∀ m ∈ ns, m ≠ n) → spotIx d n (level d ns i) j = none
  | [], _, _, _ => rfl
  | m :: ns, i, j, h => by
    have h1 : (n == m) = false := by
      have := h m (by simp)
      simpa using fun e => this e.symm
    simp only [level, spotIx, beq_self_eq_true, Bool.true_and, h1, Bool.false_eq_true, if_false]
    exact spotIx_level_none d n ns (i + 1) (j + 1) fun x hx => h x (by simp [hx])

/-- The slots of a scope that has been entered as far as its first k names. -/
def slotsTo (env : List (List Rd.Sym)) (ns : List Rd.Sym) (k : Nat) : List (Nat × List UInt8 × Nat) := slotsOf env ++ level (env.length + 1) (ns.take k) 0

theorem slotsTo_none (env : List (List Rd.Sym)) (ns : List Rd.Sym) (k : Nat) (hk : k < ns.length) (hd : Differ ns) : spotIx (env.length + 1) ns[k] (slotsTo env ns k) 0 = none := by
  unfold slotsTo
  rw [spotIx_append]
  rw [spotIx_none_of _ _ _ _ (fun x hx => by have := slots_depth env x hx; omega)]
  refine spotIx_level_none _ _ _ _ _ ?_
  intro m hm
  obtain ⟨i, hi, rfl⟩ := List.getElem_of_mem hm
  simp only [List.length_take] at hi
  rw [List.getElem_take]
  exact hd i k (by omega) hk (by omega)
theorem slotsTo_succ (env : List (List Rd.Sym)) (ns : List Rd.Sym) (k : Nat) (hk : k < ns.length) : slotsTo env ns k ++ [(env.length + 1, ns[k], k)] = slotsTo env ns (k + 1) := by
  unfold slotsTo
  rw [List.take_succ_eq_append_getElem hk, level_append, List.append_assoc]
  simp [level]
  omega

/-- The relation of the loop in enter. -/
structure Entering (pb sb kb : Nat) (env : List (List Rd.Sym)) (ns : List Rd.Sym) (w : World) (k : Nat) (wr : World) : Prop where
  blk : ∃ T, wr.heap[pb]? = some (.cells #[.map (some sb), .int .i64 ((env.length : Int) + 1), .map (some kb), .slice none 0 0] T (0, 0))
  slots : SlotsAt sb (slotsTo env ns k) wr
  rules : SymsAt kb ruleList wr
  kept : Kept (PM pb sb) w wr

set_option maxHeartbeats 1000000 in
set_option maxRecDepth 10000 in
theorem enter_any (pb sb kb : Nat) (env : List (List Rd.Sym)) (sl : Value) (ns : List Rd.Sym) (w : World) (hp : PAt pb sb kb env w) (he : env.length ≤ 100000) (hl : ns.length ≤ 100000) (hn : RepN (fun k => ¬ PM pb sb k) w sl ns) (hd : Differ ns) :
    Calls Tryz.prog 137 #[.pointer (some ⟨pb, 0, none⟩), sl] w fun e w' => e = .returned (.tuple #[]) ∧ PAt pb sb kb (ns :: env) w' ∧ Kept (PM pb sb) w w' := by
  obtain ⟨⟨T, h1⟩, hsl, hru, hap⟩ := id hp
  have c0 := cell_of_at h1 0
  have c1 := cell_of_at h1 1
  simp only [List.getElem?_toArray, List.getElem?_cons_zero, List.getElem?_cons_succ] at c0 c1
  have f1 := free_of_at h1 1
  obtain ⟨bb, cap, rfl, hcap⟩ := hn.shape
  have hE0 : Entering pb sb kb env ns w 0 (w.setCell ⟨pb, 1, none⟩ (.int .i64 ((env.length : Int) + 1))) := by
    refine ⟨⟨T, by rw [at_setCell h1 1 _]; simp⟩, ?_, ?_, ?_⟩
    · obtain ⟨es, c, h2, h3⟩ := hsl
      exact ⟨es, c, at_setCell_ne h2 _ (fun e => hap.1 e.symm) _, by rw [h3]; simp [slotsTo, level]⟩
    · obtain ⟨es, c, h2, h3⟩ := hru
      exact ⟨es, c, at_setCell_ne h2 _ (fun e => hap.2.1 e.symm) _, h3⟩
    · have h := Kept.refl (PM pb sb) w
      exact h.setCell (p := ⟨pb, 1, none⟩) (fun _ => Or.inl rfl) _
  clear h1 hsl hru
  go_enter Tryz.func137, Tryz.ntmps137
  go_wp2
  go_loopg [15] ns.length (fun k i wr => ∃ j : Nat, j + k = ns.length ∧ i = .int .i64 j ∧ Entering pb sb kb env ns w j wr)
  case atStart => exact ⟨0, by omega, rfl, hE0⟩
  case round =>
    obtain ⟨j, hj, rfl, hE⟩ := hrel
    obtain ⟨⟨T2, b2⟩, ⟨es, cl, hmb, hkv⟩, hru2, hk2⟩ := id hE
    have e0 := cell_of_at b2 0
    have e1 := cell_of_at b2 1
    simp only [List.getElem?_toArray, List.getElem?_cons_zero, List.getElem?_cons_succ] at e0 e1
    by_cases hlt : j < ns.length
    · have hnr := hn.mono (hk2.rep (ok := fun k => ¬ PM pb sb k) fun _ _ h => h)
      obtain ⟨g, cap', heq, _, hcap2, hcell⟩ := hnr.cell j hlt
      cases heq
      have hno := slotsTo_none env ns j hlt hd
      have hup := update_spot (w := wr.drew) hmb hkv (env.length + 1) ns[j] (.int .i64 j) hno
      simp only [spotV, symV] at hup hcell
      have ec : (((env.length + 1 : Nat) : Int)) = (env.length : Int) + 1 := by omega
      rw [ec] at hup
      have hnx : Entering pb sb kb env ns w (j + 1) (putObj wr.drew sb (.map (es.push { key := spotV (env.length + 1) ns[j], val := .int .i64 j, born := cl }) (cl + 1))) := by
        refine ⟨⟨T2, by rw [putObj_ne _ _ _ _ hap.1]; exact b2⟩, ?_, ?_, ?_⟩
        · have := SlotsAt.push (w := wr.drew) hmb hkv (env.length + 1) ns[j] j (cl + 1)
          rw [slotsTo_succ env ns j hlt] at this
          exact this
        · obtain ⟨fs, c, h2, h3⟩ := hru2
          exact ⟨fs, c, by rw [putObj_ne _ _ _ _ (fun e => hap.2.2 e.symm)]; exact h2, h3⟩
        · exact hk2.drew.trans ((putObj_kept _ _ _).mono fun k _ h => Or.inr h)
      simp only [spotV] at hnx
      rw [ec] at hnx
      clear hnr hno hmb hkv hru2 b2 hE hk2 hn hE0 hp
      go_wp2
      go_region
      all_goals
        go_wp2
        go_roundg (gk - 1)
        case measure => omega
        case rel => exact ⟨j + 1, by omega, by go_num, hnx⟩
    · have : j = ns.length := by omega
      subst this
      clear hn hE0 hp
      go_wp2
      go_end0
      refine ⟨rfl, ⟨⟨T2, ?_⟩, ?_, hru2, hap⟩, hk2⟩
      · rw [b2]; simp
      · refine ⟨es, cl, hmb, ?_⟩
        rw [hkv]
        simp [slotsTo, slotsOf]
end Go.Proofs.YtodeeegbajgafaaGreatDoor

namespace Go.Proofs.YtodeeegbajgafaaGreatDoor
open Go.RowKit

/-- The slots of a scope that has been left as far as its first k names. -/
def slotsFrom (env : List (List Rd.Sym)) (ns : List Rd.Sym) (k : Nat) : List (Nat × List UInt8 × Nat) := slotsOf env ++ level (env.length + 1) (ns.drop k) k

theorem slotsFrom_ix (env : List (List Rd.Sym)) (ns : List Rd.Sym) (k : Nat) (hk : k < ns.length) : spotIx (env.length + 1) ns[k] (slotsFrom env ns k) 0 = some ((slotsOf env).length, k) := by
  unfold slotsFrom
  rw [spotIx_append, spotIx_none_of _ _ _ _ (fun x hx => by have := slots_depth env x hx; omega), List.drop_eq_getElem_cons hk]
  simp [level, spotIx]
theorem slotsFrom_erase (env : List (List Rd.Sym)) (ns : List Rd.Sym) (k : Nat) (hk : k < ns.length) : (slotsFrom env ns k).eraseIdx (slotsOf env).length = slotsFrom env ns (k + 1) := by
  unfold slotsFrom
  rw [List.drop_eq_getElem_cons hk]
  simp only [level]
  rw [List.eraseIdx_append_of_length_le (Nat.le_refl _), Nat.sub_self, List.eraseIdx_cons_zero]

structure Leaving (pb sb kb : Nat) (env : List (List Rd.Sym)) (ns : List Rd.Sym) (w : World) (k : Nat) (wr : World) : Prop where
  blk : ∃ T, wr.heap[pb]? = some (.cells #[.map (some sb), .int .i64 ((env.length : Int) + 1), .map (some kb), .slice none 0 0] T (0, 0))
  slots : SlotsAt sb (slotsFrom env ns k) wr
  rules : SymsAt kb ruleList wr
  kept : Kept (PM pb sb) w wr

set_option maxHeartbeats 1000000 in
set_option maxRecDepth 10000 in
theorem leave_any (pb sb kb : Nat) (env : List (List Rd.Sym)) (sl : Value) (ns : List Rd.Sym) (w : World) (hp : PAt pb sb kb (ns :: env) w) (he : env.length ≤ 100000) (hl : ns.length ≤ 100000) (hn : RepN (fun k => ¬ PM pb sb k) w sl ns) :
    Calls Tryz.prog 138 #[.pointer (some ⟨pb, 0, none⟩), sl] w fun e w' => e = .returned (.tuple #[]) ∧ PAt pb sb kb env w' ∧ Kept (PM pb sb) w w' := by
  obtain ⟨⟨T, h1⟩, hsl, hru, hap⟩ := id hp
  obtain ⟨bb, cap, rfl, hcap⟩ := hn.shape
  have hE0 : Leaving pb sb kb env ns w 0 w := ⟨⟨T, by rw [h1]; simp⟩, by simpa [slotsFrom, slotsOf] using hsl, hru, Kept.refl _ _⟩
  clear h1 hsl hru
  go_enter Tryz.func138, Tryz.ntmps138
  go_wp2
  go_loopg [8] ns.length (fun k i wr => ∃ j : Nat, j + k = ns.length ∧ i = .int .i64 j ∧ Leaving pb sb kb env ns w j wr)
  case atStart => exact ⟨0, by omega, rfl, hE0⟩
  case round =>
    obtain ⟨j, hj, rfl, hE⟩ := hrel
    obtain ⟨⟨T2, b2⟩, ⟨es, cl, hmb, hkv⟩, hru2, hk2⟩ := id hE
    have e0 := cell_of_at b2 0
    have e1 := cell_of_at b2 1
    simp only [List.getElem?_toArray, List.getElem?_cons_zero, List.getElem?_cons_succ] at e0 e1
    have f1 := free_of_at b2 1
    by_cases hlt : j < ns.length
    · have hnr := hn.mono (hk2.rep (ok := fun k => ¬ PM pb sb k) fun _ _ h => h)
      obtain ⟨g, cap', heq, _, hcap2, hcell⟩ := hnr.cell j hlt
      cases heq
      have hno := slotsFrom_ix env ns j hlt
      have hup := fun ty => delete_spot (w := wr.drew) hmb hkv (env.length + 1) ns[j] ty _ _ hno
      simp only [spotV, symV] at hup hcell
      have ec : (((env.length + 1 : Nat) : Int)) = (env.length : Int) + 1 := by omega
      rw [ec] at hup
      have hnx : Leaving pb sb kb env ns w (j + 1) (putObj wr.drew sb (.map (es.eraseIdxIfInBounds (slotsOf env).length) cl)) := by
        refine ⟨⟨T2, by rw [putObj_ne _ _ _ _ hap.1]; exact b2⟩, ?_, ?_, ?_⟩
        · have := SlotsAt.erase (w := wr.drew) hmb hkv (slotsOf env).length
          rw [slotsFrom_erase env ns j hlt] at this
          exact this
        · obtain ⟨fs, c, h2, h3⟩ := hru2
          exact ⟨fs, c, by rw [putObj_ne _ _ _ _ (fun e => hap.2.2 e.symm)]; exact h2, h3⟩
        · exact hk2.drew.trans ((putObj_kept _ _ _).mono fun k _ h => Or.inr h)
      clear hnr hno hmb hkv hru2 b2 hE hk2 hn hE0 hp
      go_wp2
      go_region
      all_goals
        go_wp2
        go_roundg (gk - 1)
        case measure => omega
        case rel => exact ⟨j + 1, by omega, by go_num, hnx⟩
    · have : j = ns.length := by omega
      subst this
      have hkv2 : kvs es.toList = (slotsOf env).map spotKV := by rw [hkv]; simp [slotsFrom, level]
      clear hn hE0 hp
      go_wp2
      go_end0
      refine ⟨rfl, ⟨⟨T2, ?_⟩, ?_, ?_, hap⟩, ?_⟩
      · rw [at_setCell b2 1 _]; simp
      · exact ⟨es, cl, at_setCell_ne hmb _ (fun e => hap.1 e.symm) _, hkv2⟩
      · obtain ⟨fs, c, h2, h3⟩ := hru2
        exact ⟨fs, c, at_setCell_ne h2 _ (fun e => hap.2.1 e.symm) _, h3⟩
      · exact hk2.setCell (p := ⟨pb, 1, none⟩) (fun _ => Or.inl rfl) _
end Go.Proofs.YtodeeegbajgafaaGreatDoor
