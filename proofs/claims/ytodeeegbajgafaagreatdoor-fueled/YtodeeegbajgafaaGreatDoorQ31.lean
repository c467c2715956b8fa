/- A machine and a run in memory, where scopes change. Written by gen_km1.py. The run's small functions. Written by gen_km2.py. -/
import Derived.Test.YtodeeegbajgafaaGreatDoorQ30
import Derived.Test.YtodeeegbajgafaaGreatDoorQ19
namespace Go.Proofs.YtodeeegbajgafaaGreatDoor
namespace Kc
open Go.RowKit
/-- The block that slots lie in. -/
def slotBlk : Value → Option Nat
  | .slice (some a) _ _ => some a.block
  | _ => none
/-- The slots hold these values. -/
def SlotAt (t : Gt) (ok : Nat → Prop) (w : World) (s : Value) (vs : List V) : Prop := (s = .slice none 0 0 ∧ vs = []) ∨ ∃ (ga o cap : Nat) (c : Array Value) (T : TypeId) (vf : Nat → Value), s = .slice (some ⟨ga, o, none⟩) vs.length cap ∧ w.heap[ga]? = some (.cells c T (0, 0)) ∧ vs.length ≤ cap ∧ cap ≤ maxLen ∧ (∀ i, i < vs.length → c[o + i]? = some (vf i)) ∧ ∀ i (hi : i < vs.length), RepM t ok w (vf i) (.val vs[i])
theorem SlotAt.mono {t t' : Gt} {ok ok' : Nat → Prop} {w w' : World} {s : Value} {vs : List V} (h : SlotAt t ok w s vs) (hm : t'.m = t.m) (hsp : ∀ (i : Nat) (y : Value), t.sp[i]? = some y → t'.sp[i]? = some y) (hb : ∀ k, slotBlk s = some k → w'.heap[k]? = w.heap[k]?) (hk : ∀ k, k < w.heap.size → ok k → ok' k ∧ w'.heap[k]? = w.heap[k]?) : SlotAt t' ok' w' s vs := by
  rcases h with h | ⟨ga, o, cap, c, T, vf, h1, h2, h3, h4, h5, h6⟩
  · exact .inl h
  · exact .inr ⟨ga, o, cap, c, T, vf, h1, (hb ga (by rw [h1]; rfl)).trans h2, h3, h4, h5, fun i hi => (h6 i hi).monoT hm hsp hk⟩
theorem SlotAt.lt {t : Gt} {ok : Nat → Prop} {w : World} {s : Value} {vs : List V} (h : SlotAt t ok w s vs) {k : Nat} (hk : slotBlk s = some k) : k < w.heap.size := by
  rcases h with ⟨rfl, _⟩ | ⟨ga, o, cap, c, T, vf, rfl, h2, _⟩
  · cases hk
  · cases hk
    exact lt_of_at h2
/-- Where a machine lies: itself, the map, the values of names, what was shown, the slots of the scopes. -/
structure Gh where
  mb : Nat
  db : Nat
  xs : List Nat
  sh : Value
  sp : List Value
def Gh.tb (g : Gh) : Gt := ⟨g.mb, g.sp⟩
/-- What of it changes. -/
def Gh.mut (g : Gh) (k : Nat) : Prop := k = g.mb ∨ k = g.db ∨ k ∈ g.xs ∨ g.sh.ownBlock = some k ∨ ∃ s, s ∈ g.sp ∧ slotBlk s = some k
/-- Where things lie that don't change. -/
def Gh.ok (g : Gh) (N : Nat → Prop) (k : Nat) : Prop := ¬ N k ∧ ¬ g.mut k
/-- The todo lists beyond the resets. -/
def BeyAt (mb : Gt) (ok : Nat → Prop) (w : World) : Value → List (List Fr) → Prop
  | v, [] => v = .pointer none
  | v, t :: b => ∃ k x y T, v = ptrV k ∧ ok k ∧ w.heap[k]? = some (.cells #[x, y] T (0, 0)) ∧ RepM mb ok w x (.todo t) ∧ BeyAt mb ok w y b
theorem BeyAt.mono {mb : Gt} {ok ok' : Nat → Prop} {w w' : World} (hk : ∀ k, k < w.heap.size → ok k → ok' k ∧ w'.heap[k]? = w.heap[k]?) : ∀ {v : Value} {b : List (List Fr)}, BeyAt mb ok w v b → BeyAt mb ok' w' v b
  | _, [], h => h
  | _, _ :: _, h => by
    obtain ⟨k, x, y, T, h1, h2, h3, h4, h5⟩ := h
    obtain ⟨h6, h7⟩ := hk k (lt_of_at h3) h2
    exact ⟨k, x, y, T, h1, h6, h7.trans h3, h4.mono hk, BeyAt.mono hk h5⟩
theorem BeyAt.ptr {mb : Gt} {ok : Nat → Prop} {w : World} {v : Value} {b : List (List Fr)} (h : BeyAt mb ok w v b) : ∃ p, v = .pointer p := by
  cases b with
  | nil => exact ⟨_, h⟩
  | cons t b => obtain ⟨k, x, y, T, h1, _⟩ := h; exact ⟨_, h1⟩
/-- A machine that has these names and has shown this. -/
structure MachAt (N : Nat → Prop) (g : Gh) (G : List (Rd.Sym × V)) (sc : List (List V)) (shown : List (List UInt8)) (w : World) : Prop where
  mach : ∃ T, w.heap[g.mb]? = some (.cells #[.map (some g.db), g.sh] T (0, 0))
  glob : SymsAt g.db ((G.map (·.1)).zip (g.xs.map ptrV)) w
  len : g.xs.length = G.length
  boxes : ∀ i (hi : i < G.length), ∃ b x T, g.xs[i]? = some b ∧ w.heap[b]? = some (.cells #[x] T (0, 0)) ∧ RepM g.tb (g.ok N) w x (.val G[i].2)
  own : ∃ B, w.ownsRow B 9 1 g.sh shown.length (shown.map strV)
  apart : g.mb ≠ g.db ∧ g.mb ∉ g.xs ∧ g.db ∉ g.xs ∧ g.xs.Nodup
  apart' : ∀ k, g.sh.ownBlock = some k → k ≠ g.mb ∧ k ≠ g.db ∧ k ∉ g.xs
  scs : g.sp.length = sc.length ∧ ∀ (i : Nat) (s : Value) (vs : List V), g.sp[i]? = some s → sc[i]? = some vs → SlotAt g.tb (g.ok N) w s vs
  apartS : ∀ (i : Nat) (s : Value) (k : Nat), g.sp[i]? = some s → slotBlk s = some k → k ≠ g.mb ∧ k ≠ g.db ∧ k ∉ g.xs ∧ g.sh.ownBlock ≠ some k ∧ ∀ (j : Nat) (s' : Value), g.sp[j]? = some s' → slotBlk s' = some k → j = i
  low : ∀ k, N k → k < w.heap.size
  disj : ∀ k, g.mut k → ¬ N k
theorem Gh.low {N : Nat → Prop} {g : Gh} {G : List (Rd.Sym × V)} {sc : List (List V)} {shown : List (List UInt8)} {w : World} (h : MachAt N g G sc shown w) : ∀ k, g.mut k → k < w.heap.size := by
  intro k hk
  rcases hk with rfl | rfl | hk | hk | ⟨sv, hk, hk2⟩
  · obtain ⟨T, h1⟩ := h.mach; exact lt_of_at h1
  · obtain ⟨es, c, h1, _⟩ := h.glob; exact lt_of_at h1
  · obtain ⟨i, hi, rfl⟩ := List.getElem_of_mem hk
    obtain ⟨b, x, T, h1, h2, _⟩ := h.boxes i (by rw [← h.len]; exact hi)
    rw [List.getElem?_eq_getElem hi] at h1
    cases h1
    exact lt_of_at h2
  · obtain ⟨B, hB⟩ := h.own
    exact (ownBlock_of hB k hk).2
  · obtain ⟨i, hi, rfl⟩ := List.getElem_of_mem hk
    have hi2 : i < sc.length := by rw [← h.scs.1]; exact hi
    exact (h.scs.2 i _ _ (List.getElem?_eq_getElem hi) (List.getElem?_eq_getElem hi2)).lt hk2
/-- A machine is kept where its blocks are. -/
theorem MachAt.kept {N N' : Nat → Prop} {g : Gh} {G : List (Rd.Sym × V)} {sc : List (List V)} {shown : List (List UInt8)} {w w' : World} (h : MachAt N g G sc shown w) (hm : ∀ k, g.mut k → w'.heap[k]? = w.heap[k]?) (hk : ∀ k, k < w.heap.size → g.ok N k → g.ok N' k ∧ w'.heap[k]? = w.heap[k]?)
    (hl : ∀ k, N' k → k < w'.heap.size) (hd : ∀ k, g.mut k → ¬ N' k) : MachAt N' g G sc shown w' := by
  obtain ⟨⟨T, h1⟩, ⟨es, c, h2, h3⟩, h4, h5, ⟨B, h6⟩, h7, h8, ⟨s1, s2⟩, s3, h9, h10⟩ := h
  refine ⟨⟨T, (hm _ (Or.inl rfl)).trans h1⟩, ⟨es, c, (hm _ (Or.inr (Or.inl rfl))).trans h2, h3⟩, h4, ?_, ⟨B, ?_⟩, h7, h8, ⟨s1, ?_⟩, s3, hl, hd⟩
  · intro i hi
    obtain ⟨b, x, T, e1, e2, e3⟩ := h5 i hi
    exact ⟨b, x, T, e1, (hm _ (Or.inr (Or.inr (Or.inl (List.mem_of_getElem? e1))))).trans e2, e3.mono hk⟩
  · obtain ⟨a, b | ⟨gb, cap, cur, hv, hB, hh, r⟩⟩ := h6
    · exact ⟨a, Or.inl b⟩
    · exact ⟨a, Or.inr ⟨gb, cap, cur, hv, hB, (hm _ (Or.inr (Or.inr (Or.inr (Or.inl (by rw [hv]; rfl)))))).trans hh, r⟩⟩
  · intro i s vs e1 e2
    exact (s2 i s vs e1 e2).mono rfl (fun _ _ h => h) (fun k hk => hm k (Or.inr (Or.inr (Or.inr (Or.inr ⟨s, List.mem_of_getElem? e1, hk⟩))))) hk
/-- What the run goes on with. -/
def CtlAt (mb : Gt) (ok : Nat → Prop) (w : World) (vf va vv : Value) : Ctl → Prop
  | .ev f e => RepF ok w vf f ∧ RepM mb ok w va (.env e)
  | .val v => vf = .nilIface ∧ RepM mb ok w vv (.val v)
theorem CtlAt.mono {mb : Gt} {ok ok' : Nat → Prop} {w w' : World} {vf va vv : Value} {c : Ctl} (h : CtlAt mb ok w vf va vv c) (hk : ∀ k, k < w.heap.size → ok k → ok' k ∧ w'.heap[k]? = w.heap[k]?) : CtlAt mb ok' w' vf va vv c := by
  cases c with
  | ev f e => exact ⟨h.1.mono hk, h.2.mono hk⟩
  | val v => exact ⟨h.1, h.2.mono hk⟩
def runCells (mb fuel : Nat) (s : St) (vf va vv vt vb : Value) : Array Value := #[ptrV mb, .int .i64 fuel, .int .i64 s.steps, vf, va, vv, vt, vb, .int .i64 s.kind, .int .i64 s.why]
structure RunAt (N : Nat → Prop) (g : Gh) (rb fuel : Nat) (s : St) (w : World) : Prop where
  inN : N rb
  m : MachAt N g s.G s.sc s.shown w
  blk : ∃ T vf va vv vt vb, w.heap[rb]? = some (.cells (runCells g.mb fuel s vf va vv vt vb) T (0, 0)) ∧ CtlAt g.tb (g.ok N) w vf va vv s.ctl ∧ RepM g.tb (g.ok N) w vt (.todo s.todo) ∧ BeyAt g.tb (g.ok N) w vb s.beyond
  bound : s.steps ≤ fuel ∧ fuel ≤ 1000000000
/-- What a run writes. -/
def RM (g : Gh) (rb : Nat) (k : Nat) : Prop := k = rb ∨ g.mut k
/-- The run's block alone is written, and new ones are made: what then is the run. -/
theorem RunAt.upd {N : Nat → Prop} {g : Gh} {rb fuel : Nat} {s s' : St} {w w' : World} (h : RunAt N g rb fuel s w) (hs : w.heap.size ≤ w'.heap.size) (hw : ∀ k, k < w.heap.size → k ≠ rb → w'.heap[k]? = w.heap[k]?)
    (hG : s'.G = s.G ∧ (s'.sc, s'.shown) = (s.sc, s.shown)) (hb : ∃ T vf va vv vt vb, w'.heap[rb]? = some (.cells (runCells g.mb fuel s' vf va vv vt vb) T (0, 0)) ∧ CtlAt g.tb (g.ok N) w' vf va vv s'.ctl ∧ RepM g.tb (g.ok N) w' vt (.todo s'.todo) ∧ BeyAt g.tb (g.ok N) w' vb s'.beyond) (hst : s'.steps ≤ fuel) :
    RunAt N g rb fuel s' w' := by
  refine ⟨h.inN, ?_, hb, hst, h.bound.2⟩
  obtain ⟨hG1, hG2⟩ := hG
  simp only [Prod.mk.injEq] at hG2
  rw [hG1, hG2.1, hG2.2]
  have hne : ∀ k, ¬ N k → k ≠ rb := fun k hk e => hk (e ▸ h.inN)
  exact h.m.kept (fun k hk => hw k (Gh.low h.m k hk) (hne k (h.m.disj k hk))) (fun k hk ho => ⟨ho, hw k hk (hne k ho.1)⟩) (fun k hk => Nat.lt_of_lt_of_le (h.m.low k hk) hs) h.m.disj
/-- What lies in memory that doesn't change stays. -/
theorem RunAt.stays {N : Nat → Prop} {g : Gh} {rb fuel : Nat} {s : St} {w w' : World} (h : RunAt N g rb fuel s w) (hk : Kept (RM g rb) w w') : ∀ k, k < w.heap.size → g.ok N k → g.ok N k ∧ w'.heap[k]? = w.heap[k]? := by
  intro k hk' ho
  refine ⟨ho, hk.block k hk' ?_⟩
  intro e
  rcases e with rfl | e
  · exact ho.1 h.inN
  · exact ho.2 e
/-- The run goes on so, the machine where it was. -/
def RunK (N : Nat → Prop) (g : Gh) (rb fuel : Nat) (s' : St) (w : World) : Ending → World → Prop := fun e w' => e = .returned (.tuple #[]) ∧ RunAt N g rb fuel s' w' ∧ Kept (RM g rb) w w'
end Kc
end Go.Proofs.YtodeeegbajgafaaGreatDoor

namespace Go.Proofs.YtodeeegbajgafaaGreatDoor
namespace Kc
open Go.RowKit
theorem RunAt.lt {N : Nat → Prop} {g : Gh} {rb fuel : Nat} {s : St} {w : World} (h : RunAt N g rb fuel s w) : rb < w.heap.size := h.m.low rb h.inN
set_option maxHeartbeats 1000000 in
theorem evaluate_any (N : Nat → Prop) (g : Gh) (rb fuel : Nat) (s : St) (w : World) (h : RunAt N g rb fuel s w) (v a : Value) (f : Rd.F) (e : Env) (hv : RepF (g.ok N) w v f) (ha : RepM g.tb (g.ok N) w a (.env e)) :
    Calls Tryz.prog 110 #[ptrV rb, v, a] w (RunK N g rb fuel (s.eval f e) w) := by
  obtain ⟨T, vf, va, vv, vt, vb, hb, hc, ht, hy⟩ := h.blk
  obtain ⟨tv, xv, rfl⟩ := RepF.iface hv
  obtain ⟨p, rfl⟩ := RepM.ptr ha
  have c3 := cell_of_at hb 3
  have c4 := cell_of_at hb 4
  have f3 := free_of_at hb 3
  have f4 := free_of_at hb 4
  simp only [runCells, List.getElem?_toArray, List.getElem?_cons_zero, List.getElem?_cons_succ] at c3 c4
  have hne : ∀ k, g.ok N k → k ≠ rb := fun k hk e => hk.1 (e ▸ h.inN)
  have hw : ∀ k, k ≠ rb → ((w.setCell ⟨rb, 3, none⟩ (.iface tv xv)).setCell ⟨rb, 4, none⟩ (.pointer p)).heap[k]? = w.heap[k]? := fun k hk => by rw [Below.heap_setCell _ _ _ _ hk, Below.heap_setCell _ _ _ _ hk]
  have hst : ∀ k, k < w.heap.size → g.ok N k → g.ok N k ∧ ((w.setCell ⟨rb, 3, none⟩ (.iface tv xv)).setCell ⟨rb, 4, none⟩ (.pointer p)).heap[k]? = w.heap[k]? := fun k _ ho => ⟨ho, hw k (hne k ho)⟩
  have hR : RunAt N g rb fuel (s.eval f e) ((w.setCell ⟨rb, 3, none⟩ (.iface tv xv)).setCell ⟨rb, 4, none⟩ (.pointer p)) := by
    refine h.upd (by simp) (fun k _ hk => hw k hk) ⟨rfl, rfl⟩ ⟨T, .iface tv xv, .pointer p, vv, vt, vb, ?_, ⟨hv.mono hst, ha.mono hst⟩, ht.mono hst, hy.mono hst⟩ h.bound.1
    rw [at_setCell (at_setCell hb 3 _) 4 _]
    simp [runCells, St.eval]
  have hK : Kept (RM g rb) w ((w.setCell ⟨rb, 3, none⟩ (.iface tv xv)).setCell ⟨rb, 4, none⟩ (.pointer p)) := ((Kept.refl _ w).setCell (p := ⟨rb, 3, none⟩) (fun _ => Or.inl rfl) _).setCell (p := ⟨rb, 4, none⟩) (fun _ => Or.inl rfl) _
  clear h hb hc ht hy hv ha hne hw hst
  unfold ptrV
  go_enter Tryz.func110, Tryz.ntmps110
  go_wp2
  go_end0
  exact ⟨rfl, hR, hK⟩
set_option maxHeartbeats 1000000 in
theorem give_any (N : Nat → Prop) (g : Gh) (rb fuel : Nat) (s : St) (w : World) (h : RunAt N g rb fuel s w) (v : Value) (x : V) (hv : RepM g.tb (g.ok N) w v (.val x)) :
    Calls Tryz.prog 139 #[ptrV rb, v] w (RunK N g rb fuel (s.give x) w) := by
  obtain ⟨T, vf, va, vv, vt, vb, hb, hc, ht, hy⟩ := h.blk
  obtain ⟨tv, xv, rfl⟩ := RepM.iface hv
  have c3 := cell_of_at hb 3
  have c5 := cell_of_at hb 5
  have f3 := free_of_at hb 3
  have f5 := free_of_at hb 5
  simp only [runCells, List.getElem?_toArray, List.getElem?_cons_zero, List.getElem?_cons_succ] at c3 c5
  have hne : ∀ k, g.ok N k → k ≠ rb := fun k hk e => hk.1 (e ▸ h.inN)
  have hw : ∀ k, k ≠ rb → ((w.setCell ⟨rb, 3, none⟩ .nilIface).setCell ⟨rb, 5, none⟩ (.iface tv xv)).heap[k]? = w.heap[k]? := fun k hk => by rw [Below.heap_setCell _ _ _ _ hk, Below.heap_setCell _ _ _ _ hk]
  have hst : ∀ k, k < w.heap.size → g.ok N k → g.ok N k ∧ ((w.setCell ⟨rb, 3, none⟩ .nilIface).setCell ⟨rb, 5, none⟩ (.iface tv xv)).heap[k]? = w.heap[k]? := fun k _ ho => ⟨ho, hw k (hne k ho)⟩
  have hR : RunAt N g rb fuel (s.give x) ((w.setCell ⟨rb, 3, none⟩ .nilIface).setCell ⟨rb, 5, none⟩ (.iface tv xv)) := by
    refine h.upd (by simp) (fun k _ hk => hw k hk) ⟨rfl, rfl⟩ ⟨T, .nilIface, va, .iface tv xv, vt, vb, ?_, ⟨rfl, hv.mono hst⟩, ht.mono hst, hy.mono hst⟩ h.bound.1
    rw [at_setCell (at_setCell hb 3 _) 5 _]
    simp [runCells, St.give]
  have hK : Kept (RM g rb) w ((w.setCell ⟨rb, 3, none⟩ .nilIface).setCell ⟨rb, 5, none⟩ (.iface tv xv)) := ((Kept.refl _ w).setCell (p := ⟨rb, 3, none⟩) (fun _ => Or.inl rfl) _).setCell (p := ⟨rb, 5, none⟩) (fun _ => Or.inl rfl) _
  clear h hb hc ht hy hv hne hw hst
  unfold ptrV
  go_enter Tryz.func139, Tryz.ntmps139
  go_wp2
  go_end0
  exact ⟨rfl, hR, hK⟩
set_option maxHeartbeats 1000000 in
theorem fail_any (N : Nat → Prop) (g : Gh) (rb fuel : Nat) (s : St) (w : World) (h : RunAt N g rb fuel s w) (why : Nat) :
    Calls Tryz.prog 159 #[ptrV rb, .int .i64 why] w (RunK N g rb fuel (s.fail why) w) := by
  obtain ⟨T, vf, va, vv, vt, vb, hb, hc, ht, hy⟩ := h.blk
  have c8 := cell_of_at hb 8
  have c9 := cell_of_at hb 9
  have f8 := free_of_at hb 8
  have f9 := free_of_at hb 9
  simp only [runCells, List.getElem?_toArray, List.getElem?_cons_zero, List.getElem?_cons_succ] at c8 c9
  have hne : ∀ k, g.ok N k → k ≠ rb := fun k hk e => hk.1 (e ▸ h.inN)
  have hw : ∀ k, k ≠ rb → ((w.setCell ⟨rb, 8, none⟩ (.int .i64 2)).setCell ⟨rb, 9, none⟩ (.int .i64 why)).heap[k]? = w.heap[k]? := fun k hk => by rw [Below.heap_setCell _ _ _ _ hk, Below.heap_setCell _ _ _ _ hk]
  have hst : ∀ k, k < w.heap.size → g.ok N k → g.ok N k ∧ ((w.setCell ⟨rb, 8, none⟩ (.int .i64 2)).setCell ⟨rb, 9, none⟩ (.int .i64 why)).heap[k]? = w.heap[k]? := fun k _ ho => ⟨ho, hw k (hne k ho)⟩
  have hR : RunAt N g rb fuel (s.fail why) ((w.setCell ⟨rb, 8, none⟩ (.int .i64 2)).setCell ⟨rb, 9, none⟩ (.int .i64 why)) := by
    refine h.upd (by simp) (fun k _ hk => hw k hk) ⟨rfl, rfl⟩ ⟨T, vf, va, vv, vt, vb, ?_, hc.mono hst, ht.mono hst, hy.mono hst⟩ h.bound.1
    rw [at_setCell (at_setCell hb 8 _) 9 _]
    simp [runCells, St.fail]
  have hK : Kept (RM g rb) w ((w.setCell ⟨rb, 8, none⟩ (.int .i64 2)).setCell ⟨rb, 9, none⟩ (.int .i64 why)) := ((Kept.refl _ w).setCell (p := ⟨rb, 8, none⟩) (fun _ => Or.inl rfl) _).setCell (p := ⟨rb, 9, none⟩) (fun _ => Or.inl rfl) _
  clear h hb hc ht hy hne hw hst
  unfold ptrV
  go_enter Tryz.func159, Tryz.ntmps159
  go_wp2
  go_end0
  exact ⟨rfl, hR, hK⟩
theorem Gh.ok_new {N : Nat → Prop} {g : Gh} {G : List (Rd.Sym × V)} {sc : List (List V)} {shown : List (List UInt8)} {w : World} (h : MachAt N g G sc shown w) (k : Nat) (hk : w.heap.size ≤ k) : g.ok N k :=
  ⟨fun e => by have := h.low k e; omega, fun e => by have := Gh.low h k e; omega⟩
set_option maxHeartbeats 1000000 in
theorem then_any (N : Nat → Prop) (g : Gh) (rb fuel : Nat) (s : St) (w : World) (h : RunAt N g rb fuel s w) (k : Nat) (bs : List Nat) (f : Fr) (hf : RepM g.tb (g.ok N) w (capFn k bs) (.fr f)) :
    Calls Tryz.prog 160 #[ptrV rb, capFn k bs] w (RunK N g rb fuel (s.push f) w) := by
  obtain ⟨T, vf, va, vv, vt, vb, hb, hc, ht, hy⟩ := h.blk
  obtain ⟨p, rfl⟩ := RepM.ptr' ht
  have c6 := cell_of_at hb 6
  have f6 := free_of_at hb 6
  simp only [runCells, List.getElem?_toArray, List.getElem?_cons_zero, List.getElem?_cons_succ] at c6
  have hlt := h.lt
  have hne : ∀ k, g.ok N k → k ≠ rb := fun k hk e => hk.1 (e ▸ h.inN)
  have hw : ∀ j, j < w.heap.size → j ≠ rb → ((w.setCell ⟨rb, 6, none⟩ (ptrV w.heap.size)).alloc (.cells #[capFn k bs, .pointer p] 194)).heap[j]? = w.heap[j]? := fun j hj hk => by rw [Below.heap_alloc _ _ _ (by simpa using hj), Below.heap_setCell _ _ _ _ hk]
  have hst : ∀ j, j < w.heap.size → g.ok N j → g.ok N j ∧ ((w.setCell ⟨rb, 6, none⟩ (ptrV w.heap.size)).alloc (.cells #[capFn k bs, .pointer p] 194)).heap[j]? = w.heap[j]? := fun j hj ho => ⟨ho, hw j hj (hne j ho)⟩
  have hnew := Gh.ok_new h.m w.heap.size (Nat.le_refl _)
  have hR : RunAt N g rb fuel (s.push f) ((w.setCell ⟨rb, 6, none⟩ (ptrV w.heap.size)).alloc (.cells #[capFn k bs, .pointer p] 194)) := by
    refine h.upd (by simp) hw ⟨rfl, rfl⟩ ⟨T, vf, va, vv, ptrV w.heap.size, vb, ?_, hc.mono hst, ?_, hy.mono hst⟩ h.bound.1
    · rw [at_alloc (at_setCell hb 6 _) _]
      simp [runCells, St.push]
    · exact .todo1 w.heap.size _ _ 194 f s.todo hnew (by simpa using at_new (w.setCell ⟨rb, 6, none⟩ (ptrV w.heap.size)) (.cells #[capFn k bs, .pointer p] 194)) (hf.mono hst) (ht.mono hst)
  have hK : Kept (RM g rb) w ((w.setCell ⟨rb, 6, none⟩ (ptrV w.heap.size)).alloc (.cells #[capFn k bs, .pointer p] 194)) := ((Kept.refl _ w).setCell (p := ⟨rb, 6, none⟩) (fun _ => Or.inl rfl) _).alloc _
  clear h hb hc ht hy hf hne hw hst
  unfold capFn ptrV at *
  go_enter Tryz.func160, Tryz.ntmps160
  go_wp2
  go_end0
  exact ⟨rfl, hR, hK⟩
end Kc
end Go.Proofs.YtodeeegbajgafaaGreatDoor
