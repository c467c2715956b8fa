/- A machine and a run in memory. The run's small functions. Methods that are promoted from an Arity. -/
import Derived.Test.YtodeeegbajgafaaGreatDoorQ12
import Derived.Test.YtodeeegbajgafaaGreatDoorQ05
import Derived.Test.YtodeeegbajgafaaGreatDoorQ15
import Derived.Test.YtodeeegbajgafaaGreatDoorQ18
import Derived.Deep.DeepFit
namespace Go.Proofs.YtodeeegbajgafaaGreatDoor
open Go.RowKit
open Mc

def strV (t : List UInt8) : Value := .string ⟨t.toArray⟩

/-- Where a machine lies: itself, the map, the values of names, what was shown. -/
structure Gh where
  mb : Nat
  db : Nat
  xs : List Nat
  sh : Value
/-- What of it changes. -/
def Gh.mut (g : Gh) (k : Nat) : Prop := k = g.mb ∨ k = g.db ∨ k ∈ g.xs ∨ g.sh.ownBlock = some k
/-- Where things lie that don't change. -/
def Gh.ok (g : Gh) (N : Nat → Prop) (k : Nat) : Prop := ¬ N k ∧ ¬ g.mut k

/-- The todo lists beyond the resets. -/
def BeyAt (mb : Nat) (ok : Nat → Prop) (w : World) : Value → List (List Fr) → Prop
  | v, [] => v = .pointer none
  | v, t :: b => ∃ k x y T, v = ptrV k ∧ ok k ∧ w.heap[k]? = some (.cells #[x, y] T (0, 0)) ∧ RepM mb ok w x (.todo t) ∧ BeyAt mb ok w y b

theorem BeyAt.mono {mb : Nat} {ok ok' : Nat → Prop} {w w' : World} (hk : ∀ k, k < w.heap.size → ok k → ok' k ∧ w'.heap[k]? = w.heap[k]?) : ∀ {v : Value} {b : List (List Fr)}, BeyAt mb ok w v b → BeyAt mb ok' w' v b
  | _, [], h => h
  | _, _ :: _, h => by
    obtain ⟨k, x, y, T, h1, h2, h3, h4, h5⟩ := h
    obtain ⟨h6, h7⟩ := hk k (lt_of_at h3) h2
    exact ⟨k, x, y, T, h1, h6, h7.trans h3, h4.mono hk, BeyAt.mono hk h5⟩
theorem BeyAt.ptr {mb : Nat} {ok : Nat → Prop} {w : World} {v : Value} {b : List (List Fr)} (h : BeyAt mb ok w v b) : ∃ p, v = .pointer p := by
  cases b with
  | nil => exact ⟨_, h⟩
  | cons t b => obtain ⟨k, x, y, T, h1, _⟩ := h; exact ⟨_, h1⟩

/-- A machine that has these names and has shown this. -/
structure MachAt (N : Nat → Prop) (g : Gh) (G : List (Rd.Sym × V)) (shown : List (List UInt8)) (w : World) : Prop where
  mach : ∃ T, w.heap[g.mb]? = some (.cells #[.map (some g.db), g.sh] T (0, 0))
  glob : SymsAt g.db ((G.map (·.1)).zip (g.xs.map ptrV)) w
  len : g.xs.length = G.length
  boxes : ∀ i (hi : i < G.length), ∃ b x T, g.xs[i]? = some b ∧ w.heap[b]? = some (.cells #[x] T (0, 0)) ∧ RepM g.mb (g.ok N) w x (.val G[i].2)
  own : ∃ B, w.ownsRow B 9 1 g.sh shown.length (shown.map strV)
  apart : g.mb ≠ g.db ∧ g.mb ∉ g.xs ∧ g.db ∉ g.xs ∧ g.xs.Nodup
  apart' : ∀ k, g.sh.ownBlock = some k → k ≠ g.mb ∧ k ≠ g.db ∧ k ∉ g.xs
  low : ∀ k, N k → k < w.heap.size
  disj : ∀ k, g.mut k → ¬ N k

theorem Gh.low {N : Nat → Prop} {g : Gh} {G : List (Rd.Sym × V)} {shown : List (List UInt8)} {w : World} (h : MachAt N g G shown w) : ∀ k, g.mut k → k < w.heap.size := by
  intro k hk
  rcases hk with rfl | rfl | hk | hk
  · obtain ⟨T, h1⟩ := h.mach; exact lt_of_at h1
  · obtain ⟨es, c, h1, _⟩ := h.glob; exact lt_of_at h1
  · obtain ⟨i, hi, rfl⟩ := List.getElem_of_mem hk
    obtain ⟨b, x, T, h1, h2, _⟩ := h.boxes i (by rw [← h.len]; exact hi)
    rw [List.getElem?_eq_getElem hi] at h1
    cases h1
    exact lt_of_at h2
  · obtain ⟨B, hB⟩ := h.own
    exact (ownBlock_of hB k hk).2

/-- A machine is kept where its blocks are. -/
theorem MachAt.kept {N N' : Nat → Prop} {g : Gh} {G : List (Rd.Sym × V)} {shown : List (List UInt8)} {w w' : World} (h : MachAt N g G shown w) (hm : ∀ k, g.mut k → w'.heap[k]? = w.heap[k]?) (hk : ∀ k, k < w.heap.size → g.ok N k → g.ok N' k ∧ w'.heap[k]? = w.heap[k]?)
    (hl : ∀ k, N' k → k < w'.heap.size) (hd : ∀ k, g.mut k → ¬ N' k) : MachAt N' g G shown w' := by
  obtain ⟨⟨T, h1⟩, ⟨es, c, h2, h3⟩, h4, h5, ⟨B, h6⟩, h7, h8, h9, h10⟩ := h
  refine ⟨⟨T, (hm _ (Or.inl rfl)).trans h1⟩, ⟨es, c, (hm _ (Or.inr (Or.inl rfl))).trans h2, h3⟩, h4, ?_, ⟨B, ?_⟩, h7, h8, hl, hd⟩
  · intro i hi
    obtain ⟨b, x, T, e1, e2, e3⟩ := h5 i hi
    exact ⟨b, x, T, e1, (hm _ (Or.inr (Or.inr (Or.inl (List.mem_of_getElem? e1))))).trans e2, e3.mono hk⟩
  · obtain ⟨a, b | ⟨gb, cap, cur, hv, hB, hh, r⟩⟩ := h6
    · exact ⟨a, Or.inl b⟩
    · exact ⟨a, Or.inr ⟨gb, cap, cur, hv, hB, (hm _ (Or.inr (Or.inr (Or.inr (by rw [hv]; rfl))))).trans hh, r⟩⟩

/-- What the run goes on with. -/
def CtlAt (mb : Nat) (ok : Nat → Prop) (w : World) (vf va vv : Value) : Ctl → Prop
  | .ev f e => RepF ok w vf f ∧ RepM mb ok w va (.env e)
  | .val v => vf = .nilIface ∧ RepM mb ok w vv (.val v)
theorem CtlAt.mono {mb : Nat} {ok ok' : Nat → Prop} {w w' : World} {vf va vv : Value} {c : Ctl} (h : CtlAt mb ok w vf va vv c) (hk : ∀ k, k < w.heap.size → ok k → ok' k ∧ w'.heap[k]? = w.heap[k]?) : CtlAt mb ok' w' vf va vv c := by
  cases c with
  | ev f e => exact ⟨h.1.mono hk, h.2.mono hk⟩
  | val v => exact ⟨h.1, h.2.mono hk⟩

def runCells (mb fuel : Nat) (s : St) (vf va vv vt vb : Value) : Array Value := #[ptrV mb, .int .i64 fuel, .int .i64 s.steps, vf, va, vv, vt, vb, .int .i64 s.kind, .int .i64 s.why]

structure RunAt (N : Nat → Prop) (g : Gh) (rb fuel : Nat) (s : St) (w : World) : Prop where
  inN : N rb
  m : MachAt N g s.G s.shown w
  blk : ∃ T vf va vv vt vb, w.heap[rb]? = some (.cells (runCells g.mb fuel s vf va vv vt vb) T (0, 0)) ∧ CtlAt g.mb (g.ok N) w vf va vv s.ctl ∧ RepM g.mb (g.ok N) w vt (.todo s.todo) ∧ BeyAt g.mb (g.ok N) w vb s.beyond
  bound : s.steps ≤ fuel ∧ fuel ≤ 1000000000

/-- What a run writes. -/
def RM (g : Gh) (rb : Nat) (k : Nat) : Prop := k = rb ∨ g.mut k

/-- The run's block alone is written, and new ones are made: what then is the run. -/
theorem RunAt.upd {N : Nat → Prop} {g : Gh} {rb fuel : Nat} {s s' : St} {w w' : World} (h : RunAt N g rb fuel s w) (hs : w.heap.size ≤ w'.heap.size) (hw : ∀ k, k < w.heap.size → k ≠ rb → w'.heap[k]? = w.heap[k]?)
    (hG : s'.G = s.G ∧ s'.shown = s.shown) (hb : ∃ T vf va vv vt vb, w'.heap[rb]? = some (.cells (runCells g.mb fuel s' vf va vv vt vb) T (0, 0)) ∧ CtlAt g.mb (g.ok N) w' vf va vv s'.ctl ∧ RepM g.mb (g.ok N) w' vt (.todo s'.todo) ∧ BeyAt g.mb (g.ok N) w' vb s'.beyond) (hst : s'.steps ≤ fuel) :
    RunAt N g rb fuel s' w' := by
  refine ⟨h.inN, ?_, hb, hst, h.bound.2⟩
  rw [hG.1, hG.2]
  have hne : ∀ k, ¬ N k → k ≠ rb := fun k hk e => hk (e ▸ h.inN)
  exact h.m.kept (fun k hk => hw k (Gh.low h.m k hk) (hne k (h.m.disj k hk))) (fun k hk ho => ⟨ho, hw k hk (hne k ho.1)⟩) (fun k hk => Nat.lt_of_lt_of_le (h.m.low k hk) hs) h.m.disj

/-- What lies in memory that doesn't change stays. -/
theorem RunAt.stays {N : Nat → Prop} {g : Gh} {rb fuel : Nat} {s : St} {w w' : World} (h : RunAt N g rb fuel s w) (hk : Kept (RM g rb) w w') : ∀ k, k < w.heap.size → g.ok N k → g.ok N k ∧ w'.heap[k]? = w.heap[k]? := by
  intro k hk' ho
  refine ⟨ho, hk.block k hk' ?_⟩
  intro e
  rcases e with rfl | e
  · exact ho.1 h.inN
  · exact ho.2 e

/-- The run goes on so, the machine where it was. -/
def RunK (N : Nat → Prop) (g : Gh) (rb fuel : Nat) (s' : St) (w : World) : Ending → World → Prop := fun e w' => e = .returned (.tuple #[]) ∧ RunAt N g rb fuel s' w' ∧ Kept (RM g rb) w w'
end Go.Proofs.YtodeeegbajgafaaGreatDoor

namespace Go.Proofs.YtodeeegbajgafaaGreatDoor
open Go.RowKit
open Mc

theorem RunAt.lt {N : Nat → Prop} {g : Gh} {rb fuel : Nat} {s : St} {w : World} (h : RunAt N g rb fuel s w) : rb < w.heap.size := h.m.low rb h.inN

set_option maxHeartbeats 1000000 in
theorem evaluate_any (N : Nat → Prop) (g : Gh) (rb fuel : Nat) (s : St) (w : World) (h : RunAt N g rb fuel s w) (v a : Value) (f : Rd.F) (e : Env) (hv : RepF (g.ok N) w v f) (ha : RepM g.mb (g.ok N) w a (.env e)) :
    Calls Tryz.prog 110 #[ptrV rb, v, a] w (RunK N g rb fuel (s.eval f e) w) := by
  obtain ⟨T, vf, va, vv, vt, vb, hb, hc, ht, hy⟩ := h.blk
  obtain ⟨tv, xv, rfl⟩ := RepF.iface hv
  obtain ⟨p, rfl⟩ := RepM.ptr ha
  have c3 := cell_of_at hb 3
  have c4 := cell_of_at hb 4
  have f3 := free_of_at hb 3
  have f4 := free_of_at hb 4
  simp only [runCells, List.getElem?_toArray, List.getElem?_cons_zero, List.getElem?_cons_succ] at c3 c4
  have hne : ∀ k, g.ok N k → k ≠ rb := fun k hk e => hk.1 (e ▸ h.inN)
  have hw : ∀ k, k ≠ rb → ((w.setCell ⟨rb, 3, none⟩ (.iface tv xv)).setCell ⟨rb, 4, none⟩ (.pointer p)).heap[k]? = w.heap[k]? := fun k hk => by rw [Below.heap_setCell _ _ _ _ hk, Below.heap_setCell _ _ _ _ hk]
  have hst : ∀ k, k < w.heap.size → g.ok N k → g.ok N k ∧ ((w.setCell ⟨rb, 3, none⟩ (.iface tv xv)).setCell ⟨rb, 4, none⟩ (.pointer p)).heap[k]? = w.heap[k]? := fun k _ ho => ⟨ho, hw k (hne k ho)⟩
  have hR : RunAt N g rb fuel (s.eval f e) ((w.setCell ⟨rb, 3, none⟩ (.iface tv xv)).setCell ⟨rb, 4, none⟩ (.pointer p)) := by
    refine h.upd (by simp) (fun k _ hk => hw k hk) ⟨rfl, rfl⟩ ⟨T, .iface tv xv, .pointer p, vv, vt, vb, ?_, ⟨hv.mono hst, ha.mono hst⟩, ht.mono hst, hy.mono hst⟩ h.bound.1
    rw [at_setCell (at_setCell hb 3 _) 4 _]
    simp [runCells, St.eval]
  have hK : Kept (RM g rb) w ((w.setCell ⟨rb, 3, none⟩ (.iface tv xv)).setCell ⟨rb, 4, none⟩ (.pointer p)) := ((Kept.refl _ w).setCell (p := ⟨rb, 3, none⟩) (fun _ => Or.inl rfl) _).setCell (p := ⟨rb, 4, none⟩) (fun _ => Or.inl rfl) _
  clear h hb hc ht hy hv ha hne hw hst
  unfold ptrV
  go_enter Tryz.func110, Tryz.ntmps110
  go_wp2
  go_end0
  exact ⟨rfl, hR, hK⟩

set_option maxHeartbeats 1000000 in
theorem give_any (N : Nat → Prop) (g : Gh) (rb fuel : Nat) (s : St) (w : World) (h : RunAt N g rb fuel s w) (v : Value) (x : V) (hv : RepM g.mb (g.ok N) w v (.val x)) :
    Calls Tryz.prog 139 #[ptrV rb, v] w (RunK N g rb fuel (s.give x) w) := by
  obtain ⟨T, vf, va, vv, vt, vb, hb, hc, ht, hy⟩ := h.blk
  obtain ⟨tv, xv, rfl⟩ := RepM.iface hv
  have c3 := cell_of_at hb 3
  have c5 := cell_of_at hb 5
  have f3 := free_of_at hb 3
  have f5 := free_of_at hb 5
  simp only [runCells, List.getElem?_toArray, List.getElem?_cons_zero, List.getElem?_cons_succ] at c3 c5
  have hne : ∀ k, g.ok N k → k ≠ rb := fun k hk e => hk.1 (e ▸ h.inN)
  have hw : ∀ k, k ≠ rb → ((w.setCell ⟨rb, 3, none⟩ .nilIface).setCell ⟨rb, 5, none⟩ (.iface tv xv)).heap[k]? = w.heap[k]? := fun k hk => by rw [Below.heap_setCell _ _ _ _ hk, Below.heap_setCell _ _ _ _ hk]
  have hst : ∀ k, k < w.heap.size → g.ok N k → g.ok N k ∧ ((w.setCell ⟨rb, 3, none⟩ .nilIface).setCell ⟨rb, 5, none⟩ (.iface tv xv)).heap[k]? = w.heap[k]? := fun k _ ho => ⟨ho, hw k (hne k ho)⟩
  have hR : RunAt N g rb fuel (s.give x) ((w.setCell ⟨rb, 3, none⟩ .nilIface).setCell ⟨rb, 5, none⟩ (.iface tv xv)) := by
    refine h.upd (by simp) (fun k _ hk => hw k hk) ⟨rfl, rfl⟩ ⟨T, .nilIface, va, .iface tv xv, vt, vb, ?_, ⟨rfl, hv.mono hst⟩, ht.mono hst, hy.mono hst⟩ h.bound.1
    rw [at_setCell (at_setCell hb 3 _) 5 _]
    simp [runCells, St.give]
  have hK : Kept (RM g rb) w ((w.setCell ⟨rb, 3, none⟩ .nilIface).setCell ⟨rb, 5, none⟩ (.iface tv xv)) := ((Kept.refl _ w).setCell (p := ⟨rb, 3, none⟩) (fun _ => Or.inl rfl) _).setCell (p := ⟨rb, 5, none⟩) (fun _ => Or.inl rfl) _
  clear h hb hc ht hy hv hne hw hst
  unfold ptrV
  go_enter Tryz.func139, Tryz.ntmps139
  go_wp2
  go_end0
  exact ⟨rfl, hR, hK⟩

set_option maxHeartbeats 1000000 in
theorem fail_any (N : Nat → Prop) (g : Gh) (rb fuel : Nat) (s : St) (w : World) (h : RunAt N g rb fuel s w) (why : Nat) :
    Calls Tryz.prog 159 #[ptrV rb, .int .i64 why] w (RunK N g rb fuel (s.fail why) w) := by
  obtain ⟨T, vf, va, vv, vt, vb, hb, hc, ht, hy⟩ := h.blk
  have c8 := cell_of_at hb 8
  have c9 := cell_of_at hb 9
  have f8 := free_of_at hb 8
  have f9 := free_of_at hb 9
  simp only [runCells, List.getElem?_toArray, List.getElem?_cons_zero, List.getElem?_cons_succ] at c8 c9
  have hne : ∀ k, g.ok N k → k ≠ rb := fun k hk e => hk.1 (e ▸ h.inN)
  have hw : ∀ k, k ≠ rb → ((w.setCell ⟨rb, 8, none⟩ (.int .i64 2)).setCell ⟨rb, 9, none⟩ (.int .i64 why)).heap[k]? = w.heap[k]? := fun k hk => by rw [Below.heap_setCell _ _ _ _ hk, Below.heap_setCell _ _ _ _ hk]
  have hst : ∀ k, k < w.heap.size → g.ok N k → g.ok N k ∧ ((w.setCell ⟨rb, 8, none⟩ (.int .i64 2)).setCell ⟨rb, 9, none⟩ (.int .i64 why)).heap[k]? = w.heap[k]? := fun k _ ho => ⟨ho, hw k (hne k ho)⟩
  have hR : RunAt N g rb fuel (s.fail why) ((w.setCell ⟨rb, 8, none⟩ (.int .i64 2)).setCell ⟨rb, 9, none⟩ (.int .i64 why)) := by
    refine h.upd (by simp) (fun k _ hk => hw k hk) ⟨rfl, rfl⟩ ⟨T, vf, va, vv, vt, vb, ?_, hc.mono hst, ht.mono hst, hy.mono hst⟩ h.bound.1
    rw [at_setCell (at_setCell hb 8 _) 9 _]
    simp [runCells, St.fail]
  have hK : Kept (RM g rb) w ((w.setCell ⟨rb, 8, none⟩ (.int .i64 2)).setCell ⟨rb, 9, none⟩ (.int .i64 why)) := ((Kept.refl _ w).setCell (p := ⟨rb, 8, none⟩) (fun _ => Or.inl rfl) _).setCell (p := ⟨rb, 9, none⟩) (fun _ => Or.inl rfl) _
  clear h hb hc ht hy hne hw hst
  unfold ptrV
  go_enter Tryz.func159, Tryz.ntmps159
  go_wp2
  go_end0
  exact ⟨rfl, hR, hK⟩

theorem Gh.ok_new {N : Nat → Prop} {g : Gh} {G : List (Rd.Sym × V)} {shown : List (List UInt8)} {w : World} (h : MachAt N g G shown w) (k : Nat) (hk : w.heap.size ≤ k) : g.ok N k :=
  ⟨fun e => by have := h.low k e; omega, fun e => by have := Gh.low h k e; omega⟩

set_option maxHeartbeats 1000000 in
theorem then_any (N : Nat → Prop) (g : Gh) (rb fuel : Nat) (s : St) (w : World) (h : RunAt N g rb fuel s w) (k : Nat) (bs : List Nat) (f : Fr) (hf : RepM g.mb (g.ok N) w (capFn k bs) (.fr f)) :
    Calls Tryz.prog 160 #[ptrV rb, capFn k bs] w (RunK N g rb fuel (s.push f) w) := by
  obtain ⟨T, vf, va, vv, vt, vb, hb, hc, ht, hy⟩ := h.blk
  obtain ⟨p, rfl⟩ := RepM.ptr' ht
  have c6 := cell_of_at hb 6
  have f6 := free_of_at hb 6
  simp only [runCells, List.getElem?_toArray, List.getElem?_cons_zero, List.getElem?_cons_succ] at c6
  have hlt := h.lt
  have hne : ∀ k, g.ok N k → k ≠ rb := fun k hk e => hk.1 (e ▸ h.inN)
  have hw : ∀ j, j < w.heap.size → j ≠ rb → ((w.setCell ⟨rb, 6, none⟩ (ptrV w.heap.size)).alloc (.cells #[capFn k bs, .pointer p] 194)).heap[j]? = w.heap[j]? := fun j hj hk => by rw [Below.heap_alloc _ _ _ (by simpa using hj), Below.heap_setCell _ _ _ _ hk]
  have hst : ∀ j, j < w.heap.size → g.ok N j → g.ok N j ∧ ((w.setCell ⟨rb, 6, none⟩ (ptrV w.heap.size)).alloc (.cells #[capFn k bs, .pointer p] 194)).heap[j]? = w.heap[j]? := fun j hj ho => ⟨ho, hw j hj (hne j ho)⟩
  have hnew := Gh.ok_new h.m w.heap.size (Nat.le_refl _)
  have hR : RunAt N g rb fuel (s.push f) ((w.setCell ⟨rb, 6, none⟩ (ptrV w.heap.size)).alloc (.cells #[capFn k bs, .pointer p] 194)) := by
    refine h.upd (by simp) hw ⟨rfl, rfl⟩ ⟨T, vf, va, vv, ptrV w.heap.size, vb, ?_, hc.mono hst, ?_, hy.mono hst⟩ h.bound.1
    · rw [at_alloc (at_setCell hb 6 _) _]
      simp [runCells, St.push]
    · exact .todo1 w.heap.size _ _ 194 f s.todo hnew (by simpa using at_new (w.setCell ⟨rb, 6, none⟩ (ptrV w.heap.size)) (.cells #[capFn k bs, .pointer p] 194)) (hf.mono hst) (ht.mono hst)
  have hK : Kept (RM g rb) w ((w.setCell ⟨rb, 6, none⟩ (ptrV w.heap.size)).alloc (.cells #[capFn k bs, .pointer p] 194)) := ((Kept.refl _ w).setCell (p := ⟨rb, 6, none⟩) (fun _ => Or.inl rfl) _).alloc _
  clear h hb hc ht hy hf hne hw hst
  unfold capFn ptrV at *
  go_enter Tryz.func160, Tryz.ntmps160
  go_wp2
  go_end0
  exact ⟨rfl, hR, hK⟩
end Go.Proofs.YtodeeegbajgafaaGreatDoor

namespace Go.Proofs.YtodeeegbajgafaaGreatDoor
open Go.RowKit
theorem load114 (b : Nat) (l m : Value) (w : World) (h0 : w.cell? ⟨b, 0, none⟩ = some l) (h1 : w.cell? ⟨b, 1, none⟩ = some m) : (loadVar 114 ⟨b, 0, none⟩).run Tryz.prog w = .ok (.agg #[l, m]) w := by
  simp [loadVar, go_sem, Tryz.isAgg114, Tryz.sizeOf114, loadCells, h0, h1]
theorem meth258 (b : Nat) (l m : Value) (w : World) (h0 : w.cell? ⟨b, 0, none⟩ = some l) (h1 : w.cell? ⟨b, 1, none⟩ = some m) : Sem.run Tryz.prog (method 400 258 (.pointer (some ⟨b, 0, none⟩)) "Takes") w = .ok (205, .agg #[l, m]) w := by
  have h : Sem.run Tryz.prog (method 400 258 (.pointer (some ⟨b, 0, none⟩)) "Takes") w = Sem.run Tryz.prog (loadVar 114 ⟨b, 0, none⟩ >>= fun v => pure (205, v)) w := by kernel_rfl
  rw [h, Sem.run_bind, load114 b l m w h0 h1]
  rfl
theorem meth226 (b : Nat) (l m : Value) (w : World) (h0 : w.cell? ⟨b, 0, none⟩ = some l) (h1 : w.cell? ⟨b, 1, none⟩ = some m) : Sem.run Tryz.prog (method 400 226 (.pointer (some ⟨b, 0, none⟩)) "Takes") w = .ok (205, .agg #[l, m]) w := by
  have h : Sem.run Tryz.prog (method 400 226 (.pointer (some ⟨b, 0, none⟩)) "Takes") w = Sem.run Tryz.prog (loadVar 114 ⟨b, 0, none⟩ >>= fun v => pure (205, v)) w := by kernel_rfl
  rw [h, Sem.run_bind, load114 b l m w h0 h1]
  rfl
theorem meth111 (b : Nat) (l m : Value) (w : World) (h0 : w.cell? ⟨b, 0, none⟩ = some l) (h1 : w.cell? ⟨b, 1, none⟩ = some m) : Sem.run Tryz.prog (method 400 111 (.pointer (some ⟨b, 0, none⟩)) "Takes") w = .ok (205, .agg #[l, m]) w := by
  have h : Sem.run Tryz.prog (method 400 111 (.pointer (some ⟨b, 0, none⟩)) "Takes") w = Sem.run Tryz.prog (loadVar 114 ⟨b, 0, none⟩ >>= fun v => pure (205, v)) w := by kernel_rfl
  rw [h, Sem.run_bind, load114 b l m w h0 h1]
  rfl
end Go.Proofs.YtodeeegbajgafaaGreatDoor
