/- Tasks: of a choice, of a body; or. Tasks: of a choice, of a body; or. Names are looked up. Names are defined. Tasks that define and set names. Forms are evaluated in turn. -/
import Derived.Test.YtodeeegbajgafaaGreatDoorQ21
import Derived.LaidEqlPtr
import Derived.BigRegion
namespace Go.Proofs.YtodeeegbajgafaaGreatDoor
open Go.RowKit
open Mc
theorem neq_iface {t : TypeId} {x : Value} (w : World) (h : t ≠ 150) : (binOp .neq 60 (.iface t x) (.iface 150 (.bool false))).run Tryz.prog w = .ok (.bool true) w := by
  have u := Tryz.underlying60
  have h1 : (Op.equal 60 (.iface t x) (.iface 150 (.bool false))).run Tryz.prog w = .ok false w := by
    unfold Op.equal Op.maxDepth
    rw [show (10000 : Nat) = 9999 + 1 from rfl]
    unfold Op.equalIn
    simp [run_underlying u]
    intro e
    exact absurd e h
  simp only [binOp]
  simp [h1]
theorem neq_truth {b : Bool} (w : World) : (binOp .neq 60 (.iface 150 (.bool b)) (.iface 150 (.bool false))).run Tryz.prog w = .ok (.bool b) w := by
  have u := Tryz.underlying60
  have u' := Tryz.underlying150
  have hc : Tryz.t150.comparable = true := by kernel_rfl
  have h1 : (Op.equal 60 (.iface 150 (.bool b)) (.iface 150 (.bool false))).run Tryz.prog w = .ok (!b) w := by
    unfold Op.equal Op.maxDepth
    rw [show (10000 : Nat) = 9998 + 1 + 1 from rfl]
    unfold Op.equalIn
    simp [run_underlying u, hc]
    unfold Op.equalIn
    simp [run_underlying u']
  simp only [binOp]
  simp [h1]
set_option maxHeartbeats 1000000 in
theorem isTrue_of (t : TypeId) (y : Value) (b : Bool) (w : World) (hq : ∀ w, (binOp .neq 60 (.iface t y) (.iface 150 (.bool false))).run Tryz.prog w = .ok (.bool b) w) :
    Calls Tryz.prog 128 #[.iface t y] w fun e w' => e = .returned (.bool b) ∧ w' = w := by
  go_enter Tryz.func128, Tryz.ntmps128
  go_wp2
  go_ret
  exact ⟨rfl, rfl⟩
end Go.Proofs.YtodeeegbajgafaaGreatDoor

namespace Go.Proofs.YtodeeegbajgafaaGreatDoor
open Go.RowKit
open Mc
/-- Forms behind the first. -/
theorem RepFs.tail {ok : Nat → Prop} {w : World} {g o cap n : Nat} {f : Rd.F} {fs : List Rd.F} (h : RepFs ok w (.slice (some ⟨g, o, none⟩) n cap) (f :: fs)) : RepFs ok w (.slice (some ⟨g, o + 1, none⟩) fs.length (cap - 1)) fs := by
  cases h with
  | list _ _ _ c T _ vf hg hh hn hcap hc hs =>
    simp only [List.length_cons] at hn
    refine .list g (o + 1) (cap - 1) c T fs (fun i => vf (i + 1)) hg hh (by omega) (by omega) ?_ ?_
    · intro i hi
      rw [← hc (i + 1) (by simp; omega)]
      congr 1; omega
    · intro i hi
      have := hs (i + 1) (by simp; omega)
      simpa using this
theorem RepFs.tail1 {ok : Nat → Prop} {w : World} {g o o' cap n : Nat} {f : Rd.F} (h : RepFs ok w (.slice (some ⟨g, o, none⟩) n cap) [f]) : RepFs ok w (.slice (some ⟨g, o', none⟩) 0 (cap - 1)) [] := by
  cases h with
  | list _ _ _ c T _ vf hg hh hn hcap hc hs =>
    exact .list g o' (cap - 1) c T [] (fun _ => undef) hg hh (Nat.zero_le _) (by omega) (fun i hi => absurd hi (Nat.not_lt_zero _)) (fun i hi => absurd hi (Nat.not_lt_zero _))
end Go.Proofs.YtodeeegbajgafaaGreatDoor

namespace Go.Proofs.YtodeeegbajgafaaGreatDoor
open Go.RowKit
open Mc
theorem zero152 : ∀ w, (zeroValue 152).run Tryz.prog w = .ok (.pointer none) w := fun w => by kernel_rfl
def nmV (n : Rd.Sym) : Value := .agg #[symV n, .bool false, .int .i64 0, .int .i64 0]
def lcV (n : Rd.Sym) (up slot : Nat) : Value := .agg #[symV n, .bool true, .int .i64 up, .int .i64 slot]
end Go.Proofs.YtodeeegbajgafaaGreatDoor

namespace Go.Proofs.YtodeeegbajgafaaGreatDoor
open Go.RowKit
open Mc
theorem find_none_ix (n : Rd.Sym) : ∀ (G : List (Rd.Sym × V)) (xs : List Nat) (k : Nat), find? n G = none → symIx n ((G.map (·.1)).zip (xs.map ptrV)) k = none
  | [], xs, k, _ => rfl
  | g :: G, [], k, _ => rfl
  | g :: G, x :: xs, k, h => by
    by_cases hq : g.1 = n
    · simp [find?, hq] at h
    · have hq1 : (g.1 == n) = false := by simpa using hq
      have hq2 : (n == g.1) = false := by simpa using fun e => hq e.symm
      have h' : find? n G = none := by
        simp only [find?, List.find?_cons, hq1] at h
        exact h
      simp only [List.map_cons, List.zip_cons_cons, symIx, hq2, Bool.false_eq_true, if_false]
      exact find_none_ix n G xs (k + 1) h'
def Gh.more (g : Gh) (b : Nat) : Gh := { g with xs := g.xs ++ [b] }
theorem Gh.more_mut {g : Gh} {b k : Nat} : (g.more b).mut k ↔ g.mut k ∨ k = b := by
  simp only [Gh.mut, Gh.more, List.mem_append, List.mem_singleton]
  constructor
  · rintro (h | h | (h | h) | h)
    · exact Or.inl (Or.inl h)
    · exact Or.inl (Or.inr (Or.inl h))
    · exact Or.inl (Or.inr (Or.inr (Or.inl h)))
    · exact Or.inr h
    · exact Or.inl (Or.inr (Or.inr (Or.inr h)))
  · rintro ((h | h | h | h) | h)
    · exact Or.inl h
    · exact Or.inr (Or.inl h)
    · exact Or.inr (Or.inr (Or.inl (Or.inl h)))
    · exact Or.inr (Or.inr (Or.inr h))
    · exact Or.inr (Or.inr (Or.inl (Or.inr h)))
/-- What is below stays ok when a box is made. -/
theorem Gh.more_ok {g : Gh} {N : Nat → Prop} {b k : Nat} (h : g.ok N k) (hk : k < b) : (g.more b).ok N k :=
  ⟨h.1, fun e => by rcases Gh.more_mut.1 e with e | e; exact h.2 e; omega⟩
/-- The world behind a definition. -/
def defined (w : World) (db : Nat) (es : Array MapEntry) (c : Nat) (n : Rd.Sym) (x : Value) : World :=
  putObj (w.alloc (.cells #[x] 60)) db (.map (es.push { key := .string ⟨n.toArray⟩, val := .pointer (some ⟨w.heap.size, 0, none⟩), born := c }) (c + 1))
theorem defined_at {w : World} {db : Nat} {es : Array MapEntry} {c : Nat} {n : Rd.Sym} {x : Value} {k : Nat} (hk : k < w.heap.size) (hd : k ≠ db) : (defined w db es c n x).heap[k]? = w.heap[k]? := by
  unfold defined
  rw [putObj_ne _ _ _ _ hd, Below.heap_alloc _ _ _ hk]
theorem MachAt.define {N : Nat → Prop} {g : Gh} {G : List (Rd.Sym × V)} {shown : List (List UInt8)} {w : World} (h : MachAt N g G shown w) (n : Rd.Sym) (x : Value) (v : V) (hx : RepM g.mb (g.ok N) w x (.val v)) (es : Array MapEntry) (c : Nat) (hes : w.heap[g.db]? = some (.map es c)) (hkv : kvs es.toList = ((G.map (·.1)).zip (g.xs.map ptrV)).map symKV) :
    MachAt N (g.more w.heap.size) (G ++ [(n, v)]) shown (defined w g.db es c n x) := by
  have hmut := Gh.low h
  have hkeep : ∀ k, k < w.heap.size → g.ok N k → (g.more w.heap.size).ok N k ∧ (defined w g.db es c n x).heap[k]? = w.heap[k]? := fun k hk ho => ⟨Gh.more_ok ho hk, defined_at hk (fun e => ho.2 (Or.inr (Or.inl e)))⟩
  have hdb : g.db < w.heap.size := lt_of_at hes
  have hnew : (defined w g.db es c n x).heap[w.heap.size]? = some (.cells #[x] 60 (0, 0)) := by
    unfold defined
    rw [putObj_ne _ _ _ _ (by omega)]
    exact at_new w _
  have hnx : ∀ k, k ∈ g.xs → k < w.heap.size := fun k hk => hmut k (Or.inr (Or.inr (Or.inl hk)))
  obtain ⟨T, hm⟩ := h.mach
  have hmb := lt_of_at hm
  refine ⟨⟨T, (defined_at hmb h.apart.1).trans hm⟩, ?_, by simp [Gh.more, h.len], ?_, ?_, ?_, ?_, ?_, ?_⟩
  · have := SymsAt.push (w := w.alloc (.cells #[x] 60)) (at_alloc hes _) hkv n (.pointer (some ⟨w.heap.size, 0, none⟩)) (c + 1)
    have e : ((G ++ [(n, v)]).map (·.1)).zip ((g.more w.heap.size).xs.map ptrV) = (G.map (·.1)).zip (g.xs.map ptrV) ++ [(n, ptrV w.heap.size)] := by
      simp only [Gh.more, List.map_append, List.map_cons, List.map_nil]
      rw [List.zip_append (by simp [h.len])]
      rfl
    rw [e]
    exact this
  · intro i hi
    simp only [List.length_append, List.length_cons, List.length_nil] at hi
    by_cases hlt : i < G.length
    · obtain ⟨b, y, T, e1, e2, e3⟩ := h.boxes i hlt
      have hbx : b ∈ g.xs := List.mem_of_getElem? e1
      refine ⟨b, y, T, ?_, (defined_at (lt_of_at e2) (fun e => h.apart.2.2.1 (by rw [← e]; exact hbx))).trans e2, ?_⟩
      · rw [← e1]; exact List.getElem?_append_left (by rw [h.len]; exact hlt)
      · rw [List.getElem_append_left hlt]; exact e3.mono hkeep
    · have : i = G.length := by omega
      subst this
      refine ⟨w.heap.size, x, 60, ?_, hnew, ?_⟩
      · simp [Gh.more, ← h.len]
      · have hx' := hx.mono hkeep
        have e : (G ++ [(n, v)])[G.length].2 = v := by simp
        rw [e]
        exact hx'
  · obtain ⟨B, hB⟩ := h.own
    refine ⟨B, ?_⟩
    obtain ⟨a, b | ⟨gb, cap, cur, hv, hB, hh, r⟩⟩ := hB
    · exact ⟨a, Or.inl b⟩
    · refine ⟨a, Or.inr ⟨gb, cap, cur, hv, hB, (defined_at (lt_of_at hh) ?_).trans hh, r⟩⟩
      exact (h.apart' gb (by rw [hv]; rfl)).2.1
  · refine ⟨h.apart.1, ?_, ?_, ?_⟩
    · simp only [Gh.more, List.mem_append, List.mem_singleton, not_or]
      exact ⟨h.apart.2.1, by omega⟩
    · simp only [Gh.more, List.mem_append, List.mem_singleton, not_or]
      exact ⟨h.apart.2.2.1, by omega⟩
    · simp only [Gh.more]
      rw [List.nodup_append]
      refine ⟨h.apart.2.2.2, by simp, ?_⟩
      intro a ha b hb
      simp only [List.mem_singleton] at hb
      have := hnx a ha
      omega
  · intro k hk
    obtain ⟨h1, h2, h3⟩ := h.apart' k hk
    have := hmut k (Or.inr (Or.inr (Or.inr hk)))
    refine ⟨h1, h2, ?_⟩
    simp only [Gh.more, List.mem_append, List.mem_singleton, not_or]
    exact ⟨h3, by omega⟩
  · intro k hk
    have := h.low k hk
    have hs : (defined w g.db es c n x).heap.size = w.heap.size + 1 := by simp [defined, putObj]
    omega
  · intro k hk hN
    rcases Gh.more_mut.1 hk with e | e
    · exact h.disj k e hN
    · have := h.low k hN; omega
set_option maxHeartbeats 2000000 in
set_option maxRecDepth 10000 in
theorem define40 (N : Nat → Prop) (g : Gh) (G : List (Rd.Sym × V)) (shown : List (List UInt8)) (w : World) (h : MachAt N g G shown w) (n : Rd.Sym) (x : Value) (v : V) (hx : RepM g.mb (g.ok N) w x (.val v)) (hn : find? n G = none) :
    Calls Tryz.prog 40 #[ptrV g.mb, symV n, x] w fun e w' => e = .returned (.tuple #[]) ∧ ∃ es c, w.heap[g.db]? = some (.map es c) ∧ kvs es.toList = ((G.map (·.1)).zip (g.xs.map ptrV)).map symKV ∧ w' = defined w g.db es c n x := by
  obtain ⟨es, c, hes, hkv⟩ := id h.glob
  obtain ⟨tv, xv, rfl⟩ := RepM.iface hx
  obtain ⟨T, hm⟩ := h.mach
  have m0 := cell_of_at hm 0
  simp only [List.getElem?_toArray, List.getElem?_cons_zero] at m0
  have hlm := lt_of_at hm
  have hup := update_sym Tryz.underlying105 (w := w.alloc (.cells #[.iface tv xv] 60)) (at_alloc hes _) hkv n (.pointer (some ⟨w.heap.size, 0, none⟩)) (find_none_ix n G g.xs 0 hn)
  have hres : ∃ es' c', w.heap[g.db]? = some (.map es' c') ∧ kvs es'.toList = ((G.map (·.1)).zip (g.xs.map ptrV)).map symKV ∧ putObj (w.alloc (.cells #[.iface tv xv] 60)) g.db (.map (es.push { key := .string ⟨n.toArray⟩, val := .pointer (some ⟨w.heap.size, 0, none⟩), born := c }) (c + 1)) = defined w g.db es' c' n (.iface tv xv) := ⟨es, c, hes, hkv, rfl⟩
  generalize hW : putObj (w.alloc (.cells #[.iface tv xv] 60)) g.db (.map (es.push { key := .string ⟨n.toArray⟩, val := .pointer (some ⟨w.heap.size, 0, none⟩), born := c }) (c + 1)) = W at *
  clear h hx hm hes hkv hW hn
  unfold symV ptrV
  go_enter Tryz.func40, Tryz.ntmps40
  go_wp2
  go_end0
  exact ⟨rfl, hres⟩
end Go.Proofs.YtodeeegbajgafaaGreatDoor

namespace Go.Proofs.YtodeeegbajgafaaGreatDoor
open Go.RowKit
open Mc
theorem Kept.chain {M M' : Nat → Prop} {a b c : World} (h : Kept M a b) (h' : Kept M' b c) (hm : ∀ k, k < a.heap.size → M' k → M k) : Kept M a c :=
  ⟨h'.os.trans h.os, h'.tape.trans h.tape, h'.output.trans h.output, Nat.le_trans h.size h'.size, fun k hk hn => (h'.block k (Nat.lt_of_lt_of_le hk h.size) (fun e => hn (hm k hk e))).trans (h.block k hk hn)⟩
end Go.Proofs.YtodeeegbajgafaaGreatDoor

namespace Go.Proofs.YtodeeegbajgafaaGreatDoor
open Go.RowKit
open Mc
def boxes4 (w : World) (a b c d : Value) : World := (((w.alloc (.cells #[a] 65)).alloc (.cells #[b] 99)).alloc (.cells #[c] 85)).alloc (.cells #[d] 236)
theorem boxes4_below (w : World) (a b c d : Value) : Below w.heap.size w (boxes4 w a b c d) := ((((Below.refl _ w).alloc (Nat.le_refl _) _).alloc (by simp) _).alloc (by simp; omega) _).alloc (by simp; omega) _
theorem boxes4_at (w : World) (a b c d : Value) : (boxes4 w a b c d).heap[w.heap.size]? = some (.cells #[a] 65 (0, 0)) ∧ (boxes4 w a b c d).heap[w.heap.size + 1]? = some (.cells #[b] 99 (0, 0)) ∧ (boxes4 w a b c d).heap[w.heap.size + 2]? = some (.cells #[c] 85 (0, 0)) ∧ (boxes4 w a b c d).heap[w.heap.size + 3]? = some (.cells #[d] 236 (0, 0)) := by
  refine ⟨at_alloc (at_alloc (at_alloc (at_new w _) _) _) _, at_alloc (at_alloc ?_ _) _, at_alloc ?_ _, ?_⟩
  · simpa using at_new (w.alloc (.cells #[a] 65)) (.cells #[b] 99)
  · simpa using at_new ((w.alloc (.cells #[a] 65)).alloc (.cells #[b] 99)) (.cells #[c] 85)
  · unfold boxes4
    simpa using at_new (((w.alloc (.cells #[a] 65)).alloc (.cells #[b] 99)).alloc (.cells #[c] 85)) (.cells #[d] 236)
end Go.Proofs.YtodeeegbajgafaaGreatDoor
