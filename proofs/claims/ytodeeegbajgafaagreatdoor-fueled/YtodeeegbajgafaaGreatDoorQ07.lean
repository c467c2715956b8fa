/- The two kinds of maps of this program: by a name at a depth, and by a symbol. The keywords, each with its rule. -/
import Derived.Test.YtodeeegbajgafaaGreatDoorProg
import Derived.Test.YtodeeegbajgafaaGreatDoorQ05
import Derived.WideKeyRuns
import Derived.KernelRfl
import Derived.WalkSpells
import Derived.WalkLawsBesides
namespace Go.Proofs.YtodeeegbajgafaaGreatDoor
open Go.RowKit
/-- A name at a depth, as a key. -/
def spotV (d : Nat) (n : List UInt8) : Value := .agg #[.int .i64 d, .string ⟨n.toArray⟩]
theorem bytes_toList (a : List UInt8) : (⟨a.toArray⟩ : ByteArray).toList = a := by
  rw [ByteArray.toList_eq]
theorem eq_spot (d e : Nat) (n m : List UInt8) (w : World) : (Op.equal 220 (spotV d n) (spotV e m)).run Tryz.prog w = .ok (d == e && n == m) w := by
  have u3 := Tryz.underlying3
  have a3 := Tryz.isAgg3
  have z3 := Tryz.sizeOf3
  have u115 := Tryz.underlying115
  have a115 := Tryz.isAgg115
  have z115 := Tryz.sizeOf115
  have hS : Tryz.prog.underlying 220 = some (.struct (Tryz.prog.fieldsOf 220)) := by kernel_rfl
  have hp : Tryz.prog.stoodInHeld 220 = false := by kernel_rfl
  unfold Op.equal Op.maxDepth spotV
  rw [show (10000 : Nat) = 9999 + 1 from rfl, run_equalIn_agg w 9999 220 _ _ hS hp]
  simp only [Program.fieldsOf, Tryz.underlying220]
  go_simp
  by_cases h1 : d = e
  · by_cases h2 : n = m <;> simp [h1, h2]
  · have h1' : ¬ (d : Int) = (e : Int) := by omega
    simp [h1, h1']
theorem bytes_beq (a b : List UInt8) : ((⟨a.toArray⟩ : ByteArray) == ⟨b.toArray⟩) = (a == b) := by
  rw [beq_toListBytes, bytes_toList, bytes_toList]
theorem check_spot (em : Bool) (d : Nat) (n : List UInt8) (w : World) : (Instr.checkKey em 10000 220 (spotV d n)).run Tryz.prog w = .ok () w := by
  have h3 : ∀ x w, (Instr.checkKey em 9999 3 (.int .i64 x)).run Tryz.prog w = .ok () w := fun x w => by
    rw [show (9999 : Nat) = 9998 + 1 from rfl, Instr.checkKey]; simp [run_underlying Tryz.underlying3]
  have h115 : ∀ x w, (Instr.checkKey em 9999 115 (.string x)).run Tryz.prog w = .ok () w := fun x w => by
    rw [show (9999 : Nat) = 9998 + 1 from rfl, Instr.checkKey]; simp [run_underlying Tryz.underlying115]
  rw [show (10000 : Nat) = 9999 + 1 from rfl]
  unfold spotV
  have u3 := Tryz.underlying3
  have a3 := Tryz.isAgg3
  have z3 := Tryz.sizeOf3
  have u115 := Tryz.underlying115
  have a115 := Tryz.isAgg115
  have z115 := Tryz.sizeOf115
  rw [Instr.checkKey]
  simp only [Sem.run_bind, run_underlying Tryz.underlying220, Result.andThen_ok]
  go_simp
/-- The entries' keys and values. -/
def kvs (es : List MapEntry) : List (Value × Value) := es.map fun e => (e.key, e.val)
/-- The slots of the names that stand for something: the map in block b. -/
def spotKV (x : Nat × List UInt8 × Nat) : Value × Value := (spotV x.1 x.2.1, .int .i64 x.2.2)
def SlotsAt (b : Nat) (S : List (Nat × List UInt8 × Nat)) (w : World) : Prop := ∃ es clock, w.heap[b]? = some (.map es clock) ∧ kvs es.toList = S.map spotKV
/-- Where a name at a depth stands in the list. -/
def spotIx (d : Nat) (n : List UInt8) : List (Nat × List UInt8 × Nat) → Nat → Option (Nat × Nat)
  | [], _ => none
  | x :: S, i => if (d == x.1 && n == x.2.1) then some (i, x.2.2) else spotIx d n S (i + 1)
theorem asking_spot (d : Nat) (n : List UInt8) (w : World) : ∀ (es : List MapEntry) (S : List (Nat × List UInt8 × Nat)) (i : Nat), kvs es = S.map spotKV →
    (Instr.findAsking 220 (spotV d n) es i).run Tryz.prog w = .ok ((spotIx d n S i).map fun r => (r.1, .int .i64 r.2)) w
  | [], S, i, h => by
    cases S with
    | nil => simp [Instr.findAsking, spotIx]
    | cons x S => simp [kvs] at h
  | e :: es, S, i, h => by
    cases S with
    | nil => simp [kvs] at h
    | cons x S =>
      simp only [kvs, List.map_cons, List.cons.injEq, spotKV, Prod.mk.injEq] at h
      obtain ⟨⟨hk, hv⟩, ht⟩ := h
      rw [Instr.findAsking]
      simp only [Sem.run_bind, hk, eq_spot, Result.andThen_ok, spotIx]
      by_cases hq : (d == x.1 && n == x.2.1) = true
      · simp [hq, hv]
      · have hq' : (d == x.1 && n == x.2.1) = false := by simpa using hq
        rw [hq']
        simp only [Bool.false_eq_true, if_false]
        exact asking_spot d n w es S (i + 1) ht
theorem find_spot (d : Nat) (n : List UInt8) (w : World) (es : List MapEntry) (S : List (Nat × List UInt8 × Nat)) (h : kvs es = S.map spotKV) :
    (Instr.findKey 220 (spotV d n) es).run Tryz.prog w = .ok ((spotIx d n S 0).map fun r => (r.1, .int .i64 r.2)) w := by
  rw [run_findKey_eq w (by rw [Tryz.underlying220])]
  exact asking_spot d n w es S 0 h
theorem lookup_spot {b : Nat} {S : List (Nat × List UInt8 × Nat)} {w : World} (h : SlotsAt b S w) (d : Nat) (n : List UInt8) :
    (Instr.lookup 89 (.map (some b)) (spotV d n) true).run Tryz.prog w = .ok (.tuple #[.int .i64 (((spotIx d n S 0).map (·.2)).getD 0 : Nat), .bool (spotIx d n S 0).isSome]) w := by
  obtain ⟨es, clock, hb, hk⟩ := h
  have hf := find_spot d n w es.toList S hk
  have hc := check_spot es.isEmpty d n w
  have hg : (getObj b).run Tryz.prog w = .ok (.map es clock) w := by simp [getObj, Sem.run, hb]
  cases hi : spotIx d n S 0 with
  | none => rw [hi] at hf; simp [Instr.lookup, run_underlying Tryz.underlying89, hg, hc, hf, Tryz.zeroValue3]
  | some r => rw [hi] at hf; simp [Instr.lookup, run_underlying Tryz.underlying89, hg, hc, hf]
/-- The object of a block that is no row of cells, put anew. -/
def putObj (w : World) (b : Nat) (o : Obj) : World := { w with heap := w.heap.setIfInBounds b o }
theorem putObj_at {w : World} {b : Nat} {o : Obj} (o' : Obj) (h : w.heap[b]? = some o) : (putObj w b o').heap[b]? = some o' := by
  have := lt_of_at h
  simp [putObj, this]
theorem putObj_ne (w : World) (b k : Nat) (o : Obj) (h : k ≠ b) : (putObj w b o).heap[k]? = w.heap[k]? := by
  simp [putObj, Array.getElem?_setIfInBounds]
  intro e; exact absurd e.symm h
theorem putObj_kept (w : World) (b : Nat) (o : Obj) : Kept (· = b) w (putObj w b o) :=
  ⟨rfl, rfl, rfl, by simp [putObj], fun k _ hk => putObj_ne w b k o hk⟩
theorem update_spot {b : Nat} {es : Array MapEntry} {clock : Nat} {S : List (Nat × List UInt8 × Nat)} {w : World} (hb : w.heap[b]? = some (.map es clock)) (hk : kvs es.toList = S.map spotKV) (d : Nat) (n : List UInt8) (v : Value) (hn : spotIx d n S 0 = none) :
    (Instr.mapUpdate 89 (.map (some b)) (spotV d n) v).run Tryz.prog w = .ok () (putObj w b (.map (es.push { key := spotV d n, val := v, born := clock }) (clock + 1))) := by
  have hf := find_spot d n w es.toList S hk
  rw [hn] at hf
  have hc := check_spot false d n w
  have hg : (getObj b).run Tryz.prog w = .ok (.map es clock) w := by simp [getObj, Sem.run, hb]
  have hs : ∀ o, (setObj b o).run Tryz.prog w = .ok () (putObj w b o) := fun o => by simp [setObj, Sem.run, hb, putObj]
  simp [Instr.mapUpdate, run_underlying Tryz.underlying89, hg, hc, hf, hs]
theorem delete_spot {b : Nat} {es : Array MapEntry} {clock : Nat} {S : List (Nat × List UInt8 × Nat)} {w : World} (hb : w.heap[b]? = some (.map es clock)) (hk : kvs es.toList = S.map spotKV) (d : Nat) (n : List UInt8) (ty : TypeId) (i v : Nat) (hn : spotIx d n S 0 = some (i, v)) :
    (Builtin.delete_ #[89, 220] ty #[.map (some b), spotV d n]).run Tryz.prog w = .ok (.tuple #[]) (putObj w b (.map (es.eraseIdxIfInBounds i) clock)) := by
  have hf := find_spot d n w es.toList S hk
  rw [hn] at hf
  have hc := check_spot es.isEmpty d n w
  have hg : (getObj b).run Tryz.prog w = .ok (.map es clock) w := by simp [getObj, Sem.run, hb]
  have hs : ∀ o, (setObj b o).run Tryz.prog w = .ok () (putObj w b o) := fun o => by simp [setObj, Sem.run, hb, putObj]
  simp [Builtin.delete_, run_underlying Tryz.underlying89, hg, hc, hf, hs]
/-! By a symbol. -/
def symKV (x : List UInt8 × Value) : Value × Value := (.string ⟨x.1.toArray⟩, x.2)
def symIx (n : List UInt8) : List (List UInt8 × Value) → Nat → Option (Nat × Value)
  | [], _ => none
  | x :: S, i => if n == x.1 then some (i, x.2) else symIx n S (i + 1)
theorem now_sym (n : List UInt8) : ∀ (es : List MapEntry) (S : List (List UInt8 × Value)) (i : Nat), kvs es = S.map symKV →
    Instr.findNow .string (.string ⟨n.toArray⟩) es i = some (symIx n S i)
  | [], S, i, h => by
    cases S with
    | nil => rfl
    | cons x S => simp [kvs] at h
  | e :: es, S, i, h => by
    cases S with
    | nil => simp [kvs] at h
    | cons x S =>
      simp only [kvs, List.map_cons, List.cons.injEq, symKV, Prod.mk.injEq] at h
      obtain ⟨⟨hk, hv⟩, ht⟩ := h
      rw [Instr.findNow, hk]
      simp only [Instr.sameNow, bytes_beq, symIx]
      by_cases hq : (n == x.1) = true
      · simp [hq, hv]
      · have hq' : (n == x.1) = false := by simpa using hq
        rw [hq']
        simp only [Bool.false_eq_true, if_false]
        exact now_sym n es S (i + 1) ht
theorem find_sym (n : List UInt8) (w : World) (es : List MapEntry) (S : List (List UInt8 × Value)) (h : kvs es = S.map symKV) :
    (Instr.findKey 115 (.string ⟨n.toArray⟩) es).run Tryz.prog w = .ok (symIx n S 0) w := by
  simp [Instr.findKey, run_underlying Tryz.underlying115, now_sym n es S 0 h]
theorem check_sym (em : Bool) (x : ByteArray) (w : World) : (Instr.checkKey em 10000 115 (.string x)).run Tryz.prog w = .ok () w := by
  rw [show (10000 : Nat) = 9999 + 1 from rfl, Instr.checkKey]; simp [run_underlying Tryz.underlying115]
def SymsAt (b : Nat) (S : List (List UInt8 × Value)) (w : World) : Prop := ∃ es clock, w.heap[b]? = some (.map es clock) ∧ kvs es.toList = S.map symKV
theorem lookup_sym {T E : TypeId} {z : Value} (hT : Tryz.prog.underlying T = some (.map 115 E)) (hz : ∀ w, (zeroValue E).run Tryz.prog w = .ok z w) {b : Nat} {S : List (List UInt8 × Value)} {w : World} (h : SymsAt b S w) (n : List UInt8) :
    (Instr.lookup T (.map (some b)) (.string ⟨n.toArray⟩) false).run Tryz.prog w = .ok (((symIx n S 0).map (·.2)).getD z) w := by
  obtain ⟨es, clock, hb, hk⟩ := h
  have hf := find_sym n w es.toList S hk
  have hc := check_sym es.isEmpty ⟨n.toArray⟩ w
  have hg : (getObj b).run Tryz.prog w = .ok (.map es clock) w := by simp [getObj, Sem.run, hb]
  cases hi : symIx n S 0 with
  | none => rw [hi] at hf; simp [Instr.lookup, run_underlying hT, hg, hc, hf, hz]
  | some r => rw [hi] at hf; simp [Instr.lookup, run_underlying hT, hg, hc, hf]
theorem update_sym {T E : TypeId} (hT : Tryz.prog.underlying T = some (.map 115 E)) {b : Nat} {es : Array MapEntry} {clock : Nat} {S : List (List UInt8 × Value)} {w : World} (hb : w.heap[b]? = some (.map es clock)) (hk : kvs es.toList = S.map symKV) (n : List UInt8) (v : Value) (hn : symIx n S 0 = none) :
    (Instr.mapUpdate T (.map (some b)) (.string ⟨n.toArray⟩) v).run Tryz.prog w = .ok () (putObj w b (.map (es.push { key := .string ⟨n.toArray⟩, val := v, born := clock }) (clock + 1))) := by
  have hf := find_sym n w es.toList S hk
  rw [hn] at hf
  have hc := check_sym false ⟨n.toArray⟩ w
  have hg : (getObj b).run Tryz.prog w = .ok (.map es clock) w := by simp [getObj, Sem.run, hb]
  have hs : ∀ o, (setObj b o).run Tryz.prog w = .ok () (putObj w b o) := fun o => by simp [setObj, Sem.run, hb, putObj]
  simp [Instr.mapUpdate, run_underlying hT, hg, hc, hf, hs]
theorem SymsAt.push {b : Nat} {es : Array MapEntry} {clock : Nat} {S : List (List UInt8 × Value)} {w : World} (hb : w.heap[b]? = some (.map es clock)) (hk : kvs es.toList = S.map symKV) (n : List UInt8) (v : Value) (c : Nat) :
    SymsAt b (S ++ [(n, v)]) (putObj w b (.map (es.push { key := .string ⟨n.toArray⟩, val := v, born := clock }) c)) :=
  ⟨_, _, putObj_at _ hb, by simp [kvs, symKV] at hk ⊢; exact hk⟩
theorem SlotsAt.push {b : Nat} {es : Array MapEntry} {clock : Nat} {S : List (Nat × List UInt8 × Nat)} {w : World} (hb : w.heap[b]? = some (.map es clock)) (hk : kvs es.toList = S.map spotKV) (d : Nat) (n : List UInt8) (v c : Nat) :
    SlotsAt b (S ++ [(d, n, v)]) (putObj w b (.map (es.push { key := spotV d n, val := .int .i64 v, born := clock }) c)) :=
  ⟨_, _, putObj_at _ hb, by simp [kvs, spotKV] at hk ⊢; exact hk⟩
theorem map_eraseIdx {α β : Type} (f : α → β) (l : List α) (i : Nat) : (l.eraseIdx i).map f = (l.map f).eraseIdx i := by
  induction l generalizing i with
  | nil => simp
  | cons a l ih => cases i <;> simp [ih]
theorem SlotsAt.erase {b : Nat} {es : Array MapEntry} {clock : Nat} {S : List (Nat × List UInt8 × Nat)} {w : World} (hb : w.heap[b]? = some (.map es clock)) (hk : kvs es.toList = S.map spotKV) (i : Nat) :
    SlotsAt b (S.eraseIdx i) (putObj w b (.map (es.eraseIdxIfInBounds i) clock)) := by
  refine ⟨_, _, putObj_at _ hb, ?_⟩
  have e1 : (es.eraseIdxIfInBounds i).toList = es.toList.eraseIdx i := by
    unfold Array.eraseIdxIfInBounds
    split
    · simp
    · rename_i h
      rw [List.eraseIdx_of_length_le (by simpa using h)]
  rw [e1]
  unfold kvs at hk ⊢
  rw [map_eraseIdx, hk, ← map_eraseIdx]
end Go.Proofs.YtodeeegbajgafaaGreatDoor

namespace Go.Proofs.YtodeeegbajgafaaGreatDoor
open Go.RowKit
/-- One entry of a map literal whose key is not there yet. -/
theorem wpList_insert_sym {T E : TypeId} (hT : Tryz.prog.underlying T = some (.map 115 E)) {ops : Array Oper} {rest : List Oper} {o : Oper} {a : Act} {w : World} {Q : Exit → Act → World → Prop} (hgd : o.guard = none) (m k x : Operand)
    (ho : o.op = .insert T m k x) (hd : o.dst = none) (b : Nat) (S : List (List UInt8 × Value)) (n : List UInt8) (v : Value) (hm : a.eval m = .map (some b)) (hk : a.eval k = .string ⟨n.toArray⟩) (hx : a.eval x = v)
    (hS : SymsAt b S w) (hn : symIx n S 0 = none) (h : ∀ w', SymsAt b (S ++ [(n, v)]) w' → Kept (· = b) w w' → wpList Tryz.prog ops Q rest a w') : wpList Tryz.prog ops Q (o :: rest) a w := by
  refine wpList_plain hgd fun K hK => ?_
  obtain ⟨es, clock, hb, hkv⟩ := hS
  have hr := update_sym hT hb hkv n v hn
  unfold Oper.wp execOp
  simp only [ho, Sem.run_bind, Sem.run_pure, Result.andThen_ok, hm, hk, hx, hr]
  have hh := h _ (SymsAt.push hb hkv n v (clock + 1)) (putObj_kept _ _ _)
  have e : a.put o.dst undef = a := by rw [hd]; rfl
  show K (a.put o.dst undef) _
  rw [e]
  exact hK _ _ hh
/-- The rules: a keyword's own function. -/
def ruleList : List (List UInt8 × Value) := [
  ([113, 117, 111, 116, 101], .func (.func 49) #[] #[]), ([105, 102], .func (.func 50) #[] #[]), ([108, 97, 109, 98, 100, 97], .func (.func 51) #[] #[]), ([98, 101, 103, 105, 110], .func (.func 52) #[] #[]), ([108, 101, 116], .func (.func 53) #[] #[]),
  ([115, 101, 116, 33], .func (.func 54) #[] #[]), ([97, 110, 100], .func (.func 55) #[] #[]), ([111, 114], .func (.func 56) #[] #[]), ([114, 101, 115, 101, 116], .func (.func 57) #[] #[]), ([115, 104, 105, 102, 116], .func (.func 58) #[] #[]), ([100, 101, 102, 105, 110, 101], .func (.func 59) #[] #[])]
theorem syms_new (w : World) : SymsAt w.heap.size [] (w.alloc (.map #[] 0)) := ⟨#[], 0, at_new _ _, rfl⟩
set_option maxHeartbeats 1000000 in
set_option maxRecDepth 10000 in
theorem keywords_any (w : World) :
    Calls Tryz.prog 35 #[] w fun e w' => e = .returned (.map (some w.heap.size)) ∧ SymsAt w.heap.size ruleList w' ∧ Below w.heap.size w w' := by
  have hmm := @run_makeMap Tryz.prog
  have hk0 : Kept (· = w.heap.size) w (w.alloc (.map #[] 0)) := (Kept.refl _ w).alloc _
  have hS0 := syms_new w
  go_enter Tryz.func35, Tryz.ntmps35
  go_wp2_with (refine wpList_insert_sym Tryz.underlying92 rfl _ _ _ rfl rfl _ _ _ _ rfl rfl rfl (by assumption) (by kernel_rfl) ?_; clear hS0; intro w1 hS0 hk1; replace hk0 := hk0.trans hk1; clear hk1)
  go_ret
  exact ⟨rfl, hS0, hk0.below (Nat.le_refl _) (fun k (e : k = w.heap.size) => by omega)⟩
end Go.Proofs.YtodeeegbajgafaaGreatDoor
