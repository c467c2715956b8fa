/- How forms lie in memory, and the parser. The map of names at depths says what the scopes around say. Where a name stands, worked out ahead of running. The name that a datum is. -/
import Derived.Test.YtodeeegbajgafaaGreatDoorQ01
import Derived.Test.YtodeeegbajgafaaGreatDoorQ06
import Derived.Test.YtodeeegbajgafaaGreatDoorQ07
import Derived.Test.YtodeeegbajgafaaGreatDoorQ09
import Derived.Deep.QuietTactic
import Derived.BigQuiet
namespace Go.Proofs.YtodeeegbajgafaaGreatDoor
open Go.RowKit
def symV (n : Rd.Sym) : Value := .string ⟨n.toArray⟩
def locUp (l : Option (Nat × Nat)) : Nat := (l.map (·.1)).getD 0
def locSlot (l : Option (Nat × Nat)) : Nat := (l.map (·.2)).getD 0
/-- A value of data. -/
inductive RepQ (ok : Nat → Prop) (w : World) : Value → Mc.V → Prop
  | atom (a : Rd.A) : RepQ ok w (aV a) (.atom a)
  | pair (b : Nat) (x y : Value) (T : TypeId) (h t : Mc.V) (hb : ok b) (hh : w.heap[b]? = some (.cells #[x, y] T (0, 0))) (h1 : RepQ ok w x h) (h2 : RepQ ok w y t) : RepQ ok w (.iface 124 (.pointer (some ⟨b, 0, none⟩))) (.pair h t)
theorem RepQ.mono {ok ok' : Nat → Prop} {w w' : World} {x : Value} {v : Mc.V} (h : RepQ ok w x v) (hk : ∀ k, k < w.heap.size → ok k → ok' k ∧ w'.heap[k]? = w.heap[k]?) : RepQ ok' w' x v := by
  induction h with
  | atom a => exact .atom a
  | pair b x y T h t hb hh _ _ i1 i2 =>
    obtain ⟨h1, h2⟩ := hk b (lt_of_at hh) hb
    exact .pair b x y T h t h1 (h2.trans hh) i1 i2
/-- The value is that form, or the slice holds those forms; all blocks are 'ok'. -/
inductive RepX (ok : Nat → Prop) (w : World) : Value → Rd.F ⊕ List Rd.F → Prop
  | const (a : Rd.A) : RepX ok w (.iface 163 (.agg #[aV a])) (.inl (.const a))
  | quoted (x : Value) (d : Rd.D) (h : RepQ ok w x (Mc.valD d)) : RepX ok w (.iface 163 (.agg #[x])) (.inl (.quoted d))
  | name (n : Rd.Sym) (l : Option (Nat × Nat)) : RepX ok w (.iface 178 (.agg #[symV n, .bool l.isSome, .int .i64 (locUp l), .int .i64 (locSlot l)])) (.inl (.name n l))
  | ite (vt va ve : Value) (t a e : Rd.F) (h1 : RepX ok w vt (.inl t)) (h2 : RepX ok w va (.inl a)) (h3 : RepX ok w ve (.inl e)) : RepX ok w (.iface 166 (.agg #[vt, va, ve])) (.inl (.ite t a e))
  | ift (vt va : Value) (t a : Rd.F) (h1 : RepX ok w vt (.inl t)) (h2 : RepX ok w va (.inl a)) : RepX ok w (.iface 166 (.agg #[vt, va, .nilIface])) (.inl (.ift t a))
  | lam (k : Nat) (s : Value) (b : List Rd.F) (h : RepX ok w s (.inr b)) : RepX ok w (.iface 214 (.agg #[.int .i64 k, s])) (.inl (.lam k b))
  | begin_ (s : Value) (b : List Rd.F) (h : RepX ok w s (.inr b)) : RepX ok w (.iface 169 (.agg #[s])) (.inl (.begin_ b))
  | let_ (s t : Value) (v b : List Rd.F) (h1 : RepX ok w s (.inr v)) (h2 : RepX ok w t (.inr b)) : RepX ok w (.iface 175 (.agg #[s, t])) (.inl (.let_ v b))
  | set_ (n : Rd.Sym) (l : Option (Nat × Nat)) (v : Value) (f : Rd.F) (h : RepX ok w v (.inl f)) : RepX ok w (.iface 181 (.agg #[symV n, .bool l.isSome, .int .i64 (locUp l), .int .i64 (locSlot l), v])) (.inl (.set_ n l f))
  | until_ (st : Bool) (s : Value) (b : List Rd.F) (h : RepX ok w s (.inr b)) : RepX ok w (.iface 222 (.agg #[.bool st, s])) (.inl (.until_ st b))
  | reset (s : Value) (b : List Rd.F) (h : RepX ok w s (.inr b)) : RepX ok w (.iface 183 (.agg #[s])) (.inl (.reset b))
  | shift (s : Value) (b : List Rd.F) (h : RepX ok w s (.inr b)) : RepX ok w (.iface 184 (.agg #[s])) (.inl (.shift b))
  | define (n : Rd.Sym) (v : Value) (f : Rd.F) (h : RepX ok w v (.inl f)) : RepX ok w (.iface 187 (.agg #[symV n, v])) (.inl (.define n f))
  | call (s : Value) (b : List Rd.F) (h : RepX ok w s (.inr b)) : RepX ok w (.iface 190 (.agg #[s])) (.inl (.call b))
  | list (g o cap : Nat) (c : Array Value) (T : TypeId) (fs : List Rd.F) (vf : Nat → Value) (hg : ok g) (hh : w.heap[g]? = some (.cells c T (0, 0))) (hn : fs.length ≤ cap) (hcap : cap ≤ 100000)
      (hc : ∀ i, i < fs.length → c[o + i]? = some (vf i)) (hs : ∀ i (hi : i < fs.length), RepX ok w (vf i) (.inl fs[i])) : RepX ok w (.slice (some ⟨g, o, none⟩) fs.length cap) (.inr fs)
abbrev RepF (ok : Nat → Prop) (w : World) (v : Value) (f : Rd.F) : Prop := RepX ok w v (.inl f)
abbrev RepFs (ok : Nat → Prop) (w : World) (v : Value) (fs : List Rd.F) : Prop := RepX ok w v (.inr fs)
theorem RepX.mono {ok ok' : Nat → Prop} {w w' : World} {v : Value} {x : Rd.F ⊕ List Rd.F} (h : RepX ok w v x) (hk : ∀ k, k < w.heap.size → ok k → ok' k ∧ w'.heap[k]? = w.heap[k]?) : RepX ok' w' v x := by
  induction h with
  | const a => exact .const a
  | quoted x d h => exact .quoted x d (h.mono hk)
  | name n l => exact .name n l
  | ite vt va ve t a e _ _ _ i1 i2 i3 => exact .ite vt va ve t a e i1 i2 i3
  | ift vt va t a _ _ i1 i2 => exact .ift vt va t a i1 i2
  | lam k s b _ i => exact .lam k s b i
  | begin_ s b _ i => exact .begin_ s b i
  | let_ s t v b _ _ i1 i2 => exact .let_ s t v b i1 i2
  | set_ n l v f _ i => exact .set_ n l v f i
  | until_ st s b _ i => exact .until_ st s b i
  | reset s b _ i => exact .reset s b i
  | shift s b _ i => exact .shift s b i
  | define n v f _ i => exact .define n v f i
  | call s b _ i => exact .call s b i
  | list g o cap c T fs vf hg hh hn hcap hc hs ih =>
    obtain ⟨h1, h2⟩ := hk g (lt_of_at hh) hg
    exact .list g o cap c T fs vf h1 (h2.trans hh) hn hcap hc ih
theorem RepF.iface {ok : Nat → Prop} {w : World} {v : Value} {f : Rd.F} (h : RepF ok w v f) : ∃ t x, v = .iface t x := by
  cases h <;> exact ⟨_, _, rfl⟩
theorem RepFs.shape {ok : Nat → Prop} {w : World} {v : Value} {fs : List Rd.F} (h : RepFs ok w v fs) : ∃ a cap, v = .slice (some a) fs.length cap ∧ fs.length ≤ cap ∧ cap ≤ 100000 := by
  cases h with
  | list g o cap c T _ vf hg hh hn hcap hc hs => exact ⟨_, cap, rfl, hn, hcap⟩
/-- The entries of the scopes around, the outermost first. -/
def level (d : Nat) : List Rd.Sym → Nat → List (Nat × List UInt8 × Nat)
  | [], _ => []
  | n :: ns, i => (d, n, i) :: level d ns (i + 1)
def slotsOf : List (List Rd.Sym) → List (Nat × List UInt8 × Nat)
  | [] => []
  | ns :: env => slotsOf env ++ level (env.length + 1) ns 0
/-- What parsing may write: the parser and its slots. -/
def PM (pb sb : Nat) : Nat → Prop := fun k => k = pb ∨ k = sb
end Go.Proofs.YtodeeegbajgafaaGreatDoor

namespace Go.Proofs.YtodeeegbajgafaaGreatDoor
open Go.RowKit Rd
theorem spotIx_append (d : Nat) (n : List UInt8) : ∀ (S S' : List (Nat × List UInt8 × Nat)) (i : Nat), spotIx d n (S ++ S') i = match spotIx d n S i with | some r => some r | none => spotIx d n S' (i + S.length)
  | [], S', i => rfl
  | x :: S, S', i => by
    simp only [List.cons_append, spotIx]
    split
    · rfl
    · rw [spotIx_append d n S S' (i + 1)]
      simp only [List.length_cons]
      rw [show i + 1 + S.length = i + (S.length + 1) by omega]
theorem spotIx_none_of (d : Nat) (n : List UInt8) : ∀ (S : List (Nat × List UInt8 × Nat)) (i : Nat), (∀ x ∈ S, x.1 ≠ d) → spotIx d n S i = none
  | [], _, _ => rfl
  | x :: S, i, h => by
    have h1 : (d == x.1) = false := by
      have := h x (by simp)
      simpa using fun e => this e.symm
    simp only [spotIx, h1, Bool.false_and, Bool.false_eq_true, if_false]
    exact spotIx_none_of d n S (i + 1) fun y hy => h y (by simp [hy])
theorem level_depth (d : Nat) : ∀ (ns : List Sym) (i : Nat), ∀ x ∈ level d ns i, x.1 = d
  | [], _, x, h => by simp [level] at h
  | n :: ns, i, x, h => by
    simp only [level, List.mem_cons] at h
    rcases h with rfl | h
    · rfl
    · exact level_depth d ns (i + 1) x h
theorem slots_depth : ∀ (env : List (List Sym)), ∀ x ∈ slotsOf env, x.1 ≤ env.length
  | [], x, h => by simp [slotsOf] at h
  | ns :: env, x, h => by
    simp only [slotsOf, List.mem_append] at h
    rcases h with h | h
    · have := slots_depth env x h; simp; omega
    · have := level_depth _ _ _ x h; simp; omega
theorem spotIx_level (d : Nat) (n : Sym) : ∀ (ns : List Sym) (i j : Nat), (spotIx d n (level d ns i) j).map (·.2) = nameIx n ns i
  | [], _, _ => rfl
  | m :: ns, i, j => by
    simp only [level, spotIx, nameIx, beq_self_eq_true, Bool.true_and]
    split
    · rfl
    · exact spotIx_level d n ns (i + 1) (j + 1)
theorem spotIx_slots (n : Sym) : ∀ (env : List (List Sym)) (k : Nat) (h1 : 1 ≤ k) (h2 : k ≤ env.length), (spotIx k n (slotsOf env) 0).map (·.2) = nameIx n (env[env.length - k]'(by omega)) 0
  | [], k, h1, h2 => by simp at h2; omega
  | ns :: env, k, h1, h2 => by
    simp only [slotsOf]
    rw [spotIx_append]
    simp only [List.length_cons] at h2
    by_cases hk : k = env.length + 1
    · subst hk
      have e : spotIx (env.length + 1) n (slotsOf env) 0 = none := spotIx_none_of _ _ _ _ fun x hx => by have := slots_depth env x hx; omega
      rw [e]
      simp only [List.length_cons, Nat.sub_self, List.getElem_cons_zero]
      exact spotIx_level _ _ _ _ _
    · have ih := spotIx_slots n env k h1 (by omega)
      have e2 : ∀ i, spotIx k n (level (env.length + 1) ns 0) i = none := fun i => spotIx_none_of _ _ _ _ fun x hx => by have := level_depth _ _ _ x hx; omega
      have e3 : (ns :: env)[(ns :: env).length - k]'(by simp; omega) = env[env.length - k]'(by omega) := by
        simp only [List.length_cons]
        have : env.length + 1 - k = (env.length - k) + 1 := by omega
        simp [this]
      rw [e3, ← ih]
      cases hs : spotIx k n (slotsOf env) 0 with
      | some r => rfl
      | none => simp [e2]
theorem findName_step (n : Sym) (env : List (List Sym)) (up : Nat) (h : up < env.length) :
    findName n (env.drop up) up = match nameIx n env[up] 0 with | some k => some (up, k) | none => findName n (env.drop (up + 1)) (up + 1) := by
  rw [List.drop_eq_getElem_cons h, findName]
  cases nameIx n env[up] 0 <;> rfl
end Go.Proofs.YtodeeegbajgafaaGreatDoor

namespace Go.Proofs.YtodeeegbajgafaaGreatDoor
open Go.RowKit
def nameV (n : Rd.Sym) (l : Option (Nat × Nat)) : Value := .agg #[symV n, .bool l.isSome, .int .i64 (locUp l), .int .i64 (locSlot l)]
theorem isSome_of_map {α β : Type} {o : Option α} {p : Option β} {f : α → β} (h : o.map f = p) : o.isSome = p.isSome := by
  subst h; cases o <;> rfl
end Go.Proofs.YtodeeegbajgafaaGreatDoor

namespace Go.Proofs.YtodeeegbajgafaaGreatDoor
open Go.RowKit
theorem rules_none (n : Rd.Sym) (h : Rd.keys.contains n = false) : symIx n ruleList 0 = none := by
  simp only [Rd.keys, List.contains_cons, List.contains_nil, Bool.or_false, Bool.or_eq_false_iff] at h
  obtain ⟨h1, h2, h3, h4, h5, h6, h7, h8, h9, h10, h11⟩ := h
  simp only [Rd.kwQuote, Rd.kwIf, Rd.kwLambda, Rd.kwBegin, Rd.kwLet, Rd.kwSet, Rd.kwAnd, Rd.kwOr, Rd.kwReset, Rd.kwShift, Rd.kwDefine] at h1 h2 h3 h4 h5 h6 h7 h8 h9 h10 h11
  simp [ruleList, symIx, h1, h2, h3, h4, h5, h6, h7, h8, h9, h10, h11]
theorem zero188 (w : World) : (zeroValue 188).run Tryz.prog w = .ok .nilFunc w := by kernel_rfl
theorem eqf_nil (w : World) : (binOp .eql 188 .nilFunc .nilFunc).run Tryz.prog w = .ok (.bool true) w := by kernel_rfl
theorem nef_nil (w : World) : (binOp .neq 188 .nilFunc .nilFunc).run Tryz.prog w = .ok (.bool false) w := by kernel_rfl
theorem nef_func (k : FuncId) (w : World) : (binOp .neq 188 (.func (.func k) #[] #[]) .nilFunc).run Tryz.prog w = .ok (.bool true) w := by kernel_rfl
end Go.Proofs.YtodeeegbajgafaaGreatDoor
