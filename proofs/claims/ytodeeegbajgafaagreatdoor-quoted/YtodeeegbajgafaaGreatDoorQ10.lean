/- How forms lie in memory, and the parser. The map of names at depths says what the scopes around say. Where a name stands, worked out ahead of running. The name that a datum is. -/
import Derived.Test.YtodeeegbajgafaaGreatDoorQ01
import Derived.Test.YtodeeegbajgafaaGreatDoorQ06
import Derived.Test.YtodeeegbajgafaaGreatDoorQ07
import Derived.Test.YtodeeegbajgafaaGreatDoorQ09
import Derived.Deep.QuietTactic
import Derived.BigQuiet
namespace Go.Proofs.YtodeeegbajgafaaGreatDoor
open Go.RowKit

def symV (n : Rd.Sym) : Value := .string ⟨n.toArray⟩
def locUp (l : Option (Nat × Nat)) : Nat := (l.map (·.1)).getD 0
def locSlot (l : Option (Nat × Nat)) : Nat := (l.map (·.2)).getD 0

/-- A value of data. -/
inductive RepQ (ok : Nat → Prop) (w : World) : Value → Mc.V → Prop
  | atom (a : Rd.A) : RepQ ok w (aV a) (.atom a)
  | pair (b : Nat) (x y : Value) (T : TypeId) (h t : Mc.V) (hb : ok b) (hh : w.heap[b]? = some (.cells #[x, y] T (0, 0))) (h1 : RepQ ok w x h) (h2 : RepQ ok w y t) : RepQ ok w (.iface 124 (.pointer (some ⟨b, 0, none⟩))) (.pair h t)
theorem RepQ.mono {ok ok' : Nat → Prop} {w w' : World} {x : Value} {v : Mc.V} (h : RepQ ok w x v) (hk : ∀ k, k < w.heap.size → ok k → ok' k ∧ w'.heap[k]? = w.heap[k]?) : RepQ ok' w' x v := by
  induction h with
  | atom a => exact .atom a
  | pair b x y T h t hb hh _ _ i1 i2 =>
    obtain ⟨h1, h2⟩ := hk b (lt_of_at hh) hb
    exact .pair b x y T h t h1 (h2.trans hh) i1 i2

/-- The value is that form, or the slice holds those forms; all blocks are 'ok'. -/
inductive RepX (ok : Nat → Prop) (w : World) : Value → Rd.F ⊕ List Rd.F → Prop
  | const (a : Rd.A) : RepX ok w (.iface 163 (.agg #[aV a])) (.inl (.const a))
  | quoted (x : Value) (d : Rd.D) (h : RepQ ok w x (Mc.valD d)) : RepX ok w (.iface 163 (.agg #[x])) (.inl (.quoted d))
  | name (n : Rd.Sym) (l : Option (Nat × Nat)) : RepX ok w (.iface 178 (.agg #[symV n, .bool l.isSome, .int .i64 (locUp l), .int .i64 (locSlot l)])) (.inl (.name n l))
  | ite (vt va ve : Value) (t a e : Rd.F) (h1 : RepX ok w vt (.inl t)) (h2 : RepX ok w va (.inl a)) (h3 : RepX ok w ve (.inl e)) : RepX ok w (.iface 166 (.agg #[vt, va, ve])) (.inl (.ite t a e))
  | lam (k : Nat) (s : Value) (b : List Rd.F) (h : RepX ok w s (.inr b)) : RepX ok w (.iface 214 (.agg #[.int .i64 k, s])) (.inl (.lam k b))
  | begin_ (s : Value) (b : List Rd.F) (h : RepX ok w s (.inr b)) : RepX ok w (.iface 169 (.agg #[s])) (.inl (.begin_ b))
  | let_ (s t : Value) (v b : List Rd.F) (h1 : RepX ok w s (.inr v)) (h2 : RepX ok w t (.inr b)) : RepX ok w (.iface 175 (.agg #[s, t])) (.inl (.let_ v b))
  | set_ (n : Rd.Sym) (l : Option (Nat × Nat)) (v : Value) (f : Rd.F) (h : RepX ok w v (.inl f)) : RepX ok w (.iface 181 (.agg #[symV n, .bool l.isSome, .int .i64 (locUp l), .int .i64 (locSlot l), v])) (.inl (.set_ n l f))
  | until_ (st : Bool) (s : Value) (b : List Rd.F) (h : RepX ok w s (.inr b)) : RepX ok w (.iface 222 (.agg #[.bool st, s])) (.inl (.until_ st b))
  | reset (s : Value) (b : List Rd.F) (h : RepX ok w s (.inr b)) : RepX ok w (.iface 183 (.agg #[s])) (.inl (.reset b))
  | shift (s : Value) (b : List Rd.F) (h : RepX ok w s (.inr b)) : RepX ok w (.iface 184 (.agg #[s])) (.inl (.shift b))
  | define (n : Rd.Sym) (v : Value) (f : Rd.F) (h : RepX ok w v (.inl f)) : RepX ok w (.iface 187 (.agg #[symV n, v])) (.inl (.define n f))
  | call (s : Value) (b : List Rd.F) (h : RepX ok w s (.inr b)) : RepX ok w (.iface 190 (.agg #[s])) (.inl (.call b))
  | list (g o cap : Nat) (c : Array Value) (T : TypeId) (fs : List Rd.F) (vf : Nat → Value) (hg : ok g) (hh : w.heap[g]? = some (.cells c T (0, 0))) (hn : fs.length ≤ cap) (hcap : cap ≤ 100000)
      (hc : ∀ i, i < fs.length → c[o + i]? = some (vf i)) (hs : ∀ i (hi : i < fs.length), RepX ok w (vf i) (.inl fs[i])) : RepX ok w (.slice (some ⟨g, o, none⟩) fs.length cap) (.inr fs)

abbrev RepF (ok : Nat → Prop) (w : World) (v : Value) (f : Rd.F) : Prop := RepX ok w v (.inl f)
abbrev RepFs (ok : Nat → Prop) (w : World) (v : Value) (fs : List Rd.F) : Prop := RepX ok w v (.inr fs)

theorem RepX.mono {ok ok' : Nat → Prop} {w w' : World} {v : Value} {x : Rd.F ⊕ List Rd.F} (h : RepX ok w v x) (hk : ∀ k, k < w.heap.size → ok k → ok' k ∧ w'.heap[k]? = w.heap[k]?) : RepX ok' w' v x := by
  induction h with
  | const a => exact .const a
  | quoted x d h => exact .quoted x d (h.mono hk)
  | name n l => exact .name n l
  | ite vt va ve t a e _ _ _ i1 i2 i3 => exact .ite vt va ve t a e i1 i2 i3
  | lam k s b _ i => exact .lam k s b i
  | begin_ s b _ i => exact .begin_ s b i
  | let_ s t v b _ _ i1 i2 => exact .let_ s t v b i1 i2
  | set_ n l v f _ i => exact .set_ n l v f i
  | until_ st s b _ i => exact .until_ st s b i
  | reset s b _ i => exact .reset s b i
  | shift s b _ i => exact .shift s b i
  | define n v f _ i => exact .define n v f i
  | call s b _ i => exact .call s b i
  | list g o cap c T fs vf hg hh hn hcap hc hs ih =>
    obtain ⟨h1, h2⟩ := hk g (lt_of_at hh) hg
    exact .list g o cap c T fs vf h1 (h2.trans hh) hn hcap hc ih

theorem RepF.iface {ok : Nat → Prop} {w : World} {v : Value} {f : Rd.F} (h : RepF ok w v f) : ∃ t x, v = .iface t x := by
  cases h <;> exact ⟨_, _, rfl⟩
theorem RepFs.shape {ok : Nat → Prop} {w : World} {v : Value} {fs : List Rd.F} (h : RepFs ok w v fs) : ∃ a cap, v = .slice (some a) fs.length cap ∧ fs.length ≤ cap ∧ cap ≤ 100000 := by
  cases h with
  | list g o cap c T _ vf hg hh hn hcap hc hs => exact ⟨_, cap, rfl, hn, hcap⟩

/-- The entries of the scopes around, the outermost first. -/
def level (d : Nat) : List Rd.Sym → Nat → List (Nat × List UInt8 × Nat)
  | [], _ => []
  | n :: ns, i => (d, n, i) :: level d ns (i + 1)
def slotsOf : List (List Rd.Sym) → List (Nat × List UInt8 × Nat)
  | [] => []
  | ns :: env => slotsOf env ++ level (env.length + 1) ns 0

/-- The parser lies in block pb, its slots in sb, its rules in kb; no fault was found. -/
structure PAt (pb sb kb : Nat) (env : List (List Rd.Sym)) (w : World) : Prop where
  blk : ∃ T, w.heap[pb]? = some (.cells #[.map (some sb), .int .i64 env.length, .map (some kb), .slice none 0 0] T (0, 0))
  slots : SlotsAt sb (slotsOf env) w
  rules : SymsAt kb ruleList w
  apart : pb ≠ sb ∧ pb ≠ kb ∧ sb ≠ kb

/-- What parsing may write: the parser and its slots. -/
def PM (pb sb : Nat) : Nat → Prop := fun k => k = pb ∨ k = sb

theorem PAt.kept {pb sb kb : Nat} {env : List (List Rd.Sym)} {w w' : World} (h : PAt pb sb kb env w) (hb : Below w.heap.size w w') : PAt pb sb kb env w' := by
  obtain ⟨⟨T, h1⟩, ⟨es, c, h2, h3⟩, ⟨fs, d, h4, h5⟩, h6⟩ := h
  exact ⟨⟨T, Below.at hb h1⟩, ⟨es, c, Below.at hb h2, h3⟩, ⟨fs, d, Below.at hb h4, h5⟩, h6⟩
theorem PAt.lt {pb sb kb : Nat} {env : List (List Rd.Sym)} {w : World} (h : PAt pb sb kb env w) : pb < w.heap.size ∧ sb < w.heap.size ∧ kb < w.heap.size := by
  obtain ⟨⟨T, h1⟩, ⟨es, c, h2, h3⟩, ⟨fs, d, h4, h5⟩, h6⟩ := h
  exact ⟨lt_of_at h1, lt_of_at h2, lt_of_at h4⟩
end Go.Proofs.YtodeeegbajgafaaGreatDoor

namespace Go.Proofs.YtodeeegbajgafaaGreatDoor
open Go.RowKit Rd

theorem spotIx_append (d : Nat) (n : List UInt8) : ∀ (S S' : List (Nat × List UInt8 × Nat)) (i : Nat), spotIx d n (S ++ S') i = match spotIx d n S i with | some r => some r | none => spotIx d n S' (i + S.length)
  | [], S', i => rfl
  | x :: S, S', i => by
    simp only [List.cons_append, spotIx]
    split
    · rfl
    · rw [spotIx_append d n S S' (i + 1)]
      simp only [List.length_cons]
      rw [show i + 1 + S.length = i + (S.length + 1) by omega]

theorem spotIx_none_of (d : Nat) (n : List UInt8) : ∀ (S : List (Nat × List UInt8 × Nat)) (i : Nat), (∀ x ∈ S, x.1 ≠ d) → spotIx d n S i = none
  | [], _, _ => rfl
  | x :: S, i, h => by
    have h1 : (d == x.1) = false := by
      have := h x (by simp)
      simpa using fun e => this e.symm
    simp only [spotIx, h1, Bool.false_and, Bool.false_eq_true, if_false]
    exact spotIx_none_of d n S (i + 1) fun y hy => h y (by simp [hy])

theorem level_depth (d : Nat) : ∀ (ns : List Sym) (i : Nat), ∀ x ∈ level d ns i, x.1 = d
  | [], _, x, h => by simp [level] at h
  | n :: ns, i, x, h => by
    simp only [level, List.mem_cons] at h
    rcases h with rfl | h
    · rfl
    · exact level_depth d ns (i + 1) x h
theorem level_length (d : Nat) : ∀ (ns : List Sym) (i : Nat), (level d ns i).length = ns.length
  | [], _ => rfl
  | n :: ns, i => by simp [level, level_length d ns (i + 1)]
theorem slots_depth : ∀ (env : List (List Sym)), ∀ x ∈ slotsOf env, x.1 ≤ env.length
  | [], x, h => by simp [slotsOf] at h
  | ns :: env, x, h => by
    simp only [slotsOf, List.mem_append] at h
    rcases h with h | h
    · have := slots_depth env x h; simp; omega
    · have := level_depth _ _ _ x h; simp; omega
theorem spotIx_level (d : Nat) (n : Sym) : ∀ (ns : List Sym) (i j : Nat), (spotIx d n (level d ns i) j).map (·.2) = nameIx n ns i
  | [], _, _ => rfl
  | m :: ns, i, j => by
    simp only [level, spotIx, nameIx, beq_self_eq_true, Bool.true_and]
    split
    · rfl
    · exact spotIx_level d n ns (i + 1) (j + 1)

theorem spotIx_slots (n : Sym) : ∀ (env : List (List Sym)) (k : Nat) (h1 : 1 ≤ k) (h2 : k ≤ env.length), (spotIx k n (slotsOf env) 0).map (·.2) = nameIx n (env[env.length - k]'(by omega)) 0
  | [], k, h1, h2 => by simp at h2; omega
  | ns :: env, k, h1, h2 => by
    simp only [slotsOf]
    rw [spotIx_append]
    simp only [List.length_cons] at h2
    by_cases hk : k = env.length + 1
    · subst hk
      have e : spotIx (env.length + 1) n (slotsOf env) 0 = none := spotIx_none_of _ _ _ _ fun x hx => by have := slots_depth env x hx; omega
      rw [e]
      simp only [List.length_cons, Nat.sub_self, List.getElem_cons_zero]
      exact spotIx_level _ _ _ _ _
    · have ih := spotIx_slots n env k h1 (by omega)
      have e2 : ∀ i, spotIx k n (level (env.length + 1) ns 0) i = none := fun i => spotIx_none_of _ _ _ _ fun x hx => by have := level_depth _ _ _ x hx; omega
      have e3 : (ns :: env)[(ns :: env).length - k]'(by simp; omega) = env[env.length - k]'(by omega) := by
        simp only [List.length_cons]
        have : env.length + 1 - k = (env.length - k) + 1 := by omega
        simp [this]
      rw [e3, ← ih]
      cases hs : spotIx k n (slotsOf env) 0 with
      | some r => rfl
      | none => simp [e2]

theorem findName_step (n : Sym) (env : List (List Sym)) (up : Nat) (h : up < env.length) :
    findName n (env.drop up) up = match nameIx n env[up] 0 with | some k => some (up, k) | none => findName n (env.drop (up + 1)) (up + 1) := by
  rw [List.drop_eq_getElem_cons h, findName]
  cases nameIx n env[up] 0 <;> rfl
end Go.Proofs.YtodeeegbajgafaaGreatDoor

namespace Go.Proofs.YtodeeegbajgafaaGreatDoor
open Go.RowKit

def nameV (n : Rd.Sym) (l : Option (Nat × Nat)) : Value := .agg #[symV n, .bool l.isSome, .int .i64 (locUp l), .int .i64 (locSlot l)]

theorem isSome_of_map {α β : Type} {o : Option α} {p : Option β} {f : α → β} (h : o.map f = p) : o.isSome = p.isSome := by
  subst h; cases o <;> rfl

set_option maxHeartbeats 1000000 in
set_option maxRecDepth 10000 in
theorem find_any (pb sb kb : Nat) (env : List (List Rd.Sym)) (n : Rd.Sym) (w : World) (hp : PAt pb sb kb env w) (he : env.length ≤ 100000) :
    Calls Tryz.prog 106 #[.pointer (some ⟨pb, 0, none⟩), symV n] w fun e w' => e = .returned (nameV n (Rd.findName n env 0)) ∧ Below w.heap.size w w' := by
  have hlt := hp.lt
  obtain ⟨⟨T, h1⟩, hsl, _, _⟩ := hp.kept ((Below.refl _ w).alloc (Nat.le_refl _) (.cells #[.string ⟨#[]⟩, .bool false, .int .i64 0, .int .i64 0] 178))
  have c0 := cell_of_at h1 0
  have c1 := cell_of_at h1 1
  simp only [List.getElem?_toArray, List.getElem?_cons_zero, List.getElem?_cons_succ] at c0 c1
  have hlk := fun k => lookup_spot hsl k n
  simp only [spotV] at hlk
  have HLK := (show Hid _ from hlk)
  clear h1 hsl hlk
  unfold symV
  go_enter Tryz.func106, Tryz.ntmps106
  go_wp2
  go_loop [5] (fun i => ∃ k : Nat, k ≤ env.length ∧ i = .int .i64 k ∧ Hid (Rd.findName n (env.drop (env.length - k)) (env.length - k) = Rd.findName n env 0)) (fun i => (intOf i).toNat)
  case atStart => exact ⟨env.length, Nat.le_refl _, rfl, by rw [Hid, Nat.sub_self]; rfl⟩
  case round =>
    obtain ⟨k, hk, rfl, H⟩ := hrel
    by_cases h0 : k = 0
    · subst h0
      have hf : Rd.findName n env 0 = none := by
        have := H.out
        rw [Nat.sub_zero, List.drop_length] at this
        exact this.symm
      have HF := (show Hid _ from hf)
      clear HLK H hf
      go_wp2
      exact bodyPost_ret (v := nameV n none) (by simp [results, Tryz.results106, go_sem, nameV, symV, locUp, locSlot]) rfl ⟨by rw [HF.out], (Below.refl _ _).alloc (Nat.le_refl _) _⟩
    · have hk0 : (0 : Int) < (k : Int) := by omega
      have hs := spotIx_slots n env k (by omega) hk
      have hst := findName_step n env (env.length - k) (by omega)
      have hl := HLK.out k
      have hi := isSome_of_map hs
      rw [hs, hi] at hl
      cases hx : Rd.nameIx n (env[env.length - k]'(by omega)) 0 with
      | none =>
        have hx' : Rd.nameIx n (env[env.length - k]'(by omega)) 0 = none := hx
        rw [hx'] at hl hst
        simp only [Option.getD_none, Option.isSome_none, Int.natCast_zero] at hl
        have HN : Hid (Rd.findName n (env.drop (env.length - (k - 1))) (env.length - (k - 1)) = Rd.findName n env 0) := by
          rw [Hid, ← H.out, hst, show env.length - (k - 1) = env.length - k + 1 by omega]
        clear hs hst hi hx hx' HLK H
        go_wp2
        go_round
        case rel => exact ⟨k - 1, by omega, by rw [show ((k - 1 : Nat) : Int) = (k : Int) - 1 by omega], HN⟩
        case measure => simp [intOf]; omega
      | some sl =>
        have hx' : Rd.nameIx n (env[env.length - k]'(by omega)) 0 = some sl := hx
        rw [hx'] at hl hst
        simp only [Option.getD_some, Option.isSome_some] at hl
        have hf : Rd.findName n env 0 = some (env.length - k, sl) := by rw [← H.out, hst]
        have HF := (show Hid _ from hf)
        clear hs hst hi hx hx' HLK H hf
        have hsub : ((env.length : Int) - (k : Int)) = ((env.length - k : Nat) : Int) := by omega
        go_wp2
        exact bodyPost_ret (v := nameV n (some (env.length - k, sl))) (by simp [results, Tryz.results106, go_sem, nameV, symV, locUp, locSlot]) rfl ⟨by rw [HF.out], (Below.refl _ _).alloc (Nat.le_refl _) _⟩
end Go.Proofs.YtodeeegbajgafaaGreatDoor

namespace Go.Proofs.YtodeeegbajgafaaGreatDoor
open Go.RowKit

theorem rules_none (n : Rd.Sym) (h : Rd.keys.contains n = false) : symIx n ruleList 0 = none := by
  simp only [Rd.keys, List.contains_cons, List.contains_nil, Bool.or_false, Bool.or_eq_false_iff] at h
  obtain ⟨h1, h2, h3, h4, h5, h6, h7, h8, h9, h10, h11⟩ := h
  simp only [Rd.kwQuote, Rd.kwIf, Rd.kwLambda, Rd.kwBegin, Rd.kwLet, Rd.kwSet, Rd.kwAnd, Rd.kwOr, Rd.kwReset, Rd.kwShift, Rd.kwDefine] at h1 h2 h3 h4 h5 h6 h7 h8 h9 h10 h11
  simp [ruleList, symIx, h1, h2, h3, h4, h5, h6, h7, h8, h9, h10, h11]

theorem zero188 (w : World) : (zeroValue 188).run Tryz.prog w = .ok .nilFunc w := by kernel_rfl

theorem eqf_nil (w : World) : (binOp .eql 188 .nilFunc .nilFunc).run Tryz.prog w = .ok (.bool true) w := by kernel_rfl
theorem nef_nil (w : World) : (binOp .neq 188 .nilFunc .nilFunc).run Tryz.prog w = .ok (.bool false) w := by kernel_rfl
theorem nef_func (k : FuncId) (w : World) : (binOp .neq 188 (.func (.func k) #[] #[]) .nilFunc).run Tryz.prog w = .ok (.bool true) w := by kernel_rfl

theorem sym_of_name {d : Rd.D} {n : Rd.Sym} (h : d.name = some n) : ∃ p, d = .mk p [] (.sym n) ∧ Rd.keys.contains n = false := by
  obtain ⟨p, ds, en⟩ := d
  unfold Rd.D.name at h
  cases ds with
  | cons a b => simp [Rd.D.sym] at h
  | nil =>
    cases en <;> simp [Rd.D.sym] at h
    obtain ⟨h1, rfl⟩ := h
    exact ⟨p, rfl, by simpa using h1⟩

set_option maxHeartbeats 1000000 in
set_option maxRecDepth 10000 in
theorem nameOf_any (pb sb kb : Nat) (env : List (List Rd.Sym)) (p : Int) (ad : Option Addr) (c : Nat) (n : Rd.Sym) (w : World) (hp : PAt pb sb kb env w) (hn : Rd.keys.contains n = false) :
    Calls Tryz.prog 105 #[.pointer (some ⟨pb, 0, none⟩), .agg #[.int .i64 p, .slice ad 0 c, .iface 115 (symV n)]] w fun e w' => e = .returned (.tuple #[symV n, .bool true]) ∧ Below w.heap.size w w' := by
  have hS := fun w => symbol_leaf p ad c (.sym n) w
  simp only [aV, Rd.A.symbol, Option.getD_some, Option.isSome_some] at hS
  have HS := (show Hid _ from hS)
  have hnone := rules_none n hn
  clear hS hn
  unfold symV
  go_enter Tryz.func105, Tryz.ntmps105
  go_wp2_with (go_at_call 61; refine (HS.out _).mono ?_; rintro e w1 ⟨rfl, hb⟩)
  have hb1 : Below w.heap.size w w1 := ((Below.refl _ w).alloc (Nat.le_refl _) _).trans (hb.mono (by simp))
  obtain ⟨⟨T, h1⟩, _, hr, _⟩ := hp.kept hb1
  have c2 := cell_of_at h1 2
  simp only [List.getElem?_toArray, List.getElem?_cons_zero, List.getElem?_cons_succ] at c2
  have hlk : ∀ k, (Instr.lookup 92 (.map (some kb)) (.string ⟨n.toArray⟩) false).run Tryz.prog (w1.drewN k) = .ok .nilFunc (w1.drewN k) := by
    intro k
    have hr' : SymsAt kb ruleList (w1.drewN k) := hr
    have := lookup_sym Tryz.underlying92 zero188 hr' n
    rw [hnone] at this
    exact this
  have hlk1 : (Instr.lookup 92 (.map (some kb)) (.string ⟨n.toArray⟩) false).run Tryz.prog w1.drew = .ok .nilFunc w1.drew := hlk 1
  clear hr h1 hnone
  have hq := eqf_nil
  go_region
  all_goals
    go_wp2
    go_ret2
    exact ⟨rfl, hb1.drew⟩
end Go.Proofs.YtodeeegbajgafaaGreatDoor
