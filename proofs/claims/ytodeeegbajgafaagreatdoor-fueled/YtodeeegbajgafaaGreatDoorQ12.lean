/- How the machine's values, scopes and tasks lie in memory. -/
import Derived.Test.YtodeeegbajgafaaGreatDoorQ01
import Derived.Test.YtodeeegbajgafaaGreatDoorQ10
import Derived.Test.YtodeeegbajgafaaGreatDoorQ11
namespace Go.Proofs.YtodeeegbajgafaaGreatDoor
open Go.RowKit
open Mc
def ptrV (b : Nat) : Value := .pointer (some ⟨b, 0, none⟩)
def fnV (k : Nat) : Value := .func (.func k) #[] #[]
def capFn (k : Nat) (bs : List Nat) : Value := .func (.func k) #[] (bs.map ptrV).toArray
/-- The procedures that are there: the least and the most arguments, the function, and what it holds. -/
def basicTab (mb : Nat) : Nat → Int × Int × Nat × Option Value
  | 0 => (0, 9223372036854775807, 115, some (fnV 68))
  | 1 => (0, 9223372036854775807, 115, some (fnV 69))
  | 2 => (1, 9223372036854775807, 115, some (fnV 70))
  | 3 => (2, 2, 115, some (fnV 72))
  | 4 => (2, 2, 115, some (fnV 73))
  | 5 => (1, 9223372036854775807, 115, some (fnV 74))
  | 6 => (1, 9223372036854775807, 115, some (fnV 75))
  | 7 => (1, 9223372036854775807, 115, some (fnV 76))
  | 8 => (2, 2, 77, none)
  | 9 => (1, 1, 127, some (fnV 79))
  | 10 => (1, 1, 127, some (fnV 80))
  | 11 => (0, 9223372036854775807, 81, none)
  | 12 => (1, 1, 82, none)
  | 13 => (1, 1, 83, none)
  | 14 => (1, 1, 84, none)
  | 15 => (1, 1, 85, none)
  | 16 => (1, 1, 86, none)
  | 17 => (1, 1, 87, none)
  | 18 => (2, 2, 88, none)
  | 19 => (1, 1, 89, none)
  | _ => (1, 1, 129, some (.func (.func 39) #[ptrV mb] #[]))
/-- What lies in memory. -/
inductive Ix where
  | val (v : V)
  | vals (vs : List V)
  | env (e : Env)
  | todo (fs : List Fr)
  | fr (f : Fr)
  | hd (h : Hd)
/-- The value is that; all blocks are 'ok'; the machine is mb. -/
inductive RepM (mb : Nat) (ok : Nat → Prop) (w : World) : Value → Ix → Prop
  | atom (a : Rd.A) : RepM mb ok w (aV a) (.val (.atom a))
  | pair (b : Nat) (x y : Value) (T : TypeId) (h t : V) (hb : ok b) (hh : w.heap[b]? = some (.cells #[x, y] T (0, 0))) (h1 : RepM mb ok w x (.val h)) (h2 : RepM mb ok w y (.val t)) : RepM mb ok w (.iface 124 (ptrV b)) (.val (.pair h t))
  | basic0 (i b : Nat) (nm : Value) (T : TypeId) (hb : ok b) (hn : (basicTab mb i).2.2.2 = none) (hh : w.heap[b]? = some (.cells #[.int .i64 (basicTab mb i).1, .int .i64 (basicTab mb i).2.1, nm, fnV (basicTab mb i).2.2.1] T (0, 0))) : RepM mb ok w (.iface 111 (ptrV b)) (.val (.basic i))
  | basic1 (i b c : Nat) (nm x : Value) (T T' : TypeId) (hb : ok b) (hc : ok c) (hx : (basicTab mb i).2.2.2 = some x) (hh : w.heap[b]? = some (.cells #[.int .i64 (basicTab mb i).1, .int .i64 (basicTab mb i).2.1, nm, capFn (basicTab mb i).2.2.1 [c]] T (0, 0))) (hh' : w.heap[c]? = some (.cells #[x] T' (0, 0))) (ht : i = 20 → ok tabBlock ∧ TabOk w) : RepM mb ok w (.iface 111 (ptrV b)) (.val (.basic i))
  | clo (b k : Nat) (s at' : Value) (T : TypeId) (body : List Rd.F) (e : Env) (hb : ok b) (hh : w.heap[b]? = some (.cells #[.int .i64 k, .int .i64 k, s, at'] T (0, 0))) (h1 : RepFs ok w s body) (h2 : RepM mb ok w at' (.env e)) : RepM mb ok w (.iface 226 (ptrV b)) (.val (.clo k body e))
  | cont (b : Nat) (t : Value) (T : TypeId) (fs : List Fr) (hb : ok b) (hh : w.heap[b]? = some (.cells #[.int .i64 1, .int .i64 1, t] T (0, 0))) (h1 : RepM mb ok w t (.todo fs)) : RepM mb ok w (.iface 258 (ptrV b)) (.val (.cont fs))
  | vals0 : RepM mb ok w (.slice none 0 0) (.vals [])
  | vals (g o cap : Nat) (c : Array Value) (T : TypeId) (vs : List V) (vf : Nat → Value) (hg : ok g) (hh : w.heap[g]? = some (.cells c T (0, 0))) (hn : vs.length ≤ cap) (hcap : cap ≤ maxLen)
      (hc : ∀ i, i < vs.length → c[o + i]? = some (vf i)) (hs : ∀ i (hi : i < vs.length), RepM mb ok w (vf i) (.val vs[i])) : RepM mb ok w (.slice (some ⟨g, o, none⟩) vs.length cap) (.vals vs)
  | env0 : RepM mb ok w (.pointer none) (.env [])
  | env1 (b : Nat) (s at' : Value) (T : TypeId) (vs : List V) (e : Env) (hb : ok b) (hh : w.heap[b]? = some (.cells #[s, at'] T (0, 0))) (h1 : RepM mb ok w s (.vals vs)) (h2 : RepM mb ok w at' (.env e)) : RepM mb ok w (ptrV b) (.env (vs :: e))
  | todo0 : RepM mb ok w (.pointer none) (.todo [])
  | todo1 (b : Nat) (d n : Value) (T : TypeId) (f : Fr) (fs : List Fr) (hb : ok b) (hh : w.heap[b]? = some (.cells #[d, n] T (0, 0))) (h1 : RepM mb ok w d (.fr f)) (h2 : RepM mb ok w n (.todo fs)) : RepM mb ok w (ptrV b) (.todo (f :: fs))
  | choose (b1 b2 : Nat) (vt va ve at' : Value) (T1 T2 : TypeId) (t a e : Rd.F) (en : Env) (k1 : ok b1) (k2 : ok b2) (hh1 : w.heap[b1]? = some (.cells #[vt, va, ve] T1 (0, 0))) (hh2 : w.heap[b2]? = some (.cells #[at'] T2 (0, 0)))
      (h1 : RepF ok w va a) (h2 : RepF ok w ve e) (h3 : RepM mb ok w at' (.env en)) : RepM mb ok w (capFn 161 [b1, b2]) (.fr (.choose t a e en))
  | body (b1 b2 : Nat) (s at' : Value) (T1 T2 : TypeId) (fs : List Rd.F) (en : Env) (k1 : ok b1) (k2 : ok b2) (hh1 : w.heap[b1]? = some (.cells #[s] T1 (0, 0))) (hh2 : w.heap[b2]? = some (.cells #[at'] T2 (0, 0)))
      (h1 : RepFs ok w s fs) (h2 : RepM mb ok w at' (.env en)) : RepM mb ok w (capFn 162 [b1, b2]) (.fr (.body fs en))
  | until_ (b0 b1 b2 : Nat) (st : Bool) (s at' : Value) (T0 T1 T2 : TypeId) (fs : List Rd.F) (en : Env) (k0 : ok b0) (k1 : ok b1) (k2 : ok b2) (hh0 : w.heap[b0]? = some (.cells #[.bool st] T0 (0, 0))) (hh1 : w.heap[b1]? = some (.cells #[s] T1 (0, 0))) (hh2 : w.heap[b2]? = some (.cells #[at'] T2 (0, 0)))
      (h1 : RepFs ok w s fs) (h2 : RepM mb ok w at' (.env en)) : RepM mb ok w (capFn 165 [b0, b1, b2]) (.fr (.until_ st fs en))
  | each (b1 b2 b3 b4 : Nat) (s at' vs h : Value) (T1 T2 T3 T4 : TypeId) (fs : List Rd.F) (en : Env) (vals : List V) (hd : Hd) (hb : vals.length + fs.length ≤ 100000) (k1 : ok b1) (k2 : ok b2) (k3 : ok b3) (k4 : ok b4) (hh1 : w.heap[b1]? = some (.cells #[s] T1 (0, 0))) (hh2 : w.heap[b2]? = some (.cells #[at'] T2 (0, 0)))
      (hh3 : w.heap[b3]? = some (.cells #[vs] T3 (0, 0))) (hh4 : w.heap[b4]? = some (.cells #[h] T4 (0, 0))) (h1 : RepFs ok w s fs) (h2 : RepM mb ok w at' (.env en)) (h3 : RepM mb ok w vs (.vals vals)) (h4 : RepM mb ok w h (.hd hd)) : RepM mb ok w (capFn 169 [b1, b2, b3, b4]) (.fr (.each fs en vals hd))
  | set_ (b1 b2 : Nat) (x at' : Value) (T1 T2 : TypeId) (n : Rd.Sym) (v : Rd.F) (en : Env) (k1 : ok b1) (k2 : ok b2) (hh1 : w.heap[b1]? = some (.cells #[symV n, .bool false, .int .i64 0, .int .i64 0, x] T1 (0, 0))) (hh2 : w.heap[b2]? = some (.cells #[at'] T2 (0, 0))) : RepM mb ok w (capFn 164 [b1, b2]) (.fr (.set_ n v en))
  | define (b1 : Nat) (x : Value) (T1 : TypeId) (n : Rd.Sym) (v : Rd.F) (k1 : ok b1) (hh1 : w.heap[b1]? = some (.cells #[symV n, x] T1 (0, 0))) : RepM mb ok w (capFn 168 [b1]) (.fr (.define n v))
  | call : RepM mb ok w (fnV 151) (.hd .call)
  | lett (b1 b2 : Nat) (x s at' : Value) (T1 T2 : TypeId) (vs body : List Rd.F) (en : Env) (k1 : ok b1) (k2 : ok b2) (hh1 : w.heap[b1]? = some (.cells #[x, s] T1 (0, 0))) (hh2 : w.heap[b2]? = some (.cells #[at'] T2 (0, 0)))
      (h1 : RepFs ok w s body) (h2 : RepM mb ok w at' (.env en)) : RepM mb ok w (capFn 163 [b1, b2]) (.hd (.lett vs body en))
theorem RepM.mono {mb : Nat} {ok ok' : Nat → Prop} {w w' : World} {v : Value} {x : Ix} (h : RepM mb ok w v x) (hk : ∀ k, k < w.heap.size → ok k → ok' k ∧ w'.heap[k]? = w.heap[k]?) : RepM mb ok' w' v x := by
  have at' : ∀ {b : Nat} {o : Obj}, ok b → w.heap[b]? = some o → w'.heap[b]? = some o := fun hb hh => ((hk _ (lt_of_at hh) hb).2).trans hh
  have ok1 : ∀ {b : Nat} {o : Obj}, ok b → w.heap[b]? = some o → ok' b := fun hb hh => (hk _ (lt_of_at hh) hb).1
  induction h with
  | atom a => exact .atom a
  | pair b x y T h t hb hh _ _ i1 i2 => exact .pair b x y T h t (ok1 hb hh) (at' hb hh) i1 i2
  | basic0 i b nm T hb hn hh => exact .basic0 i b nm T (ok1 hb hh) hn (at' hb hh)
  | basic1 i b c nm x T T' hb hc hx hh hh' ht => exact .basic1 i b c nm x T T' (ok1 hb hh) (ok1 hc hh') hx (at' hb hh) (at' hc hh') fun e => ⟨(hk _ (ht e).2.lt (ht e).1).1, (ht e).2.on (hk _ (ht e).2.lt (ht e).1).2⟩
  | clo b k s a T body e hb hh h1 _ i2 => exact .clo b k s a T body e (ok1 hb hh) (at' hb hh) (h1.mono hk) i2
  | cont b t T fs hb hh _ i1 => exact .cont b t T fs (ok1 hb hh) (at' hb hh) i1
  | vals0 => exact .vals0
  | vals g o cap c T vs vf hg hh hn hcap hc _ ih => exact .vals g o cap c T vs vf (ok1 hg hh) (at' hg hh) hn hcap hc ih
  | env0 => exact .env0
  | env1 b s a T vs e hb hh _ _ i1 i2 => exact .env1 b s a T vs e (ok1 hb hh) (at' hb hh) i1 i2
  | todo0 => exact .todo0
  | todo1 b d n T f fs hb hh _ _ i1 i2 => exact .todo1 b d n T f fs (ok1 hb hh) (at' hb hh) i1 i2
  | choose b1 b2 vt va ve a T1 T2 t x e en k1 k2 hh1 hh2 h1 h2 _ i3 => exact .choose b1 b2 vt va ve a T1 T2 t x e en (ok1 k1 hh1) (ok1 k2 hh2) (at' k1 hh1) (at' k2 hh2) (h1.mono hk) (h2.mono hk) i3
  | body b1 b2 s a T1 T2 fs en k1 k2 hh1 hh2 h1 _ i2 => exact .body b1 b2 s a T1 T2 fs en (ok1 k1 hh1) (ok1 k2 hh2) (at' k1 hh1) (at' k2 hh2) (h1.mono hk) i2
  | until_ b0 b1 b2 st s a T0 T1 T2 fs en k0 k1 k2 hh0 hh1 hh2 h1 _ i2 => exact .until_ b0 b1 b2 st s a T0 T1 T2 fs en (ok1 k0 hh0) (ok1 k1 hh1) (ok1 k2 hh2) (at' k0 hh0) (at' k1 hh1) (at' k2 hh2) (h1.mono hk) i2
  | each b1 b2 b3 b4 s a vs h T1 T2 T3 T4 fs en vals hd hb k1 k2 k3 k4 hh1 hh2 hh3 hh4 h1 _ _ _ i2 i3 i4 =>
    exact .each b1 b2 b3 b4 s a vs h T1 T2 T3 T4 fs en vals hd hb (ok1 k1 hh1) (ok1 k2 hh2) (ok1 k3 hh3) (ok1 k4 hh4) (at' k1 hh1) (at' k2 hh2) (at' k3 hh3) (at' k4 hh4) (h1.mono hk) i2 i3 i4
  | set_ b1 b2 x a T1 T2 n v en k1 k2 hh1 hh2 => exact .set_ b1 b2 x a T1 T2 n v en (ok1 k1 hh1) (ok1 k2 hh2) (at' k1 hh1) (at' k2 hh2)
  | define b1 x T1 n v k1 hh1 => exact .define b1 x T1 n v (ok1 k1 hh1) (at' k1 hh1)
  | call => exact .call
  | lett b1 b2 x s a T1 T2 vs body en k1 k2 hh1 hh2 h1 _ i2 => exact .lett b1 b2 x s a T1 T2 vs body en (ok1 k1 hh1) (ok1 k2 hh2) (at' k1 hh1) (at' k2 hh2) (h1.mono hk) i2
/-- Data alone: atoms and pairs of such. -/
def V.data : V → Prop
  | .atom _ => True
  | .pair h t => V.data h ∧ V.data t
  | _ => False
theorem RepM.toQ {mb : Nat} {ok : Nat → Prop} {w : World} : ∀ (v : V) (x : Value), RepM mb ok w x (.val v) → V.data v → RepQ ok w x v
  | .atom a, x, h, _ => by cases h; exact .atom a
  | .pair a b, x, h, hd => by
    cases h with
    | pair k y z T _ _ hb hh h1 h2 =>
      rw [V.data] at hd
      exact .pair k y z T a b hb hh (RepM.toQ a y h1 hd.1) (RepM.toQ b z h2 hd.2)
  | .basic _, _, _, hd => by simp [V.data] at hd
  | .clo .., _, _, hd => by simp [V.data] at hd
  | .cont _, _, _, hd => by simp [V.data] at hd
theorem RepM.iface {mb : Nat} {ok : Nat → Prop} {w : World} {x : Value} {v : V} (h : RepM mb ok w x (.val v)) : ∃ t y, x = .iface t y := by
  cases h with
  | atom a => cases a <;> exact ⟨_, _, rfl⟩
  | pair => exact ⟨_, _, rfl⟩
  | basic0 => exact ⟨_, _, rfl⟩
  | basic1 => exact ⟨_, _, rfl⟩
  | clo => exact ⟨_, _, rfl⟩
  | cont => exact ⟨_, _, rfl⟩
end Go.Proofs.YtodeeegbajgafaaGreatDoor
