/- What a word is: a number, a truth, a symbol, or nothing. What a source without dots and quote marks reads as: lists of words. Forms, and which form a datum is: those forms that the statements use, where a datum is one. The machine, as plain functions: those steps that the statements use. Runs of the plain machine: forms in turn, from a new machine on. The forms of any data, or the place of the first datum that is none; plain functions. What a source reads as, with dots and quote marks; or where it is refused. -/
import Derived.Test.YtodeeegbajgafaaGreatDoorQ00
import Derived.Lib.Strings
import Derived.Lib.ParseIntB
namespace Go.Proofs.YtodeeegbajgafaaGreatDoor
namespace Rd
inductive A where
  | num (n : Int)
  | truth (b : Bool)
  | sym (l : List UInt8)
  | empty
  deriving DecidableEq
def beginsNum (l : List UInt8) : Bool :=
  match Lib.trimPrefix l [45] with
  | [] => false
  | b :: _ => isDigit b
def atomOf (l : List UInt8) : Option A :=
  if l = [35, 116] then some (.truth true) else if l = [35, 102] then some (.truth false) else
  match l with
  | [] => none
  | b :: _ => if b.toNat = 35 then none else if beginsNum l then (match Lib.parseIntB 64 l with | .ok v => some (.num v) | _ => none) else some (.sym l)
end Rd
end Go.Proofs.YtodeeegbajgafaaGreatDoor

namespace Go.Proofs.YtodeeegbajgafaaGreatDoor
namespace Rd
/-- A datum with its place: a list of its parts, and its end. -/
inductive D where
  | mk (place : Nat) (parts : List D) (en : A)
end Rd
end Go.Proofs.YtodeeegbajgafaaGreatDoor
namespace Go.Proofs.YtodeeegbajgafaaGreatDoor
namespace Rd
end Rd
end Go.Proofs.YtodeeegbajgafaaGreatDoor

namespace Go.Proofs.YtodeeegbajgafaaGreatDoor
namespace Rd
abbrev Sym := List UInt8
inductive F where
  | const (a : A)
  | quoted (d : D)
  | name (n : Sym) (loc : Option (Nat × Nat))
  | ite (t a e : F)
  | ift (t a : F)
  | lam (k : Nat) (body : List F)
  | begin_ (body : List F)
  | let_ (vals body : List F)
  | set_ (n : Sym) (loc : Option (Nat × Nat)) (v : F)
  | until_ (stop : Bool) (fs : List F)
  | reset (body : List F)
  | shift (body : List F)
  | define (n : Sym) (v : F)
  | call (parts : List F)
def kwQuote : Sym := [113, 117, 111, 116, 101]
def kwIf : Sym := [105, 102]
def kwLambda : Sym := [108, 97, 109, 98, 100, 97]
def kwBegin : Sym := [98, 101, 103, 105, 110]
def kwLet : Sym := [108, 101, 116]
def kwSet : Sym := [115, 101, 116, 33]
def kwAnd : Sym := [97, 110, 100]
def kwOr : Sym := [111, 114]
def kwReset : Sym := [114, 101, 115, 101, 116]
def kwShift : Sym := [115, 104, 105, 102, 116]
def kwDefine : Sym := [100, 101, 102, 105, 110, 101]
def keys : List Sym := [kwQuote, kwIf, kwLambda, kwBegin, kwLet, kwSet, kwAnd, kwOr, kwReset, kwShift, kwDefine]
/-- Where a name stands among names. -/
def nameIx (n : Sym) : List Sym → Nat → Option Nat
  | [], _ => none
  | m :: ns, i => if n == m then some i else nameIx n ns (i + 1)
/-- Where a name stands in the scopes around, the innermost first: how far out, and in which slot. -/
def findName (n : Sym) : List (List Sym) → Nat → Option (Nat × Nat)
  | [], _ => none
  | ns :: env, up => match nameIx n ns 0 with
    | some k => some (up, k)
    | none => findName n env (up + 1)
def D.place : D → Nat | .mk p _ _ => p
def D.parts : D → List D | .mk _ ds _ => ds
def D.en : D → A | .mk _ _ e => e
/-- The symbol that a datum is. -/
def D.sym : D → Option Sym
  | .mk _ [] (.sym n) => some n
  | _ => none
/-- The name that a datum is: a symbol that is no keyword. -/
def D.name (d : D) : Option Sym := match d.sym with
  | some n => if keys.contains n then none else some n
  | none => none
end Rd
end Go.Proofs.YtodeeegbajgafaaGreatDoor

namespace Go.Proofs.YtodeeegbajgafaaGreatDoor
namespace Mc
open Rd
mutual
/-- Values. -/
inductive V where
  | atom (a : A)
  | pair (h t : V)
  | basic (i : Nat)
  | clo (k : Nat) (body : List F) (env : List (List V))
  | cont (todo : List Fr)
/-- Things to be done with a value; forms and values as they were when it was laid. -/
inductive Fr where
  | choose (t a e : F) (env : List (List V))
  | body (fs : List F) (env : List (List V))
  | until_ (stop : Bool) (fs : List F) (env : List (List V))
  | each (fs : List F) (env : List (List V)) (vals : List V) (hd : Hd)
  | set_ (n : Sym) (v : F) (env : List (List V))
  | define (n : Sym) (v : F)
/-- Who is handed all values. -/
inductive Hd where
  | call
  | lett (vs body : List F) (env : List (List V))
end
abbrev Env := List (List V)
def listV : List V → V
  | [] => .atom .empty
  | v :: vs => .pair v (listV vs)
def listE (ev : V) : List V → V
  | [] => ev
  | v :: vs => .pair v (listE ev vs)
mutual
/-- The value of a datum. -/
def valD : D → V
  | .mk _ ds en => listE (.atom en) (valL ds)
def valL : List D → List V
  | [] => []
  | d :: ds => valD d :: valL ds
end
def find? (n : Sym) (G : List (Sym × V)) : Option V := (G.find? (·.1 == n)).map (·.2)
end Mc
end Go.Proofs.YtodeeegbajgafaaGreatDoor

namespace Go.Proofs.YtodeeegbajgafaaGreatDoor
open Rd
namespace Mc
def nameAt : Nat → Sym
  | 0 => [43] | 1 => [42] | 2 => [45] | 3 => [113, 117, 111, 116, 105, 101, 110, 116] | 4 => [114, 101, 109, 97, 105, 110, 100, 101, 114] | 5 => [60] | 6 => [62] | 7 => [61]
  | 8 => [99, 111, 110, 115] | 9 => [99, 97, 114] | 10 => [99, 100, 114] | 11 => [108, 105, 115, 116] | 12 => [112, 97, 105, 114, 63] | 13 => [110, 117, 108, 108, 63]
  | 14 => [110, 117, 109, 98, 101, 114, 63] | 15 => [115, 121, 109, 98, 111, 108, 63] | 16 => [112, 114, 111, 99, 101, 100, 117, 114, 101, 63] | 17 => [98, 111, 111, 108, 101, 97, 110, 63]
  | 18 => [101, 113, 63] | 19 => [110, 111, 116] | _ => [100, 105, 115, 112, 108, 97, 121]
/-- The names of a new machine. -/
def G0 : List (Sym × V) := (List.range 21).map fun i => (nameAt i, .basic i)
end Mc
end Go.Proofs.YtodeeegbajgafaaGreatDoor

namespace Go.Proofs.YtodeeegbajgafaaGreatDoor
namespace Rd
/-- Parsed; or it is none itself; or the place of the first datum in it that is none. -/
inductive PR (α : Type) where
  | ok (a : α)
  | no (p : Nat)
  | bad (p : Nat)
def PR.map {α β : Type} (f : α → β) : PR α → PR β
  | .ok a => .ok (f a)
  | .no p => .bad p
  | .bad p => .bad p
def D.isList (d : D) : Bool := d.en == .empty
/-- The names that data are, all different. -/
def namesK : List D → List Sym → Option (List Sym)
  | [], acc => some acc
  | d :: ds, acc => match d.name with
    | some n => if acc.contains n then none else namesK ds (acc ++ [n])
    | none => none
/-- The names and the values of bindings. -/
def bindsK : List D → Option (List D × List D)
  | [] => some ([], [])
  | d :: ds => match d.parts with
    | [a, b] => if d.isList then (bindsK ds).map fun x => (a :: x.1, b :: x.2) else none
    | _ => none
mutual
def kForm : Nat → List (List Sym) → D → PR F
  | 0, _, d => .no d.place
  | _ + 1, env, .mk p [] en => match en with
    | .num n => .ok (.const (.num n))
    | .truth b => .ok (.const (.truth b))
    | .sym n => if keys.contains n then .no p else .ok (.name n (findName n env 0))
    | .empty => .no p
  | f + 1, env, .mk p (d0 :: rest) en =>
    if en ≠ .empty then .no p else
    match d0.sym with
    | some kw =>
      if kw = kwQuote then (match rest with
        | [d] => .ok (.quoted d)
        | _ => .no p)
      else if kw = kwIf then (match rest with
        | [_, _] => (match kForms f env rest with
          | .ok [t, a] => .ok (.ift t a)
          | .ok _ => .bad p
          | .no q => .bad q
          | .bad q => .bad q)
        | [_, _, _] => (match kForms f env rest with
          | .ok [t, a, e] => .ok (.ite t a e)
          | .ok _ => .bad p
          | .no q => .bad q
          | .bad q => .bad q)
        | _ => .no p)
      else if kw = kwLambda then (match rest with
        | ps :: b :: bs => if ps.isList then (match namesK ps.parts [] with
          | some ns => (kForms f (ns :: env) (b :: bs)).map (.lam ns.length ·)
          | none => .no p) else .no p
        | _ => .no p)
      else if kw = kwBegin then (match rest with
        | b :: bs => (kForms f env (b :: bs)).map .begin_
        | [] => .no p)
      else if kw = kwLet then (match rest with
        | bs :: b :: bd => if bs.isList then (match bindsK bs.parts with
          | some (xs, ys) => (match namesK xs [] with
            | some ns => (match kForms f env ys with
              | .ok vs => (kForms f (ns :: env) (b :: bd)).map (.let_ vs ·)
              | .no q => .bad q
              | .bad q => .bad q)
            | none => .no p)
          | none => .no p) else .no p
        | _ => .no p)
      else if kw = kwSet then (match rest with
        | [nm, v] => (match nm.name with
          | some n => (kForm f env v).map (.set_ n (findName n env 0) ·)
          | none => .no p)
        | _ => .no p)
      else if kw = kwAnd then (match rest with
        | [] => .ok (.const (.truth true))
        | b :: bs => (kForms f env (b :: bs)).map (.until_ false ·))
      else if kw = kwOr then (match rest with
        | [] => .ok (.const (.truth false))
        | b :: bs => (kForms f env (b :: bs)).map (.until_ true ·))
      else if kw = kwReset then (match rest with
        | b :: bs => (kForms f env (b :: bs)).map .reset
        | [] => .no p)
      else if kw = kwShift then (match rest with
        | nm :: b :: bs => (match nm.name with
          | some n => (kForms f ([n] :: env) (b :: bs)).map .shift
          | none => .no p)
        | _ => .no p)
      else if kw = kwDefine then .no p
      else (kForms f env (d0 :: rest)).map .call
    | none => (kForms f env (d0 :: rest)).map .call
def kForms : Nat → List (List Sym) → List D → PR (List F)
  | 0, _, [] => .ok []
  | 0, _, d :: _ => .bad d.place
  | _ + 1, _, [] => .ok []
  | f + 1, env, d :: ds => match kForm f env d with
    | .ok x => (match kForms f env ds with
      | .ok xs => .ok (x :: xs)
      | .no q => .bad q
      | .bad q => .bad q)
    | .no q => .bad q
    | .bad q => .bad q
end
/-- A form of a source: a define, or any other. -/
def kTop (f : Nat) (d : D) : PR F :=
  match d with
  | .mk p (d0 :: rest) .empty =>
    if d0.sym = some kwDefine then
      (match rest with
      | hd :: b :: bs => (match hd.parts with
        | nm :: ps => (match nm.name with
          | some n => if hd.isList then (match namesK ps [] with
            | some ns => (kForms f [ns] (b :: bs)).map fun x => .define n (.lam ns.length x)
            | none => .no p) else .no p
          | none => .no p)
        | [] => (match hd.name, bs with
          | some n, [] => (kForm f [] b).map (.define n ·)
          | _, _ => .no p))
      | _ => .no p)
    else kForm f [] d
  | _ => kForm f [] d
def kTops (f : Nat) : List D → PR (List F)
  | [] => .ok []
  | d :: ds => match kTop f d with
    | .ok x => (match kTops f ds with
      | .ok xs => .ok (x :: xs)
      | .no q => .bad q
      | .bad q => .bad q)
    | .no q => .bad q
    | .bad q => .bad q
/-- One result behind the other. -/
def PR.app : PR (List F) → PR (List F) → PR (List F)
  | .bad p, _ => .bad p
  | .no p, _ => .bad p
  | .ok xs, .ok ys => .ok (xs ++ ys)
  | .ok _, .no p => .bad p
  | .ok _, .bad p => .bad p
def PR.one : PR F → PR (List F)
  | .bad p => .bad p
  | .no p => .bad p
  | .ok x => .ok [x]
theorem kForms_cons (f : Nat) (env : List (List Sym)) (d : D) (ds : List D) : kForms (f + 1) env (d :: ds) = (kForm f env d).one.app (kForms f env ds) := by
  rw [kForms]
  cases kForm f env d with
  | bad p => rfl
  | no p => rfl
  | ok x => cases kForms f env ds <;> rfl
theorem PR.app_assoc (a b c : PR (List F)) : (a.app b).app c = a.app (b.app c) := by
  cases a with
  | bad p => rfl
  | no p => rfl
  | ok xs => cases b with
    | bad p => rfl
    | no p => rfl
    | ok ys => cases c with
      | bad p => rfl
      | no p => rfl
      | ok zs => simp [PR.app, List.append_assoc]
/-- Never itself refused. -/
def PR.fine : PR (List F) → Prop
  | .no _ => False
  | _ => True
theorem PR.app_fine (a b : PR (List F)) : (a.app b).fine := by cases a <;> cases b <;> trivial
theorem PR.app_nil (a : PR (List F)) (h : a.fine) : a.app (.ok []) = a := by
  cases a with
  | ok xs => simp [PR.app]
  | no p => exact h.elim
  | bad p => rfl
theorem PR.nil_app (a : PR (List F)) (h : a.fine) : PR.app (.ok []) a = a := by
  cases a with
  | ok xs => simp [PR.app]
  | no p => exact h.elim
  | bad p => rfl
theorem kForms_fine (f : Nat) (env : List (List Sym)) (ds : List D) : (kForms f env ds).fine := by
  cases f with
  | zero => cases ds <;> rw [kForms] <;> trivial
  | succ f => cases ds with
    | nil => rw [kForms]; trivial
    | cons d ds => rw [kForms_cons]; exact PR.app_fine _ _
mutual
def kzD : D → Nat
  | .mk _ ds _ => 1 + kzL ds
def kzL : List D → Nat
  | [] => 0
  | d :: ds => kzD d + kzL ds
end
theorem kzD_pos (d : D) : 1 ≤ kzD d := by cases d; rw [kzD]; omega
theorem kzL_len : ∀ (ds : List D), ds.length ≤ kzL ds
  | [] => Nat.zero_le _
  | d :: ds => by
    have := kzL_len ds
    have := kzD_pos d
    rw [kzL, List.length_cons]
    omega
theorem kzL_drop : ∀ (ds : List D) (i : Nat), kzL (ds.drop i) ≤ kzL ds
  | [], i => by simp
  | d :: ds, 0 => Nat.le_refl _
  | d :: ds, i + 1 => by
    rw [List.drop_succ_cons, kzL]
    have := kzL_drop ds i
    omega
theorem kzL_drop_lt (ds : List D) (i : Nat) (h : i < ds.length) : kzL (ds.drop i) = kzD ds[i] + kzL (ds.drop (i + 1)) := by
  rw [List.drop_eq_getElem_cons h, kzL]
theorem kForms_length : ∀ (f : Nat) (env : List (List Sym)) (ds : List D) (xs : List F), kForms f env ds = .ok xs → xs.length = ds.length
  | 0, _, [], xs, h => by rw [kForms] at h; cases h; rfl
  | 0, _, d :: ds, xs, h => by rw [kForms] at h; cases h
  | f + 1, _, [], xs, h => by rw [kForms] at h; cases h; rfl
  | f + 1, env, d :: ds, xs, h => by
    rw [kForms_cons] at h
    cases h1 : kForm f env d with
    | bad p => rw [h1] at h; cases h
    | no p => rw [h1] at h; cases h
    | ok x =>
      rw [h1] at h
      cases h2 : kForms f env ds with
      | bad p => rw [h2] at h; cases h
      | no p => rw [h2] at h; cases h
      | ok ys =>
        rw [h2] at h
        cases h
        have := kForms_length f env ds ys h2
        simp [this]
theorem kForms_nil (f : Nat) (env : List (List Sym)) : kForms f env [] = .ok [] := by cases f <;> rw [kForms]
theorem kForm_dot (f : Nat) (env : List (List Sym)) (p : Nat) (d0 : D) (rest : List D) (en : A) (h : en ≠ .empty) : kForm (f + 1) env (.mk p (d0 :: rest) en) = .no p := by
  rw [kForm.eq_def]
  simp only [ne_eq, h, not_false_eq_true, if_true]
theorem kForm_kw (f : Nat) (env : List (List Sym)) (p : Nat) (d0 : D) (rest : List D) : kForm (f + 1) env (.mk p (d0 :: rest) .empty) = (
    match d0.sym with
    | some kw =>
      if kw = kwQuote then (match rest with
        | [d] => .ok (.quoted d)
        | _ => .no p)
      else if kw = kwIf then (match rest with
        | [_, _] => (match kForms f env rest with
          | .ok [t, a] => .ok (.ift t a)
          | .ok _ => .bad p
          | .no q => .bad q
          | .bad q => .bad q)
        | [_, _, _] => (match kForms f env rest with
          | .ok [t, a, e] => .ok (.ite t a e)
          | .ok _ => .bad p
          | .no q => .bad q
          | .bad q => .bad q)
        | _ => .no p)
      else if kw = kwLambda then (match rest with
        | ps :: b :: bs => if ps.isList then (match namesK ps.parts [] with
          | some ns => (kForms f (ns :: env) (b :: bs)).map (.lam ns.length ·)
          | none => .no p) else .no p
        | _ => .no p)
      else if kw = kwBegin then (match rest with
        | b :: bs => (kForms f env (b :: bs)).map .begin_
        | [] => .no p)
      else if kw = kwLet then (match rest with
        | bs :: b :: bd => if bs.isList then (match bindsK bs.parts with
          | some (xs, ys) => (match namesK xs [] with
            | some ns => (match kForms f env ys with
              | .ok vs => (kForms f (ns :: env) (b :: bd)).map (.let_ vs ·)
              | .no q => .bad q
              | .bad q => .bad q)
            | none => .no p)
          | none => .no p) else .no p
        | _ => .no p)
      else if kw = kwSet then (match rest with
        | [nm, v] => (match nm.name with
          | some n => (kForm f env v).map (.set_ n (findName n env 0) ·)
          | none => .no p)
        | _ => .no p)
      else if kw = kwAnd then (match rest with
        | [] => .ok (.const (.truth true))
        | b :: bs => (kForms f env (b :: bs)).map (.until_ false ·))
      else if kw = kwOr then (match rest with
        | [] => .ok (.const (.truth false))
        | b :: bs => (kForms f env (b :: bs)).map (.until_ true ·))
      else if kw = kwReset then (match rest with
        | b :: bs => (kForms f env (b :: bs)).map .reset
        | [] => .no p)
      else if kw = kwShift then (match rest with
        | nm :: b :: bs => (match nm.name with
          | some n => (kForms f ([n] :: env) (b :: bs)).map .shift
          | none => .no p)
        | _ => .no p)
      else if kw = kwDefine then .no p
      else (kForms f env (d0 :: rest)).map .call
    | none => (kForms f env (d0 :: rest)).map .call) := by
  rw [kForm.eq_def]
  all_goals rfl
end Rd
end Go.Proofs.YtodeeegbajgafaaGreatDoor

namespace Go.Proofs.YtodeeegbajgafaaGreatDoor
namespace Rd
/-- Read, with what is left and the deepest list met; or the text at the token that may not stand. -/
inductive RR (α : Type) where
  | ok (a : α) (l : List UInt8) (m : Nat)
  | bad (l : List UInt8)
def quoteD (p : Nat) (d : D) : D := .mk p [.mk p [] (.sym kwQuote), d] .empty
/-- What stands behind the parts of a list: nothing, or a datum behind a dot. -/
def shutL (p : Nat) (dep : Nat) (ds : List D) (m : Nat) (l' : List UInt8) : RR D := if kindAt l' = 2 then .ok (.mk p ds .empty) (skip (behind l')) (max dep m) else .bad l'
def shutT (p : Nat) (dep : Nat) (ds : List D) (m : Nat) : RR D → RR D
  | .bad l'' => .bad l''
  | .ok t l'' m' => if kindAt l'' = 2 then .ok (.mk p (ds ++ t.parts) t.en) (skip (behind l'')) (max dep (max m m')) else .bad l''
def quoteR (p dep : Nat) : RR D → RR D
  | .ok d l' m => .ok (quoteD p d) l' (max dep m)
  | .bad l' => .bad l'
mutual
def tD : Nat → Nat → Nat → List UInt8 → RR D
  | 0, _, _, l => .bad l
  | f + 1, n, dep, l =>
    if kindAt l = 5 then (match atomOf (textOf l) with
      | some a => .ok (.mk (n - l.length) [] a) (skip (behind l)) 0
      | none => .bad l)
    else if kindAt l = 4 then quoteR (n - l.length) (dep + 1) (tD f n (dep + 1) (skip (behind l)))
    else if kindAt l = 1 then (match tL f n (dep + 1) (skip (behind l)) with
      | .bad l' => .bad l'
      | .ok ds l' m => if 0 < ds.length ∧ kindAt l' = 3 then shutT (n - l.length) (dep + 1) ds m (tD f n (dep + 1) (skip (behind l'))) else shutL (n - l.length) (dep + 1) ds m l')
    else .bad l
def tL : Nat → Nat → Nat → List UInt8 → RR (List D)
  | 0, _, _, l => .bad l
  | f + 1, n, dep, l =>
    if kindAt l = 5 ∨ kindAt l = 4 ∨ kindAt l = 1 then (match tD f n dep l with
      | .bad l' => .bad l'
      | .ok d l' m => (match tL f n dep l' with
        | .bad l'' => .bad l''
        | .ok ds l'' m' => .ok (d :: ds) l'' (max m m')))
    else .ok [] l 0
end
theorem next_lt {l : List UInt8} (h : kindAt l ≠ 0) : (skip (behind l)).length < l.length := by
  cases l with
  | nil => exact absurd rfl h
  | cons b r =>
    have h1 := behind_lt b r
    have h2 := skip_le (behind (b :: r))
    omega
theorem next_suffix (l : List UInt8) : skip (behind l) <:+ l := (skip_suffix _).trans (behind_suffix l)
/-- What reading leaves. -/
def Left {α : Type} (l : List UInt8) (k : Nat) (sz : α → Nat) : RR α → Prop
  | .ok a l' _ => l' <:+ l ∧ l'.length + k ≤ l.length ∧ sz a + l'.length ≤ l.length
  | .bad l' => l' <:+ l
theorem left_all : ∀ (f : Nat), (∀ n dep l, Left l 1 (fun d : D => d.parts.length) (tD f n dep l)) ∧ (∀ n dep l, Left l 0 (fun ds : List D => ds.length) (tL f n dep l))
  | 0 => ⟨fun _ _ l => by rw [tD]; exact List.suffix_refl _, fun _ _ l => by rw [tL]; exact List.suffix_refl _⟩
  | f + 1 => by
    obtain ⟨h1, h2⟩ := left_all f
    refine ⟨fun n dep l => ?_, fun n dep l => ?_⟩
    · rw [tD]
      split
      · rename_i hk
        have hl := next_lt (l := l) (by omega)
        split
        · exact ⟨next_suffix l, by omega, by simp [D.parts]; omega⟩
        · exact List.suffix_refl _
      · split
        · rename_i hk
          have hl := next_lt (l := l) (by omega)
          have := h1 n (dep + 1) (skip (behind l))
          revert this
          generalize tD f n (dep + 1) (skip (behind l)) = r
          cases r with
          | bad l' => exact fun h => List.IsSuffix.trans h (next_suffix l)
          | ok d l' m =>
            rintro ⟨a, b, c⟩
            exact ⟨a.trans (next_suffix l), by omega, by show 2 + l'.length ≤ _; omega⟩
        · split
          · rename_i hk
            have hl := next_lt (l := l) (by omega)
            have := h2 n (dep + 1) (skip (behind l))
            revert this
            generalize tL f n (dep + 1) (skip (behind l)) = r
            cases r with
            | bad l' => exact fun h => List.IsSuffix.trans h (next_suffix l)
            | ok ds l' m =>
              rintro ⟨a, b, c⟩
              have c : ds.length + l'.length ≤ (skip (behind l)).length := c
              simp only
              split
              · rename_i h3
                have hl2 := next_lt (l := l') (by omega)
                have := h1 n (dep + 1) (skip (behind l'))
                revert this
                generalize tD f n (dep + 1) (skip (behind l')) = r2
                cases r2 with
                | bad l'' => exact fun h => List.IsSuffix.trans h ((next_suffix l').trans (a.trans (next_suffix l)))
                | ok t l'' m' =>
                  rintro ⟨a', b', c'⟩
                  have c' : t.parts.length + l''.length ≤ (skip (behind l')).length := c'
                  unfold shutT
                  simp only
                  split
                  · rename_i h4
                    have hl3 := next_lt (l := l'') (by omega)
                    refine ⟨(next_suffix l'').trans (a'.trans ((next_suffix l').trans (a.trans (next_suffix l)))), by omega, ?_⟩
                    show (ds ++ t.parts).length + _ ≤ _
                    rw [List.length_append]
                    omega
                  · exact a'.trans ((next_suffix l').trans (a.trans (next_suffix l)))
              · unfold shutL
                split
                · rename_i h4
                  have hl3 := next_lt (l := l') (by omega)
                  exact ⟨(next_suffix l').trans (a.trans (next_suffix l)), by omega, by show ds.length + _ ≤ _; omega⟩
                · exact a.trans (next_suffix l)
          · exact List.suffix_refl _
    · rw [tL]
      split
      · have := h1 n dep l
        revert this
        generalize tD f n dep l = r
        cases r with
        | bad l' => exact fun h => h
        | ok d l' m =>
          rintro ⟨a, b, c⟩
          simp only
          have := h2 n dep l'
          revert this
          generalize tL f n dep l' = r2
          cases r2 with
          | bad l'' => exact fun h => List.IsSuffix.trans h a
          | ok ds l'' m' =>
            rintro ⟨a', b', c'⟩
            have c' : ds.length + l''.length ≤ l'.length := c'
            exact ⟨a'.trans a, by omega, by show (d :: ds).length + _ ≤ _; rw [List.length_cons]; omega⟩
      · exact ⟨List.suffix_refl _, by omega, by simp⟩
theorem tD_left (f n dep : Nat) (l : List UInt8) : Left l 1 (fun d : D => d.parts.length) (tD f n dep l) := (left_all f).1 n dep l
theorem tL_left (f n dep : Nat) (l : List UInt8) : Left l 0 (fun ds : List D => ds.length) (tL f n dep l) := (left_all f).2 n dep l
end Rd
end Go.Proofs.YtodeeegbajgafaaGreatDoor
