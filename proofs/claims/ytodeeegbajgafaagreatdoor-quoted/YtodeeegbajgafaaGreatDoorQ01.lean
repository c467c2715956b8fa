/- What a word is: a number, a truth, a symbol, or nothing. What a source without dots and quote marks reads as: lists of words. Forms, and which form a datum is: those forms that the statements use, where a datum is one. The machine, as plain functions: those steps that the statements use. The forms of lists, laid out. Texts that read as data, part by part. Which form a datum is, rule by rule. Runs of the plain machine: forms in turn, from a new machine on. Forms that come to values on the plain machine, part by part. The walk that gives its things one by one, on the plain machine. What a source reads as, with dots and quote marks; or where it is refused. With less fuel the plain machine stops on the way. -/
import Derived.Test.YtodeeegbajgafaaGreatDoorQ00
import Derived.Lib.Strings
import Derived.Lib.ParseIntB
namespace Go.Proofs.YtodeeegbajgafaaGreatDoor
namespace Rd
inductive A where
  | num (n : Int)
  | truth (b : Bool)
  | sym (l : List UInt8)
  | empty
  deriving DecidableEq
def beginsNum (l : List UInt8) : Bool :=
  match Lib.trimPrefix l [45] with
  | [] => false
  | b :: _ => isDigit b
def atomOf (l : List UInt8) : Option A :=
  if l = [35, 116] then some (.truth true) else if l = [35, 102] then some (.truth false) else
  match l with
  | [] => none
  | b :: _ => if b.toNat = 35 then none else if beginsNum l then (match Lib.parseIntB 64 l with | .ok v => some (.num v) | _ => none) else some (.sym l)
end Rd
end Go.Proofs.YtodeeegbajgafaaGreatDoor

namespace Go.Proofs.YtodeeegbajgafaaGreatDoor
namespace Rd
/-- A datum with its place: a list of its parts, and its end. -/
inductive D where
  | mk (place : Nat) (parts : List D) (en : A)

mutual
/-- One datum of a text 'l' that begins with its token, 'n' the source's length, 'dep' the lists around: the datum, what is left, the deepest list met. -/
def rdDatum : Nat → Nat → Nat → List UInt8 → Option (D × List UInt8 × Nat)
  | 0, _, _, _ => none
  | f + 1, n, dep, l =>
    if kindAt l = 5 then
      match atomOf (textOf l) with
      | some a => some (.mk (n - l.length) [] a, skip (behind l), 0)
      | none => none
    else if kindAt l = 1 then
      match rdList f n (dep + 1) (skip (behind l)) with
      | some (ds, l', m) => if kindAt l' = 2 then some (.mk (n - l.length) ds .empty, skip (behind l'), max (dep + 1) m) else none
      | none => none
    else none
def rdList : Nat → Nat → Nat → List UInt8 → Option (List D × List UInt8 × Nat)
  | 0, _, _, _ => none
  | f + 1, n, dep, l =>
    if kindAt l = 5 ∨ kindAt l = 1 then
      match rdDatum f n dep l with
      | some (d, l', m) =>
        match rdList f n dep l' with
        | some (ds, l'', m') => some (d :: ds, l'', max m m')
        | none => none
      | none => none
    else if kindAt l = 4 then none else some ([], l, 0)
end

theorem rdDatum_word {f n dep : Nat} {l : List UInt8} {r : D × List UInt8 × Nat} (h : rdDatum (f + 1) n dep l = some r) (hk : kindAt l = 5) :
    ∃ a, atomOf (textOf l) = some a ∧ r = (.mk (n - l.length) [] a, skip (behind l), 0) := by
  rw [rdDatum, if_pos hk] at h
  split at h
  · rename_i a ha
    cases h
    exact ⟨a, ha, rfl⟩
  · cases h
theorem rdDatum_list {f n dep : Nat} {l : List UInt8} {r : D × List UInt8 × Nat} (h : rdDatum (f + 1) n dep l = some r) (hk : kindAt l ≠ 5) :
    kindAt l = 1 ∧ ∃ ds l' m, rdList f n (dep + 1) (skip (behind l)) = some (ds, l', m) ∧ kindAt l' = 2 ∧ r = (.mk (n - l.length) ds .empty, skip (behind l'), max (dep + 1) m) := by
  rw [rdDatum, if_neg hk] at h
  split at h
  · rename_i h1
    refine ⟨h1, ?_⟩
    split at h
    · rename_i ds l' m hl
      split at h
      · rename_i h2
        cases h
        exact ⟨ds, l', m, hl, h2, rfl⟩
      · cases h
    · cases h
  · cases h
theorem rdList_more {f n dep : Nat} {l : List UInt8} {r : List D × List UInt8 × Nat} (h : rdList (f + 1) n dep l = some r) (hk : kindAt l = 5 ∨ kindAt l = 1) :
    ∃ d l' m ds l'' m', rdDatum f n dep l = some (d, l', m) ∧ rdList f n dep l' = some (ds, l'', m') ∧ r = (d :: ds, l'', max m m') := by
  rw [rdList, if_pos hk] at h
  split at h
  · rename_i d l' m hd
    split at h
    · rename_i ds l'' m' hl
      cases h
      exact ⟨d, l', m, ds, l'', m', hd, hl, rfl⟩
    · cases h
  · cases h
theorem rdList_end {f n dep : Nat} {l : List UInt8} {r : List D × List UInt8 × Nat} (h : rdList (f + 1) n dep l = some r) (hk : ¬ (kindAt l = 5 ∨ kindAt l = 1)) :
    kindAt l ≠ 4 ∧ r = ([], l, 0) := by
  rw [rdList, if_neg hk] at h
  split at h
  · cases h
  · rename_i h4
    cases h
    exact ⟨h4, rfl⟩
end Rd
end Go.Proofs.YtodeeegbajgafaaGreatDoor
namespace Go.Proofs.YtodeeegbajgafaaGreatDoor
namespace Rd
theorem rdList_short : ∀ (f n dep : Nat) (l : List UInt8) (ds : List D) (l' : List UInt8) (m : Nat), rdList f n dep l = some (ds, l', m) → ds.length < f
  | 0, _, _, _, _, _, _, h => by rw [rdList] at h; cases h
  | f + 1, n, dep, l, ds, l', m, h => by
    by_cases hk : kindAt l = 5 ∨ kindAt l = 1
    · obtain ⟨d, l1, m1, es, l2, m2, h1, h2, h3⟩ := rdList_more h hk
      cases h3
      have := rdList_short f _ _ _ _ _ _ h2
      simp; omega
    · obtain ⟨_, h3⟩ := rdList_end h hk
      cases h3
      simp
end Rd
end Go.Proofs.YtodeeegbajgafaaGreatDoor

namespace Go.Proofs.YtodeeegbajgafaaGreatDoor
namespace Rd
abbrev Sym := List UInt8
inductive F where
  | const (a : A)
  | quoted (d : D)
  | name (n : Sym) (loc : Option (Nat × Nat))
  | ite (t a e : F)
  | lam (k : Nat) (body : List F)
  | begin_ (body : List F)
  | let_ (vals body : List F)
  | set_ (n : Sym) (loc : Option (Nat × Nat)) (v : F)
  | until_ (stop : Bool) (fs : List F)
  | reset (body : List F)
  | shift (body : List F)
  | define (n : Sym) (v : F)
  | call (parts : List F)

def kwQuote : Sym := [113, 117, 111, 116, 101]
def kwIf : Sym := [105, 102]
def kwLambda : Sym := [108, 97, 109, 98, 100, 97]
def kwBegin : Sym := [98, 101, 103, 105, 110]
def kwLet : Sym := [108, 101, 116]
def kwSet : Sym := [115, 101, 116, 33]
def kwAnd : Sym := [97, 110, 100]
def kwOr : Sym := [111, 114]
def kwReset : Sym := [114, 101, 115, 101, 116]
def kwShift : Sym := [115, 104, 105, 102, 116]
def kwDefine : Sym := [100, 101, 102, 105, 110, 101]
def keys : List Sym := [kwQuote, kwIf, kwLambda, kwBegin, kwLet, kwSet, kwAnd, kwOr, kwReset, kwShift, kwDefine]

/-- Where a name stands among names. -/
def nameIx (n : Sym) : List Sym → Nat → Option Nat
  | [], _ => none
  | m :: ns, i => if n == m then some i else nameIx n ns (i + 1)
/-- Where a name stands in the scopes around, the innermost first: how far out, and in which slot. -/
def findName (n : Sym) : List (List Sym) → Nat → Option (Nat × Nat)
  | [], _ => none
  | ns :: env, up => match nameIx n ns 0 with
    | some k => some (up, k)
    | none => findName n env (up + 1)

def D.place : D → Nat | .mk p _ _ => p
def D.parts : D → List D | .mk _ ds _ => ds
def D.en : D → A | .mk _ _ e => e
/-- The symbol that a datum is. -/
def D.sym : D → Option Sym
  | .mk _ [] (.sym n) => some n
  | _ => none
/-- The name that a datum is: a symbol that is no keyword. -/
def D.name (d : D) : Option Sym := match d.sym with
  | some n => if keys.contains n then none else some n
  | none => none
/-- The names that data are, all different. -/
def names : List D → List Sym → Option (List Sym)
  | [], acc => some acc
  | d :: ds, acc => match d.name with
    | some n => if acc.contains n || decide (1000 ≤ acc.length) then none else names ds (acc ++ [n])
    | none => none
/-- The names and the values of bindings. -/
def binds : List D → Option (List D × List D)
  | [] => some ([], [])
  | .mk _ [a, b] .empty :: ds => match binds ds with
    | some (xs, ys) => some (a :: xs, b :: ys)
    | none => none
  | _ => none

mutual
def pForm : Nat → List (List Sym) → D → Option F
  | 0, _, _ => none
  | _ + 1, env, .mk _ [] en => match en with
    | .num n => some (.const (.num n))
    | .truth b => some (.const (.truth b))
    | .sym n => if keys.contains n then none else some (.name n (findName n env 0))
    | .empty => none
  | f + 1, env, .mk _ (d0 :: rest) en =>
    if en ≠ .empty then none else
    match d0.sym with
    | some kw =>
      if kw = kwQuote then (match rest with
        | [.mk _ [] a] => some (.const a)
        | _ => none)
      else if kw = kwIf then (match rest with
        | [_, _, _] => (match pForms f env rest with
          | some [t, a, e] => some (.ite t a e)
          | _ => none)
        | _ => none)
      else if kw = kwLambda then (match rest with
        | .mk _ ps .empty :: b :: bs => (match names ps [] with
          | some ns => (pForms f (ns :: env) (b :: bs)).map (.lam ns.length ·)
          | none => none)
        | _ => none)
      else if kw = kwBegin then (match rest with
        | b :: bs => (pForms f env (b :: bs)).map .begin_
        | _ => none)
      else if kw = kwLet then (match rest with
        | .mk _ bs .empty :: b :: bd => (match binds bs with
          | some (xs, ys) => (match names xs [] with
            | some ns => (match pForms f env ys with
              | some vs => (pForms f (ns :: env) (b :: bd)).map (.let_ vs ·)
              | none => none)
            | none => none)
          | none => none)
        | _ => none)
      else if kw = kwSet then (match rest with
        | [nm, v] => (match nm.name with
          | some n => (pForm f env v).map (.set_ n (findName n env 0) ·)
          | none => none)
        | _ => none)
      else if kw = kwAnd then none
      else if kw = kwOr then (match rest with
        | b :: bs => (pForms f env (b :: bs)).map (.until_ true ·)
        | _ => none)
      else if kw = kwReset then (match rest with
        | b :: bs => (pForms f env (b :: bs)).map .reset
        | _ => none)
      else if kw = kwShift then (match rest with
        | nm :: b :: bs => (match nm.name with
          | some n => (pForms f ([n] :: env) (b :: bs)).map .shift
          | none => none)
        | _ => none)
      else if kw = kwDefine then none
      else (pForms f env (d0 :: rest)).map .call
    | none => (pForms f env (d0 :: rest)).map .call
def pForms : Nat → List (List Sym) → List D → Option (List F)
  | 0, _, _ => none
  | _ + 1, _, [] => some []
  | f + 1, env, d :: ds => match pForm f env d with
    | some x => (match pForms f env ds with
      | some xs => some (x :: xs)
      | none => none)
    | none => none
end

/-- A form of a source: a define, or any other. -/
def pTop (f : Nat) (d : D) : Option F :=
  match d with
  | .mk _ (d0 :: rest) .empty =>
    if d0.sym = some kwDefine then
      (match rest with
      | .mk _ (nm :: p1 :: ps) .empty :: b :: bs => (match nm.name with
        | some n => (match names (p1 :: ps) [] with
          | some ns => (pForms f [ns] (b :: bs)).map fun x => .define n (.lam ns.length x)
          | none => none)
        | none => none)
      | [.mk _ [] (.sym n), v] => if keys.contains n then none else (pForm f [] v).map (.define n ·)
      | _ => none)
    else pForm f [] d
  | _ => pForm f [] d
end Rd
end Go.Proofs.YtodeeegbajgafaaGreatDoor

namespace Go.Proofs.YtodeeegbajgafaaGreatDoor
namespace Mc
open Rd
mutual
/-- Values. -/
inductive V where
  | atom (a : A)
  | pair (h t : V)
  | basic (i : Nat)
  | clo (k : Nat) (body : List F) (env : List (List V))
  | cont (todo : List Fr)
/-- Things to be done with a value; forms and values as they were when it was laid. -/
inductive Fr where
  | choose (t a e : F) (env : List (List V))
  | body (fs : List F) (env : List (List V))
  | until_ (stop : Bool) (fs : List F) (env : List (List V))
  | each (fs : List F) (env : List (List V)) (vals : List V) (hd : Hd)
  | set_ (n : Sym) (v : F) (env : List (List V))
  | define (n : Sym) (v : F)
/-- Who is handed all values. -/
inductive Hd where
  | call
  | lett (vs body : List F) (env : List (List V))
end
abbrev Env := List (List V)

inductive Ctl where
  | ev (f : F) (env : Env)
  | val (v : V)

structure St where
  ctl : Ctl
  todo : List Fr
  beyond : List (List Fr)
  steps : Nat
  kind : Nat
  why : Nat
  G : List (Sym × V)
  shown : List (List UInt8)

def V.isTrue : V → Bool
  | .atom (.truth false) => false
  | _ => true

def inRange (n : Int) : Bool := decide (-9223372036854775808 ≤ n) && decide (n ≤ 9223372036854775807)

/-- All numbers. -/
def nums : List V → Option (List Int)
  | [] => some []
  | .atom (.num n) :: vs => (nums vs).map (n :: ·)
  | _ => none

def fold (f : Int → Int → Int) : Int → List Int → Option Int
  | a, [] => some a
  | a, n :: ns => if inRange (f a n) then fold f (f a n) ns else none

def listV : List V → V
  | [] => .atom .empty
  | v :: vs => .pair v (listV vs)

def listE (ev : V) : List V → V
  | [] => ev
  | v :: vs => .pair v (listE ev vs)
mutual
/-- The value of a datum. -/
def valD : D → V
  | .mk _ ds en => listE (.atom en) (valL ds)
def valL : List D → List V
  | [] => []
  | d :: ds => valD d :: valL ds
end

inductive Res where
  | val (v : V)
  | wrong (why : Nat)
  | shows (v : V)

/-- What the procedures come to that are there; none: not told here. -/
def basicDo (i : Nat) (args : List V) : Option Res :=
  match i with
  | 0 => (match nums args with | some [a, b] => (fold (· + ·) 0 [a, b]).map fun n => .val (.atom (.num n)) | _ => none)
  | 1 => (match nums args with | some [a, b] => (fold (· * ·) 1 [a, b]).map fun n => .val (.atom (.num n)) | _ => none)
  | 2 => (match nums args with
    | some [a, b] => (fold (· - ·) a [b]).map fun n => .val (.atom (.num n))
    | _ => none)
  | 5 => (match nums args with | some [a, b] => some (.val (.atom (.truth (decide (a < b))))) | _ => none)
  | 8 => (match args with | [a, b] => some (.val (.pair a b)) | _ => none)
  | 9 => (match args with | [.pair a _] => some (.val a) | [.atom _] => some (.wrong 2) | _ => none)
  | 10 => (match args with | [.pair _ b] => some (.val b) | _ => none)
  | 11 => some (.val (listV args))
  | 13 => (match args with | [.atom a] => some (.val (.atom (.truth (a == .empty)))) | [.pair _ _] => some (.val (.atom (.truth false))) | _ => none)
  | 20 => (match args with | [v] => some (.shows v) | _ => none)
  | _ => none

def find? (n : Sym) (G : List (Sym × V)) : Option V := (G.find? (·.1 == n)).map (·.2)
def put (n : Sym) (v : V) : List (Sym × V) → List (Sym × V)
  | [] => []
  | g :: G => if g.1 == n then (n, v) :: G else g :: put n v G

def look (env : Env) (up slot : Nat) : Option V := match env[up]? with
  | some vs => vs[slot]?
  | none => none

def St.push (s : St) (f : Fr) : St := { s with todo := f :: s.todo }
def St.eval (s : St) (f : F) (env : Env) : St := { s with ctl := .ev f env }
def St.give (s : St) (v : V) : St := { s with ctl := .val v }
def St.fail (s : St) (why : Nat) : St := { s with kind := 2, why := why }

def St.body (s : St) (fs : List F) (env : Env) : Option St := match fs with
  | [] => none
  | [f] => some (s.eval f env)
  | f :: _ => some ((s.push (.body fs env)).eval f env)

def St.until_ (s : St) (stop : Bool) (fs : List F) (env : Env) : Option St := match fs with
  | [] => none
  | [f] => some (s.eval f env)
  | f :: _ => some ((s.push (.until_ stop fs env)).eval f env)

/-- One step more, if there is fuel. -/
def St.step? (s : St) (fuel : Nat) : St × Bool := if s.steps = fuel then ({ s with kind := 3 }, false) else ({ s with steps := s.steps + 1 }, true)

def V.show? : V → Option (List UInt8)
  | .atom (.num n) => some (toString n).toUTF8.data.toList
  | .atom (.sym n) => some n
  | _ => none

def St.call (s : St) (fuel : Nat) (show_ : V → Option (List UInt8)) : List V → Option St
  | .basic i :: args => (match basicDo i args with
    | some (.val v) => some (s.give v)
    | some (.wrong y) => some (s.fail y)
    | some (.shows v) => (match show_ v with
      | some t => if s.shown.length < 1000000 then some ({ s with shown := s.shown ++ [t] }.give (.atom .empty)) else none
      | none => none)
    | none => none)
  | .clo k body env :: args => if args.length = k then s.body body (args :: env) else none
  | [.cont todo, v] => (match s.step? fuel with
    | (s, true) => some ({ s with beyond := s.todo :: s.beyond, todo := todo }.give v)
    | (s, false) => some s)
  | _ => none

def St.each (s : St) (fuel : Nat) (show_ : V → Option (List UInt8)) (fs : List F) (env : Env) (vals : List V) (hd : Hd) : Option St := match fs with
  | [] => (match hd with
    | .call => s.call fuel show_ vals
    | .lett _ body e => s.body body (vals :: e))
  | f :: _ => some ((s.push (.each fs env vals hd)).eval f env)

def St.start (s : St) (fuel : Nat) (show_ : V → Option (List UInt8)) (f : F) (env : Env) : Option St := match f with
  | .const a => some (s.give (.atom a))
  | .quoted d => some (s.give (valD d))
  | .name n none => (match find? n s.G with | some v => some (s.give v) | none => none)
  | .name _ (some (up, slot)) => if up ≤ 100000 then (match look env up slot with | some v => some (s.give v) | none => none) else none
  | .ite t a e => some ((s.push (.choose t a e env)).eval t env)
  | .lam k body => some (s.give (.clo k body env))
  | .begin_ body => s.body body env
  | .let_ vs body => s.each fuel show_ vs env [] (.lett vs body env)
  | .set_ n none v => some ((s.push (.set_ n v env)).eval v env)
  | .set_ _ (some _) _ => none
  | .until_ stop fs => s.until_ stop fs env
  | .reset body => { s with beyond := s.todo :: s.beyond, todo := [] }.body body env
  | .shift body => (match s.beyond with
    | [] => none
    | _ => { s with todo := [] }.body body ([.cont s.todo] :: env))
  | .define n v => some ((s.push (.define n v)).eval v env)
  | .call parts => s.each fuel show_ parts env [] .call

def St.go (s : St) (fuel : Nat) (show_ : V → Option (List UInt8)) (f : Fr) (v : V) : Option St := match f with
  | .choose _ a e env => some (s.eval (if v.isTrue then a else e) env)
  | .body (_ :: fs) env => s.body fs env
  | .until_ stop (_ :: fs) env => if v.isTrue = stop then some (s.give v) else s.until_ stop fs env
  | .each (_ :: fs) env vals hd => s.each fuel show_ fs env (vals ++ [v]) hd
  | .set_ n _ _ => if (find? n s.G).isSome then some ({ s with G := put n v s.G }.give (.atom .empty)) else none
  | .define n _ => if (find? n s.G).isSome then none else some ({ s with G := s.G ++ [(n, v)] }.give (.atom (.sym n)))
  | _ => none

/-- One round of the machine: none: it ends here, or what it does is not told here. -/
def St.round (s : St) (fuel : Nat) (show_ : V → Option (List UInt8)) : Option St :=
  if s.kind ≠ 0 then none else
  match s.ctl with
  | .ev f env => (match s.step? fuel with
    | (s, true) => s.start fuel show_ f env
    | (s, false) => some s)
  | .val v => (match s.todo with
    | f :: todo => { s with todo := todo }.go fuel show_ f v
    | [] => (match s.beyond with
      | t :: b => some { s with todo := t, beyond := b }
      | [] => none))

/-- The machine has ended: it can't go on, or it has a value. -/
def St.ended (s : St) : Prop := s.kind ≠ 0 ∨ (∃ v, s.ctl = .val v) ∧ s.todo = [] ∧ s.beyond = []

inductive Runs (fuel : Nat) (show_ : V → Option (List UInt8)) : Nat → St → St → Prop
  | nil (s : St) : Runs fuel show_ 0 s s
  | cons {n : Nat} {s s' t : St} (h : s.round fuel show_ = some s') (k : Runs fuel show_ n s' t) : Runs fuel show_ (n + 1) s t
end Mc
end Go.Proofs.YtodeeegbajgafaaGreatDoor

namespace Go.Proofs.YtodeeegbajgafaaGreatDoor
namespace Rd
theorem pForm_cons (f : Nat) (env : List (List Sym)) (p : Nat) (d0 : D) (rest : List D) (en : A) : pForm (f + 1) env (.mk p (d0 :: rest) en) = (
    if en ≠ .empty then none else
    match d0.sym with
    | some kw =>
      if kw = kwQuote then (match rest with
        | [.mk _ [] a] => some (.const a)
        | _ => none)
      else if kw = kwIf then (match rest with
        | [_, _, _] => (match pForms f env rest with
          | some [t, a, e] => some (.ite t a e)
          | _ => none)
        | _ => none)
      else if kw = kwLambda then (match rest with
        | .mk _ ps .empty :: b :: bs => (match names ps [] with
          | some ns => (pForms f (ns :: env) (b :: bs)).map (.lam ns.length ·)
          | none => none)
        | _ => none)
      else if kw = kwBegin then (match rest with
        | b :: bs => (pForms f env (b :: bs)).map .begin_
        | _ => none)
      else if kw = kwLet then (match rest with
        | .mk _ bs .empty :: b :: bd => (match binds bs with
          | some (xs, ys) => (match names xs [] with
            | some ns => (match pForms f env ys with
              | some vs => (pForms f (ns :: env) (b :: bd)).map (.let_ vs ·)
              | none => none)
            | none => none)
          | none => none)
        | _ => none)
      else if kw = kwSet then (match rest with
        | [nm, v] => (match nm.name with
          | some n => (pForm f env v).map (.set_ n (findName n env 0) ·)
          | none => none)
        | _ => none)
      else if kw = kwAnd then none
      else if kw = kwOr then (match rest with
        | b :: bs => (pForms f env (b :: bs)).map (.until_ true ·)
        | _ => none)
      else if kw = kwReset then (match rest with
        | b :: bs => (pForms f env (b :: bs)).map .reset
        | _ => none)
      else if kw = kwShift then (match rest with
        | nm :: b :: bs => (match nm.name with
          | some n => (pForms f ([n] :: env) (b :: bs)).map .shift
          | none => none)
        | _ => none)
      else if kw = kwDefine then none
      else (pForms f env (d0 :: rest)).map .call
    | none => (pForms f env (d0 :: rest)).map .call) := by
  rw [pForm.eq_def]
  all_goals rfl
theorem pForm_leaf (f : Nat) (env : List (List Sym)) (p : Nat) (en : A) : pForm (f + 1) env (.mk p [] en) = (match en with
    | .num n => some (.const (.num n))
    | .truth b => some (.const (.truth b))
    | .sym n => if keys.contains n then none else some (.name n (findName n env 0))
    | .empty => none) := by
  rw [pForm.eq_def]
  all_goals rfl
end Rd
end Go.Proofs.YtodeeegbajgafaaGreatDoor

namespace Go.Proofs.YtodeeegbajgafaaGreatDoor
namespace Rd
/-- No word goes on here. -/
def stops : List UInt8 → Prop
  | [] => True
  | b :: _ => isWord b = false
/-- A list ends here, or the text. -/
def shuts (r : List UInt8) : Prop := kindAt r = 0 ∨ kindAt r = 2
/-- A text that reads as one datum. -/
def Dt (P : D → Prop) (l : List UInt8) (k h : Nat) : Prop := (kindAt l = 5 ∨ kindAt l = 1) ∧ ∀ (f n dep : Nat) (r : List UInt8), k ≤ f → stops r → ∃ d m, rdDatum f n dep (l ++ r) = some (d, skip r, m) ∧ P d ∧ m ≤ dep + h
/-- A text that reads as data up to where a list is shut. -/
def DtL (P : List D → Prop) (l : List UInt8) (k h : Nat) : Prop := ∀ (f n dep : Nat) (r : List UInt8), k ≤ f → shuts r → ∃ ds m, rdList f n dep (skip (l ++ r)) = some (ds, r, m) ∧ P ds ∧ m ≤ dep + h

theorem Dt.mono {P Q : D → Prop} {l : List UInt8} {k h k' h' : Nat} (x : Dt P l k h) (hp : ∀ d, P d → Q d) (hk : k ≤ k') (hh : h ≤ h') : Dt Q l k' h' := by
  refine ⟨x.1, fun f n dep r hf hr => ?_⟩
  obtain ⟨d, m, h1, h2, h3⟩ := x.2 f n dep r (by omega) hr
  exact ⟨d, m, h1, hp d h2, by omega⟩
theorem DtL.mono {P Q : List D → Prop} {l : List UInt8} {k h k' h' : Nat} (x : DtL P l k h) (hp : ∀ d, P d → Q d) (hk : k ≤ k') (hh : h ≤ h') : DtL Q l k' h' := by
  intro f n dep r hf hr
  obtain ⟨d, m, h1, h2, h3⟩ := x f n dep r (by omega) hr
  exact ⟨d, m, h1, hp d h2, by omega⟩

theorem kindAt_skip {l : List UInt8} (h : kindAt l = 5 ∨ kindAt l = 1 ∨ kindAt l = 2 ∨ kindAt l = 0) : skip l = l := by
  cases l with
  | nil => rfl
  | cons b r =>
    refine skip_stop b r ?_ ?_
    · intro e
      have : kindOf b = 6 := by
        unfold kindOf isWord isLetter isDigit signs
        rcases e with e | e | e
        · have : b = 32 := UInt8.toNat_inj.1 e
          subst this; rfl
        · have : b = 10 := UInt8.toNat_inj.1 e
          subst this; rfl
        · have : b = 9 := UInt8.toNat_inj.1 e
          subst this; rfl
      have hk : kindAt (b :: r) = kindOf b := rfl
      omega
    · intro e
      have : kindOf b = 6 := by
        have : b = 59 := UInt8.toNat_inj.1 e
        subst this; rfl
      have hk : kindAt (b :: r) = kindOf b := rfl
      omega
theorem kindAt_append {l r : List UInt8} (h : kindAt l = 5 ∨ kindAt l = 1) : kindAt (l ++ r) = kindAt l := by
  cases l with
  | nil => rcases h with h | h <;> cases h
  | cons b l => rfl

theorem takeWhile_stop : ∀ (w r : List UInt8), w.all isWord = true → stops r → (w ++ r).takeWhile isWord = w ∧ (w ++ r).dropWhile isWord = r
  | [], r, _, h => by
    cases r with
    | nil => exact ⟨rfl, rfl⟩
    | cons b r =>
      have hb : isWord b = false := h
      simp [hb]
  | b :: w, r, hw, h => by
    simp only [List.all_cons, Bool.and_eq_true] at hw
    obtain ⟨h1, h2⟩ := takeWhile_stop w r hw.2 h
    simp [hw.1, h1, h2]

/-- A word. -/
theorem Dt.word {b : UInt8} {w : List UInt8} {a : A} (hb : kindOf b = 5) (hw : w.all isWord = true) (ha : atomOf (b :: w) = some a) : Dt (fun d => ∃ p, d = .mk p [] a) (b :: w) 1 0 := by
  refine ⟨Or.inl hb, fun f n dep r hf hr => ?_⟩
  obtain ⟨f, rfl⟩ : ∃ g, f = g + 1 := ⟨f - 1, by omega⟩
  have hb' := kindOf_word b hb
  obtain ⟨h1, h2⟩ := takeWhile_stop (b :: w) r (by simp [hb']; simpa using hw) hr
  have hk : kindAt ((b :: w) ++ r) = 5 := hb
  have ht : textOf ((b :: w) ++ r) = b :: w := by
    show (if kindOf b = 5 then (b :: (w ++ r)).takeWhile isWord else [b]) = _
    rw [if_pos hb]; exact h1
  have hd : behind ((b :: w) ++ r) = r := by
    show (if kindOf b = 5 then dropWord (b :: (w ++ r)) else (w ++ r)) = _
    rw [if_pos hb]; exact h2
  refine ⟨.mk (n - ((b :: w) ++ r).length) [] a, 0, ?_, ⟨_, rfl⟩, by omega⟩
  rw [rdDatum, if_pos hk, ht, ha, hd]

/-- A list. -/
theorem Dt.list {P : List D → Prop} {l : List UInt8} {k h : Nat} (x : DtL P l k h) : Dt (fun d => ∃ p ds, d = .mk p ds .empty ∧ P ds) (40 :: (l ++ [41])) (k + 1) (h + 1) := by
  refine ⟨Or.inr rfl, fun f n dep r hf hr => ?_⟩
  obtain ⟨f, rfl⟩ : ∃ g, f = g + 1 := ⟨f - 1, by omega⟩
  obtain ⟨ds, m, h1, h2, h3⟩ := x f n (dep + 1) (41 :: r) (by omega) (Or.inr rfl)
  have hb : behind ((40 :: (l ++ [41])) ++ r) = l ++ 41 :: r := by
    show (if kindOf 40 = 5 then dropWord (40 :: ((l ++ [41]) ++ r)) else ((l ++ [41]) ++ r)) = _
    rw [if_neg (by decide)]
    simp
  refine ⟨.mk (n - ((40 :: (l ++ [41])) ++ r).length) ds .empty, max (dep + 1) m, ?_, ⟨_, ds, rfl, h2⟩, by omega⟩
  have hk : kindAt ((40 :: (l ++ [41])) ++ r) = 1 := rfl
  rw [rdDatum, if_neg (by rw [hk]; decide), if_pos hk, hb, h1]
  show (if kindAt (41 :: r) = 2 then _ else none) = _
  rw [if_pos (show kindAt (41 :: r) = 2 from rfl)]
  rfl

theorem DtL.nil : DtL (· = []) [] 1 0 := by
  intro f n dep r hf hr
  obtain ⟨f, rfl⟩ : ∃ g, f = g + 1 := ⟨f - 1, by omega⟩
  refine ⟨[], 0, ?_, rfl, by omega⟩
  have hs : skip r = r := kindAt_skip (by rcases hr with h | h <;> omega)
  rw [List.nil_append, hs, rdList, if_neg (by rcases hr with h | h <;> omega), if_neg (by rcases hr with h | h <;> omega)]

theorem stops_append {l r : List UInt8} (hl : stops l) (hr : shuts r) : stops (l ++ r) := by
  cases l with
  | nil =>
    cases r with
    | nil => trivial
    | cons b r =>
      rcases hr with h | h
      · simp only [kindAt] at h
        unfold kindOf at h
        repeat (split at h; · cases h)
        cases h
      · have h' : kindOf b = 2 := h
        have : b.toNat = 41 := by
          unfold kindOf at h'
          split at h'
          · cases h'
          · split at h'
            · assumption
            · split at h'
              · cases h'
              · split at h'
                · cases h'
                · split at h' <;> cases h'
        have : b = 41 := UInt8.toNat_inj.1 this
        subst this
        rfl
  | cons b l => exact hl

theorem DtL.cons {P : D → Prop} {Q : List D → Prop} {a l : List UInt8} {k h k' h' : Nat} (x : Dt P a k h) (y : DtL Q l k' h') (hl : stops l) : DtL (fun ds => ∃ d ds', ds = d :: ds' ∧ P d ∧ Q ds') (a ++ l) (max k k' + 1) (max h h') := by
  intro f n dep r hf hr
  obtain ⟨f, rfl⟩ : ∃ g, f = g + 1 := ⟨f - 1, by omega⟩
  obtain ⟨d, m, h1, h2, h3⟩ := x.2 f n dep (l ++ r) (by omega) (stops_append hl hr)
  obtain ⟨ds, m', i1, i2, i3⟩ := y f n dep r (by omega) hr
  have hk : kindAt (a ++ (l ++ r)) = 5 ∨ kindAt (a ++ (l ++ r)) = 1 := by rw [kindAt_append x.1]; exact x.1
  refine ⟨d :: ds, max m m', ?_, ⟨d, ds, rfl, h2, i2⟩, by omega⟩
  rw [List.append_assoc, kindAt_skip (by rcases hk with e | e <;> omega), rdList, if_pos hk, h1]
  show (match rdList f n dep (skip (l ++ r)) with | some (ds, l'', m') => some (d :: ds, l'', max m m') | none => none) = _
  rw [i1]
theorem DtL.blank {P : List D → Prop} {l : List UInt8} {k h : Nat} (x : DtL P l k h) : DtL P (32 :: l) k h := by
  intro f n dep r hf hr
  obtain ⟨ds, m, h1, h2⟩ := x f n dep r hf hr
  exact ⟨ds, m, by rw [List.cons_append, skip_blank 32 _ (Or.inl rfl)]; exact h1, h2⟩
theorem stops_blank (l : List UInt8) : stops (32 :: l) := rfl
/-- Behind a blank. -/
theorem DtL.more {P : D → Prop} {Q : List D → Prop} {a l : List UInt8} {k h k' h' : Nat} (x : Dt P a k h) (y : DtL Q l k' h') (hl : stops l) : DtL (fun ds => ∃ d ds', ds = d :: ds' ∧ P d ∧ Q ds') (32 :: (a ++ l)) (max k k' + 1) (max h h') := (DtL.cons x y hl).blank
theorem DtL.one {P : D → Prop} {a : List UInt8} {k h : Nat} (x : Dt P a k h) (hk : 1 ≤ k) : DtL (fun ds => ∃ d, ds = [d] ∧ P d) a (k + 1) h := by
  have := DtL.cons x DtL.nil trivial
  rw [List.append_nil] at this
  exact this.mono (fun ds ⟨d, ds', e, h1, h2⟩ => ⟨d, by rw [e, h2], h1⟩) (by omega) (by omega)

/-- A whole source. -/
theorem DtL.reads {P : List D → Prop} {l : List UInt8} {k h : Nat} (x : DtL P l k h) (n : Nat) : ∃ ds m, rdList k n 0 (skip l) = some (ds, [], m) ∧ P ds ∧ m ≤ h := by
  obtain ⟨ds, m, h1, h2, h3⟩ := x k n 0 [] (Nat.le_refl _) (Or.inl rfl)
  rw [List.append_nil] at h1
  exact ⟨ds, m, h1, h2, by omega⟩
end Rd
end Go.Proofs.YtodeeegbajgafaaGreatDoor

namespace Go.Proofs.YtodeeegbajgafaaGreatDoor
namespace Rd
theorem pForms_nil (f : Nat) (env : List (List Sym)) : pForms (f + 1) env [] = some [] := by rw [pForms]
theorem pForms_cons {f : Nat} {env : List (List Sym)} {d : D} {ds : List D} {x : F} {xs : List F} (h : pForm f env d = some x) (h' : pForms f env ds = some xs) : pForms (f + 1) env (d :: ds) = some (x :: xs) := by
  rw [pForms, h, h']
theorem pForm_num (f : Nat) (env : List (List Sym)) (p : Nat) (n : Int) : pForm (f + 1) env (.mk p [] (.num n)) = some (.const (.num n)) := by rw [pForm_leaf]
theorem pForm_truth (f : Nat) (env : List (List Sym)) (p : Nat) (b : Bool) : pForm (f + 1) env (.mk p [] (.truth b)) = some (.const (.truth b)) := by rw [pForm_leaf]
theorem pForm_sym (f : Nat) (env : List (List Sym)) (p : Nat) (n : Sym) (h : keys.contains n = false) : pForm (f + 1) env (.mk p [] (.sym n)) = some (.name n (findName n env 0)) := by
  rw [pForm_leaf]
  show (if keys.contains n = true then none else some (F.name n (findName n env 0))) = _
  rw [h]; rfl
theorem D.sym_leaf (p : Nat) (n : Sym) : (D.mk p [] (.sym n)).sym = some n := rfl
/-- A call. -/
theorem pForm_call {f : Nat} {env : List (List Sym)} {p : Nat} {d0 : D} {rest : List D} {xs : List F} (hs : ∀ n, d0.sym = some n → keys.contains n = false) (h : pForms f env (d0 :: rest) = some xs) : pForm (f + 1) env (.mk p (d0 :: rest) .empty) = some (.call xs) := by
  rw [pForm_cons, if_neg (by simp)]
  split
  · rename_i kw hkw
    have hk := hs kw hkw
    have ne : ∀ k ∈ keys, kw ≠ k := fun k hk' e => by
      subst e
      rw [List.contains_iff_mem.2 hk'] at hk
      cases hk
    rw [if_neg (ne kwQuote (by decide)), if_neg (ne kwIf (by decide)), if_neg (ne kwLambda (by decide)), if_neg (ne kwBegin (by decide)), if_neg (ne kwLet (by decide)), if_neg (ne kwSet (by decide)), if_neg (ne kwAnd (by decide)), if_neg (ne kwOr (by decide)), if_neg (ne kwReset (by decide)), if_neg (ne kwShift (by decide)), if_neg (ne kwDefine (by decide)), h]
    rfl
  · rw [h]; rfl
theorem pForm_if {f : Nat} {env : List (List Sym)} {p p0 : Nat} {a b c : D} {t x e : F} (h : pForms f env [a, b, c] = some [t, x, e]) : pForm (f + 1) env (.mk p [.mk p0 [] (.sym kwIf), a, b, c] .empty) = some (.ite t x e) := by
  rw [pForm_cons, if_neg (by simp), D.sym_leaf]
  show (match pForms f env [a, b, c] with | some [t, a, e] => some (F.ite t a e) | _ => none) = _
  rw [h]
theorem pForm_begin {f : Nat} {env : List (List Sym)} {p p0 : Nat} {b : D} {bs : List D} {xs : List F} (h : pForms f env (b :: bs) = some xs) : pForm (f + 1) env (.mk p (.mk p0 [] (.sym kwBegin) :: b :: bs) .empty) = some (.begin_ xs) := by
  rw [pForm_cons, if_neg (by simp), D.sym_leaf]
  show ((pForms f env (b :: bs)).map F.begin_) = _
  rw [h]; rfl
theorem pForm_or {f : Nat} {env : List (List Sym)} {p p0 : Nat} {b : D} {bs : List D} {xs : List F} (h : pForms f env (b :: bs) = some xs) : pForm (f + 1) env (.mk p (.mk p0 [] (.sym kwOr) :: b :: bs) .empty) = some (.until_ true xs) := by
  rw [pForm_cons, if_neg (by simp), D.sym_leaf]
  show ((pForms f env (b :: bs)).map (F.until_ true ·)) = _
  rw [h]; rfl
theorem pForm_reset {f : Nat} {env : List (List Sym)} {p p0 : Nat} {b : D} {bs : List D} {xs : List F} (h : pForms f env (b :: bs) = some xs) : pForm (f + 1) env (.mk p (.mk p0 [] (.sym kwReset) :: b :: bs) .empty) = some (.reset xs) := by
  rw [pForm_cons, if_neg (by simp), D.sym_leaf]
  show ((pForms f env (b :: bs)).map F.reset) = _
  rw [h]; rfl
theorem D.name_leaf (p : Nat) (n : Sym) (h : keys.contains n = false) : (D.mk p [] (.sym n)).name = some n := by
  show (if keys.contains n = true then none else some n) = _
  rw [h]; rfl
theorem pForm_shift {f : Nat} {env : List (List Sym)} {p p0 p1 : Nat} {n : Sym} {b : D} {bs : List D} {xs : List F} (hn : keys.contains n = false) (h : pForms f ([n] :: env) (b :: bs) = some xs) : pForm (f + 1) env (.mk p (.mk p0 [] (.sym kwShift) :: .mk p1 [] (.sym n) :: b :: bs) .empty) = some (.shift xs) := by
  rw [pForm_cons, if_neg (by simp), D.sym_leaf]
  show (match (D.mk p1 [] (.sym n)).name with | some n => (pForms f ([n] :: env) (b :: bs)).map F.shift | none => none) = _
  rw [D.name_leaf _ _ hn]
  show ((pForms f ([n] :: env) (b :: bs)).map F.shift) = _
  rw [h]; rfl
theorem pForm_lambda {f : Nat} {env : List (List Sym)} {p p0 p1 : Nat} {ps : List D} {ns : List Sym} {b : D} {bs : List D} {xs : List F} (hn : names ps [] = some ns) (h : pForms f (ns :: env) (b :: bs) = some xs) : pForm (f + 1) env (.mk p (.mk p0 [] (.sym kwLambda) :: .mk p1 ps .empty :: b :: bs) .empty) = some (.lam ns.length xs) := by
  rw [pForm_cons, if_neg (by simp), D.sym_leaf]
  show (match names ps [] with | some ns => (pForms f (ns :: env) (b :: bs)).map (F.lam ns.length ·) | none => none) = _
  rw [hn]
  show ((pForms f (ns :: env) (b :: bs)).map (F.lam ns.length ·)) = _
  rw [h]; rfl
theorem pForm_let1 {f : Nat} {env : List (List Sym)} {p p0 p1 p2 p3 : Nat} {n : Sym} {v b : D} {xs ys : List F} (hn : keys.contains n = false) (h : pForms f env [v] = some xs) (h' : pForms f ([n] :: env) [b] = some ys) : pForm (f + 1) env (.mk p [.mk p0 [] (.sym kwLet), .mk p1 [.mk p2 [.mk p3 [] (.sym n), v] .empty] .empty, b] .empty) = some (.let_ xs ys) := by
  rw [pForm_cons, if_neg (by simp), D.sym_leaf]
  show (match names [D.mk p3 [] (.sym n)] [] with
      | some ns => (match pForms f env [v] with
        | some vs => (pForms f (ns :: env) [b]).map (F.let_ vs ·)
        | none => none)
      | none => none) = _
  have hnm : names [D.mk p3 [] (.sym n)] [] = some [n] := by
    rw [names, D.name_leaf _ _ hn]
    rfl
  rw [hnm, h]
  show ((pForms f ([n] :: env) [b]).map (F.let_ xs ·)) = _
  rw [h']
  rfl
theorem pTop_other {f : Nat} {p : Nat} {d0 : D} {rest : List D} (h : d0.sym ≠ some kwDefine) : pTop f (.mk p (d0 :: rest) .empty) = pForm f [] (.mk p (d0 :: rest) .empty) := by
  rw [pTop.eq_def]
  exact if_neg h
theorem pTop_leaf {f : Nat} {p : Nat} {a : A} : pTop f (.mk p [] a) = pForm f [] (.mk p [] a) := by
  rw [pTop.eq_def]
end Rd
end Go.Proofs.YtodeeegbajgafaaGreatDoor

namespace Go.Proofs.YtodeeegbajgafaaGreatDoor
open Rd
namespace Mc
theorem Runs.trans {fuel : Nat} {show_ : V → Option (List UInt8)} {n m : Nat} {s t u : St} (h : Runs fuel show_ n s t) (k : Runs fuel show_ m t u) : Runs fuel show_ (n + m) s u := by
  induction h with
  | nil => simpa using k
  | cons h1 _ ih => rw [Nat.add_right_comm]; exact .cons h1 (ih k)

def rounds (fuel : Nat) (show_ : V → Option (List UInt8)) : Nat → St → Option St
  | 0, s => some s
  | n + 1, s => match s.round fuel show_ with
    | some s' => rounds fuel show_ n s'
    | none => none
theorem Runs.of {fuel : Nat} {show_ : V → Option (List UInt8)} : ∀ {n : Nat} {s t : St}, rounds fuel show_ n s = some t → Runs fuel show_ n s t
  | 0, s, t, h => by cases h; exact .nil _
  | n + 1, s, t, h => by
    rw [rounds] at h
    split at h
    · rename_i s' h1
      exact .cons h1 (Runs.of h)
    · cases h

/-- Forms in turn; none but the last may end without a value. -/
inductive Ends (fuel : Nat) (show_ : V → Option (List UInt8)) : St → List F → St → Prop
  | one {n : Nat} {s t : St} {f : F} (h : Runs fuel show_ n (s.eval f []) t) (he : t.ended) : Ends fuel show_ s [f] t
  | more {n : Nat} {s t u : St} {f f' : F} {fs : List F} (h : Runs fuel show_ n (s.eval f []) t) (he : t.ended) (hk : t.kind = 0) (h' : Ends fuel show_ t (f' :: fs) u) : Ends fuel show_ s (f :: f' :: fs) u

def nameAt : Nat → Sym
  | 0 => [43] | 1 => [42] | 2 => [45] | 3 => [113, 117, 111, 116, 105, 101, 110, 116] | 4 => [114, 101, 109, 97, 105, 110, 100, 101, 114] | 5 => [60] | 6 => [62] | 7 => [61]
  | 8 => [99, 111, 110, 115] | 9 => [99, 97, 114] | 10 => [99, 100, 114] | 11 => [108, 105, 115, 116] | 12 => [112, 97, 105, 114, 63] | 13 => [110, 117, 108, 108, 63]
  | 14 => [110, 117, 109, 98, 101, 114, 63] | 15 => [115, 121, 109, 98, 111, 108, 63] | 16 => [112, 114, 111, 99, 101, 100, 117, 114, 101, 63] | 17 => [98, 111, 111, 108, 101, 97, 110, 63]
  | 18 => [101, 113, 63] | 19 => [110, 111, 116] | _ => [100, 105, 115, 112, 108, 97, 121]
/-- The names of a new machine. -/
def G0 : List (Sym × V) := (List.range 21).map fun i => (nameAt i, .basic i)
/-- A run begins. -/
def begin_ (G : List (Sym × V)) : St := { ctl := .val (.atom .empty), todo := [], beyond := [], steps := 0, kind := 0, why := 0, G := G, shown := [] }

def readOf (l : List UInt8) : Option (List D) := match rdList 2000 l.length 0 (skip l) with
  | some (ds, l', m) => if kindAt l' = 0 ∧ m ≤ 20 then some ds else none
  | none => none
end Mc
end Go.Proofs.YtodeeegbajgafaaGreatDoor

namespace Go.Proofs.YtodeeegbajgafaaGreatDoor
open Rd
namespace Mc

def at_ (G : List (Sym × V)) (sn : List (List UInt8)) (ctl : Ctl) (todo : List Fr) (beyond : List (List Fr)) (c : Nat) : St := { ctl := ctl, todo := todo, beyond := beyond, steps := c, kind := 0, why := 0, G := G, shown := sn }
abbrev Sh := V → Option (List UInt8)
def Goes (fuel : Nat) (sh : Sh) (s t : St) : Prop := ∃ n, Runs fuel sh n s t

section
variable {fuel : Nat} {sh : Sh} {G : List (Sym × V)} {sn : List (List UInt8)}
theorem Goes.refl (s : St) : Goes fuel sh s s := ⟨0, .nil _⟩
theorem Goes.trans {s t u : St} (h : Goes fuel sh s t) (k : Goes fuel sh t u) : Goes fuel sh s u := by
  obtain ⟨n, h⟩ := h
  obtain ⟨m, k⟩ := k
  exact ⟨n + m, h.trans k⟩
theorem Goes.one {s t : St} (h : s.round fuel sh = some t) : Goes fuel sh s t := ⟨1, .cons h (.nil _)⟩
theorem Goes.first {s t u : St} (h : s.round fuel sh = some t) (k : Goes fuel sh t u) : Goes fuel sh s u := (Goes.one h).trans k

theorem round_ev {f : F} {e : Env} {K : List Fr} {B : List (List Fr)} {c : Nat} (hc : c < fuel) : (at_ G sn (.ev f e) K B c).round fuel sh = (at_ G sn (.ev f e) K B (c + 1)).start fuel sh f e := by
  have h : ¬ c = fuel := by omega
  simp [St.round, at_, St.step?, h]
theorem round_val {v : V} {f : Fr} {K : List Fr} {B : List (List Fr)} {c : Nat} : (at_ G sn (.val v) (f :: K) B c).round fuel sh = (at_ G sn (.val v) K B c).go fuel sh f v := rfl
theorem round_pop {v : V} {t : List Fr} {B : List (List Fr)} {c : Nat} : (at_ G sn (.val v) [] (t :: B) c).round fuel sh = some (at_ G sn (.val v) t B c) := rfl

/-- A form comes to a value in so many steps. -/
def Ev (G : List (Sym × V)) (sn : List (List UInt8)) (f : F) (e : Env) (v : V) (k : Nat) : Prop := ∀ (fuel : Nat) (sh : Sh) (K : List Fr) (B : List (List Fr)) (c : Nat), c + k ≤ fuel → Goes fuel sh (at_ G sn (.ev f e) K B c) (at_ G sn (.val v) K B (c + k))
inductive EvL (G : List (Sym × V)) (sn : List (List UInt8)) (e : Env) : List F → List V → Nat → Prop
  | nil : EvL G sn e [] [] 0
  | cons {f : F} {fs : List F} {v : V} {vs : List V} {k m : Nat} (h : Ev G sn f e v k) (h' : EvL G sn e fs vs m) : EvL G sn e (f :: fs) (v :: vs) (k + m)

theorem Ev.const (a : A) (e : Env) : Ev G sn (.const a) e (.atom a) 1 := fun fuel sh K B c hc => Goes.one (by rw [round_ev (by omega)]; rfl)
theorem Ev.global {n : Sym} {v : V} (h : find? n G = some v) (e : Env) : Ev G sn (.name n none) e v 1 := fun fuel sh K B c hc => Goes.one (by
  rw [round_ev (by omega)]
  show (match find? n G with | some v => some ((at_ G sn (.ev (.name n none) e) K B (c + 1)).give v) | none => none) = _
  rw [h]; rfl)
theorem Ev.loc {n : Sym} {v : V} {e : Env} {up slot : Nat} (h : look e up slot = some v) (hu : up ≤ 100000) : Ev G sn (.name n (some (up, slot))) e v 1 := fun fuel sh K B c hc => Goes.one (by
  rw [round_ev (by omega)]
  show (if up ≤ 100000 then (match look e up slot with | some v => some ((at_ G sn (.ev (.name n (some (up, slot))) e) K B (c + 1)).give v) | none => none) else none) = _
  rw [if_pos hu, h]; rfl)
theorem Ev.lam (k : Nat) (b : List F) (e : Env) : Ev G sn (.lam k b) e (.clo k b e) 1 := fun fuel sh K B c hc => Goes.one (by rw [round_ev (by omega)]; rfl)

/-- Parts are evaluated in turn, and handed on. -/
theorem each_goes {e : Env} {hd : Hd} {K : List Fr} {B : List (List Fr)} {s' : St} : ∀ {fs : List F} {vs : List V} {k : Nat} (f : F) (acc : List V) (c : Nat), EvL G sn e (f :: fs) vs k → c + k ≤ fuel →
    (∀ v, vs.getLast? = some v → (at_ G sn (.val v) K B (c + k)).each fuel sh [] e (acc ++ vs) hd = some s') → Goes fuel sh (at_ G sn (.ev f e) (.each (f :: fs) e acc hd :: K) B c) s'
  | [], vs, k, f, acc, c, h, hc, hx => by
    cases h with
    | cons h1 h2 =>
    cases h2
    refine (h1 fuel sh (.each [f] e acc hd :: K) B c (by omega)).trans (Goes.one ?_)
    rw [round_val]
    exact hx _ rfl
  | f' :: fs, vs, k, f, acc, c, h, hc, hx => by
    cases h with
    | @cons _ _ v vs k m h1 h2 =>
    refine (h1 fuel sh (.each (f :: f' :: fs) e acc hd :: K) B c (by omega)).trans ?_
    refine Goes.first (t := at_ G sn (.ev f' e) (.each (f' :: fs) e (acc ++ [v]) hd :: K) B (c + k)) (by rw [round_val]; rfl) ?_
    refine each_goes f' (acc ++ [v]) (c + k) h2 (by omega) ?_
    intro u hu
    rw [List.append_assoc, Nat.add_assoc]
    refine hx u ?_
    cases h2 with
    | cons => rw [List.getLast?_cons_cons]; exact hu

/-- A call: its parts, then what the call does. -/
theorem call_goes {e : Env} {K : List Fr} {B : List (List Fr)} {s' : St} {f : F} {fs : List F} {vs : List V} {k c : Nat} (h : EvL G sn e (f :: fs) vs k) (hc : c + (k + 1) ≤ fuel)
    (hx : ∀ v, vs.getLast? = some v → (at_ G sn (.val v) K B (c + (k + 1))).call fuel sh vs = some s') : Goes fuel sh (at_ G sn (.ev (.call (f :: fs)) e) K B c) s' := by
  refine Goes.first (t := at_ G sn (.ev f e) (.each (f :: fs) e [] .call :: K) B (c + 1)) (by rw [round_ev (by omega)]; rfl) ?_
  refine each_goes f [] (c + 1) h (by omega) ?_
  intro v hv
  have := hx v hv
  rw [show c + 1 + k = c + (k + 1) from by omega]
  exact this
theorem let_goes {e : Env} {K : List Fr} {B : List (List Fr)} {s' : St} {f : F} {fs bs : List F} {vs : List V} {k c : Nat} (h : EvL G sn e (f :: fs) vs k) (hc : c + (k + 1) ≤ fuel)
    (hx : ∀ v, vs.getLast? = some v → (at_ G sn (.val v) K B (c + (k + 1))).body bs (vs :: e) = some s') : Goes fuel sh (at_ G sn (.ev (.let_ (f :: fs) bs) e) K B c) s' := by
  refine Goes.first (t := at_ G sn (.ev f e) (.each (f :: fs) e [] (.lett (f :: fs) bs e) :: K) B (c + 1)) (by rw [round_ev (by omega)]; rfl) ?_
  refine each_goes f [] (c + 1) h (by omega) ?_
  intro v hv
  have := hx v hv
  rw [show c + 1 + k = c + (k + 1) from by omega]
  exact this

theorem Ev.basic {e : Env} {f : F} {fs : List F} {i : Nat} {vs : List V} {v : V} {k : Nat} (h : EvL G sn e (f :: fs) (.basic i :: vs) k) (hb : basicDo i vs = some (.val v)) : Ev G sn (.call (f :: fs)) e v (k + 1) := fun fuel sh K B c hc =>
  call_goes h hc fun u _ => by
    show (match basicDo i vs with
      | some (.val v) => some ((at_ G sn (.val u) K B (c + (k + 1))).give v)
      | some (.wrong y) => some ((at_ G sn (.val u) K B (c + (k + 1))).fail y)
      | some (.shows v) => (match sh v with
        | some t => if (at_ G sn (.val u) K B (c + (k + 1))).shown.length < 1000000 then some ({ at_ G sn (.val u) K B (c + (k + 1)) with shown := (at_ G sn (.val u) K B (c + (k + 1))).shown ++ [t] }.give (.atom .empty)) else none
        | none => none)
      | none => none) = _
    rw [hb]; rfl
theorem Ev.clo1 {e e' : Env} {f : F} {fs : List F} {n : Nat} {b : F} {vs : List V} {v : V} {k m : Nat} (h : EvL G sn e (f :: fs) (.clo n [b] e' :: vs) k) (hn : vs.length = n) (hb : Ev G sn b (vs :: e') v m) : Ev G sn (.call (f :: fs)) e v (k + 1 + m) := fun fuel sh K B c hc => by
  refine Goes.trans (t := at_ G sn (.ev b (vs :: e')) K B (c + (k + 1))) ?_ (by have := hb fuel sh K B (c + (k + 1)) (by omega); rw [Nat.add_assoc] at this; exact this)
  refine call_goes h (by omega) fun u _ => ?_
  show (if vs.length = n then (at_ G sn (.val u) K B (c + (k + 1))).body [b] (vs :: e') else none) = _
  rw [if_pos hn]; rfl
theorem Ev.let1 {e : Env} {f b : F} {fs : List F} {vs : List V} {v : V} {k m : Nat} (h : EvL G sn e (f :: fs) vs k) (hb : Ev G sn b (vs :: e) v m) : Ev G sn (.let_ (f :: fs) [b]) e v (k + 1 + m) := fun fuel sh K B c hc => by
  refine Goes.trans (t := at_ G sn (.ev b (vs :: e)) K B (c + (k + 1))) ?_ (by have := hb fuel sh K B (c + (k + 1)) (by omega); rw [Nat.add_assoc] at this; exact this)
  exact let_goes h (by omega) fun u _ => rfl
theorem Ev.ite {e : Env} {t a b : F} {x v : V} {k m : Nat} (h : Ev G sn t e x k) (hb : Ev G sn (if x.isTrue then a else b) e v m) : Ev G sn (.ite t a b) e v (1 + k + m) := fun fuel sh K B c hc => by
  refine Goes.first (t := at_ G sn (.ev t e) (.choose t a b e :: K) B (c + 1)) (by rw [round_ev (by omega)]; rfl) ?_
  refine (h fuel sh _ B (c + 1) (by omega)).trans ?_
  refine Goes.first (t := at_ G sn (.ev (if x.isTrue then a else b) e) K B (c + 1 + k)) (by rw [round_val]; rfl) ?_
  have := hb fuel sh K B (c + 1 + k) (by omega)
  rw [show c + (1 + k + m) = c + 1 + k + m from by omega]
  exact this
theorem Ev.begin1 {e : Env} {a : F} {v : V} {k : Nat} (h : Ev G sn a e v k) : Ev G sn (.begin_ [a]) e v (1 + k) := fun fuel sh K B c hc => by
  refine Goes.first (t := at_ G sn (.ev a e) K B (c + 1)) (by rw [round_ev (by omega)]; rfl) ?_
  rw [show c + (1 + k) = c + 1 + k from by omega]
  exact h fuel sh K B (c + 1) (by omega)
theorem Ev.begin2 {e : Env} {a b : F} {u v : V} {k m : Nat} (h : Ev G sn a e u k) (hb : Ev G sn b e v m) : Ev G sn (.begin_ [a, b]) e v (1 + k + m) := fun fuel sh K B c hc => by
  refine Goes.first (t := at_ G sn (.ev a e) (.body [a, b] e :: K) B (c + 1)) (by rw [round_ev (by omega)]; rfl) ?_
  refine (h fuel sh _ B (c + 1) (by omega)).trans ?_
  refine Goes.first (t := at_ G sn (.ev b e) K B (c + 1 + k)) (by rw [round_val]; rfl) ?_
  rw [show c + (1 + k + m) = c + 1 + k + m from by omega]
  exact hb fuel sh K B (c + 1 + k) (by omega)
theorem EvL.one {e : Env} {f : F} {v : V} {k : Nat} (h : Ev G sn f e v k) : EvL G sn e [f] [v] k := .cons h .nil
theorem EvL.two {e : Env} {f g : F} {v u : V} {k m : Nat} (h : Ev G sn f e v k) (h' : Ev G sn g e u m) : EvL G sn e [f, g] [v, u] (k + m) := .cons h (.one h')
theorem EvL.three {e : Env} {f g a : F} {v u x : V} {k m n : Nat} (h : Ev G sn f e v k) (h' : Ev G sn g e u m) (h'' : Ev G sn a e x n) : EvL G sn e [f, g, a] [v, u, x] (k + (m + n)) := .cons h (.two h' h'')
end
end Mc
end Go.Proofs.YtodeeegbajgafaaGreatDoor

namespace Go.Proofs.YtodeeegbajgafaaGreatDoor
open Rd
namespace Mc
def nWalk : Sym := [119, 97, 108, 107]
def nAll : Sym := [97, 108, 108]
def nF : Sym := [102]
def nL : Sym := [108]
def nX : Sym := [120]
def nK : Sym := [107]
def walkTest : F := .call [.name (nameAt 13) none, .name nL (some (0, 1))]
def walkGive : F := .call [.name nF (some (0, 0)), .call [.name (nameAt 9) none, .name nL (some (0, 1))]]
def walkOn : F := .call [.name nWalk none, .name nF (some (0, 0)), .call [.name (nameAt 10) none, .name nL (some (0, 1))]]
def walkBegin : F := .begin_ [walkGive, walkOn]
def walkBody : F := .ite walkTest (.name nL (some (0, 1))) walkBegin
def giveK : F := .call [.name nK (some (0, 0)), .const (.num 0)]
def giveParts : List F := [.name (nameAt 8) none, .name nX (some (1, 0)), giveK]
def giveBody : F := .shift [.call giveParts]
def allCall : F := .call [.name nWalk none, .lam 1 [giveBody], .name nL (some (0, 0))]
def allBody : F := .reset [.begin_ [allCall, .const .empty]]
def vWalk : V := .clo 2 [walkBody] []
def vAll : V := .clo 1 [allBody] []
def GL : List (Sym × V) := G0 ++ [(nWalk, vWalk), (nAll, vAll)]
theorem GL_null : find? (nameAt 13) GL = some (.basic 13) := rfl
theorem GL_car : find? (nameAt 9) GL = some (.basic 9) := rfl
theorem GL_cdr : find? (nameAt 10) GL = some (.basic 10) := rfl
theorem GL_cons : find? (nameAt 8) GL = some (.basic 8) := rfl
theorem GL_list : find? (nameAt 11) GL = some (.basic 11) := rfl
theorem GL_walk : find? nWalk GL = some vWalk := rfl
theorem GL_all : find? nAll GL = some vAll := rfl

/-- The procedure that gives a thing. -/
def vGive (L : V) : V := .clo 1 [giveBody] [[L]]
/-- What is left of the outermost begin. -/
def frB (L : V) : Fr := .body [allCall, .const .empty] [[L]]
/-- What waits behind a thing that was given. -/
def frE (L h : V) (t : List Fr) : Fr := .each [giveK] [[.cont t], [h], [L]] [.basic 8, h] .call

theorem walk_goes {fuel : Nat} {sh : Sh} (L : V) : ∀ (vs : List V) (b : List Fr) (B : List (List Fr)) (c : Nat), c + (28 * vs.length + 10) ≤ fuel →
    ∃ c', c' ≤ c + (28 * vs.length + 10) ∧ Goes fuel sh (at_ GL [] (.ev walkBody [[vGive L, listV vs]]) [frB L] (b :: B) c) (at_ GL [] (.val (listV vs)) [] (b :: B) c')
  | [], b, B, c, hc => by
    have h : Ev GL [] walkBody [[vGive L, .atom .empty]] (.atom .empty) (1 + (1 + 1 + 1) + 1) := .ite (.basic (i := 13) (.two (.global GL_null _) (.loc rfl (by omega))) rfl) (.loc rfl (by omega))
    simp only [List.length_nil] at hc
    refine ⟨c + 5 + 1, by omega, (h fuel sh [frB L] (b :: B) c (by omega)).trans ?_⟩
    refine Goes.first (t := at_ GL [] (.ev (.const .empty) [[L]]) [] (b :: B) (c + 5)) (by rw [round_val]; rfl) ?_
    exact Ev.const .empty _ fuel sh [] (b :: B) (c + 5) (by omega)
  | v :: vs, b, B, c, hc => by
    simp only [List.length_cons] at hc
    have ht : Ev GL [] walkTest [[vGive L, .pair v (listV vs)]] (.atom (.truth false)) (1 + 1 + 1) := .basic (i := 13) (.two (.global GL_null _) (.loc rfl (by omega))) rfl
    have hg : EvL GL [] [[vGive L, .pair v (listV vs)]] [.name nF (some (0, 0)), .call [.name (nameAt 9) none, .name nL (some (0, 1))]] [vGive L, v] (1 + (1 + 1 + 1)) := .two (.loc rfl (by omega)) (.basic (i := 9) (.two (.global GL_car _) (.loc rfl (by omega))) rfl)
    have ho : EvL GL [] [[vGive L, .pair v (listV vs)]] [.name nWalk none, .name nF (some (0, 0)), .call [.name (nameAt 10) none, .name nL (some (0, 1))]] [vWalk, vGive L, listV vs] (1 + (1 + (1 + 1 + 1))) := .three (.global GL_walk _) (.loc rfl (by omega)) (.basic (i := 10) (.two (.global GL_cdr _) (.loc rfl (by omega))) rfl)
    generalize hT : ([.body [walkGive, walkOn] [[vGive L, .pair v (listV vs)]], frB L] : List Fr) = T
    obtain ⟨c', hc', ih⟩ := walk_goes (fuel := fuel) (sh := sh) L vs [frE L v T] (b :: B) (c + 24) (by omega)
    have hk : EvL GL [] [[.cont T], [v], [L]] [.name nK (some (0, 0)), .const (.num 0)] [.cont T, .atom (.num 0)] (1 + 1) := .two (.loc rfl (by omega)) (.const _ _)
    refine ⟨c', by simp only [List.length_cons]; omega, ?_⟩
    refine Goes.first (t := at_ GL [] (.ev walkTest [[vGive L, .pair v (listV vs)]]) (.choose walkTest (.name nL (some (0, 1))) walkBegin [[vGive L, .pair v (listV vs)]] :: [frB L]) (b :: B) (c + 1)) (by rw [round_ev (by omega)]; rfl) ?_
    refine (ht fuel sh _ (b :: B) (c + 1) (by omega)).trans ?_
    refine Goes.first (t := at_ GL [] (.ev walkBegin [[vGive L, .pair v (listV vs)]]) [frB L] (b :: B) (c + 4)) (by rw [round_val]; rfl) ?_
    refine Goes.first (t := at_ GL [] (.ev walkGive [[vGive L, .pair v (listV vs)]]) T (b :: B) (c + 5)) (by rw [round_ev (by omega), ← hT]; rfl) ?_
    refine Goes.trans (t := at_ GL [] (.ev giveBody [[v], [L]]) T (b :: B) (c + 10)) (call_goes hg (by omega) fun u _ => rfl) ?_
    refine Goes.first (t := at_ GL [] (.ev (.call giveParts) [[.cont T], [v], [L]]) [] (b :: B) (c + 11)) (by rw [round_ev (by omega)]; rfl) ?_
    refine Goes.first (t := at_ GL [] (.ev (.name (nameAt 8) none) [[.cont T], [v], [L]]) [.each giveParts [[.cont T], [v], [L]] [] .call] (b :: B) (c + 12)) (by rw [round_ev (by omega)]; rfl) ?_
    refine (Ev.global GL_cons _ fuel sh _ (b :: B) (c + 12) (by omega)).trans ?_
    refine Goes.first (t := at_ GL [] (.ev (.name nX (some (1, 0))) [[.cont T], [v], [L]]) [.each [.name nX (some (1, 0)), giveK] [[.cont T], [v], [L]] [.basic 8] .call] (b :: B) (c + 13)) (by rw [round_val]; rfl) ?_
    refine (Ev.loc (v := v) rfl (by omega) fuel sh _ (b :: B) (c + 13) (by omega)).trans ?_
    refine Goes.first (t := at_ GL [] (.ev giveK [[.cont T], [v], [L]]) [frE L v T] (b :: B) (c + 14)) (by rw [round_val]; rfl) ?_
    refine Goes.trans (t := at_ GL [] (.val (.atom (.num 0))) T ([frE L v T] :: b :: B) (c + 18)) (call_goes hk (by omega) fun u _ => ?_) ?_
    · have hne : ¬ c + 14 + (1 + 1 + 1) = fuel := by omega
      simp [St.call, St.step?, at_, hne, St.give]
    refine Goes.first (t := at_ GL [] (.ev walkOn [[vGive L, .pair v (listV vs)]]) [frB L] ([frE L v T] :: b :: B) (c + 18)) (by rw [← hT, round_val]; rfl) ?_
    refine Goes.trans (t := at_ GL [] (.ev walkBody [[vGive L, listV vs]]) [frB L] ([frE L v T] :: b :: B) (c + 24)) (call_goes ho (by omega) fun u _ => rfl) ?_
    refine ih.trans ?_
    refine Goes.first (t := at_ GL [] (.val (listV vs)) [frE L v T] (b :: B) c') round_pop ?_
    exact Goes.one (by rw [round_val]; rfl)

theorem EvL.consts {G : List (Sym × V)} {sn : List (List UInt8)} {e : Env} : ∀ (as : List A), EvL G sn e (as.map .const) (as.map .atom) as.length
  | [] => .nil
  | a :: as => by
    have := EvL.cons (Ev.const (G := G) (sn := sn) a e) (EvL.consts as)
    rw [Nat.add_comm 1] at this
    exact this

/-- All of a list's things, given one by one. -/
theorem all_goes {fuel : Nat} {sh : Sh} (as : List A) (hc : 29 * as.length + 30 ≤ fuel) :
    ∃ c', c' ≤ fuel ∧ Goes fuel sh (at_ GL [] (.ev (.call [.name nAll none, .call (.name (nameAt 11) none :: as.map .const)]) []) [] [] 0) (at_ GL [] (.val (listV (as.map .atom))) [] [] c') := by
  let L : V := listV (as.map .atom)
  have hl : EvL GL [] [] [.name nAll none, .call (.name (nameAt 11) none :: as.map .const)] [vAll, L] (1 + (1 + as.length + 1)) := .two (.global GL_all _) (.basic (i := 11) (.cons (.global GL_list _) (EvL.consts as)) rfl)
  have hw : EvL GL [] [[L]] [.name nWalk none, .lam 1 [giveBody], .name nL (some (0, 0))] [vWalk, vGive L, L] (1 + (1 + 1)) := .three (.global GL_walk _) (.lam _ _ _) (.loc rfl (by omega))
  obtain ⟨c', hc', ih⟩ := walk_goes (fuel := fuel) (sh := sh) L (as.map .atom) [] [] (as.length + 10) (by simp; omega)
  refine ⟨c', by simp at hc'; omega, ?_⟩
  refine Goes.trans (t := at_ GL [] (.ev allBody [[L]]) [] [] (as.length + 4)) (call_goes hl (by omega) fun u _ => ?_) ?_
  · rw [show 0 + (1 + (1 + as.length + 1) + 1) = as.length + 4 from by omega]; rfl
  refine Goes.first (t := at_ GL [] (.ev (.begin_ [allCall, .const .empty]) [[L]]) [] [[]] (as.length + 5)) (by rw [round_ev (by omega)]; rfl) ?_
  refine Goes.first (t := at_ GL [] (.ev allCall [[L]]) [frB L] [[]] (as.length + 6)) (by rw [round_ev (by omega)]; rfl) ?_
  refine Goes.trans (t := at_ GL [] (.ev walkBody [[vGive L, L]]) [frB L] [[]] (as.length + 10)) (call_goes hw (by omega) fun u _ => rfl) ?_
  exact ih.trans (Goes.one round_pop)
end Mc
end Go.Proofs.YtodeeegbajgafaaGreatDoor

namespace Go.Proofs.YtodeeegbajgafaaGreatDoor
namespace Rd
/-- Read, with what is left and the deepest list met; or the text at the token that may not stand. -/
inductive RR (α : Type) where
  | ok (a : α) (l : List UInt8) (m : Nat)
  | bad (l : List UInt8)
def quoteD (p : Nat) (d : D) : D := .mk p [.mk p [] (.sym kwQuote), d] .empty
/-- What stands behind the parts of a list: nothing, or a datum behind a dot. -/
def shutL (p : Nat) (dep : Nat) (ds : List D) (m : Nat) (l' : List UInt8) : RR D := if kindAt l' = 2 then .ok (.mk p ds .empty) (skip (behind l')) (max dep m) else .bad l'
def shutT (p : Nat) (dep : Nat) (ds : List D) (m : Nat) : RR D → RR D
  | .bad l'' => .bad l''
  | .ok t l'' m' => if kindAt l'' = 2 then .ok (.mk p (ds ++ t.parts) t.en) (skip (behind l'')) (max dep (max m m')) else .bad l''
def quoteR (p dep : Nat) : RR D → RR D
  | .ok d l' m => .ok (quoteD p d) l' (max dep m)
  | .bad l' => .bad l'
mutual
def tD : Nat → Nat → Nat → List UInt8 → RR D
  | 0, _, _, l => .bad l
  | f + 1, n, dep, l =>
    if kindAt l = 5 then (match atomOf (textOf l) with
      | some a => .ok (.mk (n - l.length) [] a) (skip (behind l)) 0
      | none => .bad l)
    else if kindAt l = 4 then quoteR (n - l.length) (dep + 1) (tD f n (dep + 1) (skip (behind l)))
    else if kindAt l = 1 then (match tL f n (dep + 1) (skip (behind l)) with
      | .bad l' => .bad l'
      | .ok ds l' m => if 0 < ds.length ∧ kindAt l' = 3 then shutT (n - l.length) (dep + 1) ds m (tD f n (dep + 1) (skip (behind l'))) else shutL (n - l.length) (dep + 1) ds m l')
    else .bad l
def tL : Nat → Nat → Nat → List UInt8 → RR (List D)
  | 0, _, _, l => .bad l
  | f + 1, n, dep, l =>
    if kindAt l = 5 ∨ kindAt l = 4 ∨ kindAt l = 1 then (match tD f n dep l with
      | .bad l' => .bad l'
      | .ok d l' m => (match tL f n dep l' with
        | .bad l'' => .bad l''
        | .ok ds l'' m' => .ok (d :: ds) l'' (max m m')))
    else .ok [] l 0
end
theorem next_lt {l : List UInt8} (h : kindAt l ≠ 0) : (skip (behind l)).length < l.length := by
  cases l with
  | nil => exact absurd rfl h
  | cons b r =>
    have h1 := behind_lt b r
    have h2 := skip_le (behind (b :: r))
    omega
theorem next_suffix (l : List UInt8) : skip (behind l) <:+ l := (skip_suffix _).trans (behind_suffix l)
/-- What reading leaves. -/
def Left {α : Type} (l : List UInt8) (k : Nat) (sz : α → Nat) : RR α → Prop
  | .ok a l' _ => l' <:+ l ∧ l'.length + k ≤ l.length ∧ sz a + l'.length ≤ l.length
  | .bad l' => l' <:+ l
theorem left_all : ∀ (f : Nat), (∀ n dep l, Left l 1 (fun d : D => d.parts.length) (tD f n dep l)) ∧ (∀ n dep l, Left l 0 (fun ds : List D => ds.length) (tL f n dep l))
  | 0 => ⟨fun _ _ l => by rw [tD]; exact List.suffix_refl _, fun _ _ l => by rw [tL]; exact List.suffix_refl _⟩
  | f + 1 => by
    obtain ⟨h1, h2⟩ := left_all f
    refine ⟨fun n dep l => ?_, fun n dep l => ?_⟩
    · rw [tD]
      split
      · rename_i hk
        have hl := next_lt (l := l) (by omega)
        split
        · exact ⟨next_suffix l, by omega, by simp [D.parts]; omega⟩
        · exact List.suffix_refl _
      · split
        · rename_i hk
          have hl := next_lt (l := l) (by omega)
          have := h1 n (dep + 1) (skip (behind l))
          revert this
          generalize tD f n (dep + 1) (skip (behind l)) = r
          cases r with
          | bad l' => exact fun h => List.IsSuffix.trans h (next_suffix l)
          | ok d l' m =>
            rintro ⟨a, b, c⟩
            exact ⟨a.trans (next_suffix l), by omega, by show 2 + l'.length ≤ _; omega⟩
        · split
          · rename_i hk
            have hl := next_lt (l := l) (by omega)
            have := h2 n (dep + 1) (skip (behind l))
            revert this
            generalize tL f n (dep + 1) (skip (behind l)) = r
            cases r with
            | bad l' => exact fun h => List.IsSuffix.trans h (next_suffix l)
            | ok ds l' m =>
              rintro ⟨a, b, c⟩
              have c : ds.length + l'.length ≤ (skip (behind l)).length := c
              simp only
              split
              · rename_i h3
                have hl2 := next_lt (l := l') (by omega)
                have := h1 n (dep + 1) (skip (behind l'))
                revert this
                generalize tD f n (dep + 1) (skip (behind l')) = r2
                cases r2 with
                | bad l'' => exact fun h => List.IsSuffix.trans h ((next_suffix l').trans (a.trans (next_suffix l)))
                | ok t l'' m' =>
                  rintro ⟨a', b', c'⟩
                  have c' : t.parts.length + l''.length ≤ (skip (behind l')).length := c'
                  unfold shutT
                  simp only
                  split
                  · rename_i h4
                    have hl3 := next_lt (l := l'') (by omega)
                    refine ⟨(next_suffix l'').trans (a'.trans ((next_suffix l').trans (a.trans (next_suffix l)))), by omega, ?_⟩
                    show (ds ++ t.parts).length + _ ≤ _
                    rw [List.length_append]
                    omega
                  · exact a'.trans ((next_suffix l').trans (a.trans (next_suffix l)))
              · unfold shutL
                split
                · rename_i h4
                  have hl3 := next_lt (l := l') (by omega)
                  exact ⟨(next_suffix l').trans (a.trans (next_suffix l)), by omega, by show ds.length + _ ≤ _; omega⟩
                · exact a.trans (next_suffix l)
          · exact List.suffix_refl _
    · rw [tL]
      split
      · have := h1 n dep l
        revert this
        generalize tD f n dep l = r
        cases r with
        | bad l' => exact fun h => h
        | ok d l' m =>
          rintro ⟨a, b, c⟩
          simp only
          have := h2 n dep l'
          revert this
          generalize tL f n dep l' = r2
          cases r2 with
          | bad l'' => exact fun h => List.IsSuffix.trans h a
          | ok ds l'' m' =>
            rintro ⟨a', b', c'⟩
            have c' : ds.length + l''.length ≤ l'.length := c'
            exact ⟨a'.trans a, by omega, by show (d :: ds).length + _ ≤ _; rw [List.length_cons]; omega⟩
      · exact ⟨List.suffix_refl _, by omega, by simp⟩
theorem tD_left (f n dep : Nat) (l : List UInt8) : Left l 1 (fun d : D => d.parts.length) (tD f n dep l) := (left_all f).1 n dep l
theorem tL_left (f n dep : Nat) (l : List UInt8) : Left l 0 (fun ds : List D => ds.length) (tL f n dep l) := (left_all f).2 n dep l
end Rd
end Go.Proofs.YtodeeegbajgafaaGreatDoor

namespace Go.Proofs.YtodeeegbajgafaaGreatDoor
open Rd
namespace Mc
/-- There was no fuel for a step. -/
def St.dry (f : Nat) (t : St) : Prop := t.kind = 3 ∧ t.steps = f
/-- One round with less fuel: the same, or there is none. -/
def Less (f : Nat) (s : St) (a b : Option St) : Prop := ∀ s', a = some s' → (b = some s' ∧ (s.steps ≤ f → s'.steps ≤ f)) ∨ (s.steps = f ∧ ∃ t, b = some t ∧ t.dry f)

theorem body_steps {s s' : St} {fs : List F} {e : Env} (h : s.body fs e = some s') : s'.steps = s.steps := by
  match fs with
  | [] => cases h
  | [f] => cases h; rfl
  | f :: g :: fs => cases h; rfl
theorem until_steps {s s' : St} {st : Bool} {fs : List F} {e : Env} (h : s.until_ st fs e = some s') : s'.steps = s.steps := by
  match fs with
  | [] => cases h
  | [f] => cases h; rfl
  | f :: g :: fs => cases h; rfl
theorem same {f : Nat} {s : St} {a : Option St} (h : ∀ s', a = some s' → s'.steps = s.steps) : Less f s a a := fun s' e => Or.inl ⟨e, fun hs => by rw [h s' e]; exact hs⟩

theorem call_less {f F : Nat} {sh : Sh} {s : St} (hF : s.steps < F) (hs : s.steps ≤ f) (_hk : s.kind = 0) (vs : List V) : Less f s (s.call F sh vs) (s.call f sh vs) := by
  match vs with
  | [] => exact same fun _ h => by cases h
  | .basic i :: args =>
    refine same fun s' h => ?_
    simp only [St.call] at h
    split at h
    · cases h; rfl
    · cases h; rfl
    · split at h
      · split at h
        · cases h; rfl
        · cases h
      · cases h
    · cases h
  | .clo k body env :: args =>
    refine same fun s' h => ?_
    simp only [St.call] at h
    split at h
    · exact body_steps h
    · cases h
  | [.cont todo] => exact same fun _ h => by cases h
  | [.cont todo, v] =>
    intro s' h
    have hne : ¬ s.steps = F := by omega
    simp only [St.call, St.step?, if_neg hne] at h
    cases h
    by_cases hf : s.steps = f
    · exact Or.inr ⟨hf, { s with kind := 3 }, by simp only [St.call, St.step?, if_pos hf], rfl, hf⟩
    · exact Or.inl ⟨by simp only [St.call, St.step?, if_neg hf], fun _ => by simp only [St.give]; omega⟩
  | .cont todo :: v :: u :: vs => exact same fun _ h => by cases h
  | .atom a :: vs => exact same fun _ h => by cases h
  | .pair a b :: vs => exact same fun _ h => by cases h
theorem each_less {f F : Nat} {sh : Sh} {s : St} (hF : s.steps < F) (hs : s.steps ≤ f) (hk : s.kind = 0) (fs : List Rd.F) (e : Env) (vs : List V) (hd : Hd) : Less f s (s.each F sh fs e vs hd) (s.each f sh fs e vs hd) := by
  match fs with
  | [] =>
    match hd with
    | .call => exact call_less hF hs hk vs
    | .lett _ body e => exact same fun _ h => body_steps h
  | g :: fs => exact same fun _ h => by cases h; rfl
theorem go_less {f F : Nat} {sh : Sh} {s : St} (hF : s.steps < F) (hs : s.steps ≤ f) (hk : s.kind = 0) (fr : Fr) (v : V) : Less f s (s.go F sh fr v) (s.go f sh fr v) := by
  match fr with
  | .choose t a e env => exact same fun _ h => by cases h; rfl
  | .body [] env => exact same fun _ h => by cases h
  | .body (g :: fs) env => exact same fun _ h => body_steps h
  | .until_ st [] env => exact same fun _ h => by cases h
  | .until_ st (g :: fs) env =>
    refine same fun s' h => ?_
    simp only [St.go] at h
    split at h
    · cases h; rfl
    · exact until_steps h
  | .each [] env vals hd => exact same fun _ h => by cases h
  | .each (g :: fs) env vals hd => exact each_less hF hs hk fs env _ hd
  | .set_ n x env =>
    refine same fun s' h => ?_
    simp only [St.go] at h
    split at h
    · cases h; rfl
    · cases h
  | .define n x =>
    refine same fun s' h => ?_
    simp only [St.go] at h
    split at h
    · cases h
    · cases h; rfl
theorem start_steps {F f : Nat} {sh : Sh} {s : St} (x : Rd.F) (e : Env) : s.start F sh x e = s.start f sh x e ∧ ∀ s', s.start F sh x e = some s' → s'.steps = s.steps := by
  match x with
  | .const a => exact ⟨rfl, fun _ h => by cases h; rfl⟩
  | .quoted d => exact ⟨rfl, fun _ h => by cases h; rfl⟩
  | .name n none =>
    refine ⟨rfl, fun s' h => ?_⟩
    simp only [St.start] at h
    split at h <;> cases h
    rfl
  | .name n (some (up, slot)) =>
    refine ⟨rfl, fun s' h => ?_⟩
    simp only [St.start] at h
    split at h
    · split at h <;> cases h
      rfl
    · cases h
  | .ite t a b => exact ⟨rfl, fun _ h => by cases h; rfl⟩
  | .lam k b => exact ⟨rfl, fun _ h => by cases h; rfl⟩
  | .begin_ b => exact ⟨rfl, fun _ h => body_steps h⟩
  | .let_ [] b => exact ⟨rfl, fun _ h => body_steps h⟩
  | .let_ (v :: vs) b => exact ⟨rfl, fun _ h => by cases h; rfl⟩
  | .set_ n none v => exact ⟨rfl, fun _ h => by cases h; rfl⟩
  | .set_ n (some _) v => exact ⟨rfl, fun _ h => by cases h⟩
  | .until_ st fs => exact ⟨rfl, fun _ h => until_steps h⟩
  | .reset b => exact ⟨rfl, fun _ h => (body_steps (s := { s with beyond := s.todo :: s.beyond, todo := [] }) h).trans rfl⟩
  | .shift b =>
    refine ⟨rfl, fun s' h => ?_⟩
    simp only [St.start] at h
    split at h
    · cases h
    · exact (body_steps (s := { s with todo := [] }) h).trans rfl
  | .define n v => exact ⟨rfl, fun _ h => by cases h; rfl⟩
  | .call [] => exact ⟨rfl, fun _ h => by cases h⟩
  | .call (p :: ps) => exact ⟨rfl, fun _ h => by cases h; rfl⟩

theorem round_less {f F : Nat} {sh : Sh} {s s' : St} (hF : s.steps < F) (hs : s.steps ≤ f) (h : s.round F sh = some s') : (s.round f sh = some s' ∧ s'.steps ≤ f) ∨ ∃ t, s.round f sh = some t ∧ t.dry f := by
  obtain ⟨ctl, todo, beyond, steps, kind, why, G, shown⟩ := s
  unfold St.round at h ⊢
  simp only at hF hs h ⊢
  split at h
  · cases h
  · rename_i hk
    have hk0 : kind = 0 := by omega
    rw [if_neg hk]
    cases ctl with
    | ev x e =>
      have hne : ¬ steps = F := by omega
      simp only [St.step?, if_neg hne] at h ⊢
      by_cases hf : steps = f
      · refine Or.inr ⟨{ ctl := .ev x e, todo := todo, beyond := beyond, steps := steps, kind := 3, why := why, G := G, shown := shown }, ?_, rfl, hf⟩
        rw [if_pos hf]
      · refine Or.inl ⟨?_, ?_⟩
        · rw [if_neg hf]
          simp only
          rw [(start_steps (F := f) (f := F) x e).1]
          exact h
        · have := (start_steps (F := F) (f := f) x e).2 s' h
          simp only at this
          omega
    | val v =>
      simp only at h ⊢
      cases todo with
      | cons fr todo =>
        simp only at h ⊢
        rcases go_less (f := f) (F := F) (sh := sh) (s := { ctl := .val v, todo := todo, beyond := beyond, steps := steps, kind := kind, why := why, G := G, shown := shown }) hF hs hk0 fr v s' h with ⟨h1, h2⟩ | ⟨h1, t, h2, h3⟩
        · exact Or.inl ⟨h1, h2 hs⟩
        · exact Or.inr ⟨t, h2, h3⟩
      | nil =>
        simp only at h ⊢
        cases beyond with
        | nil => cases h
        | cons t b =>
          cases h
          exact Or.inl ⟨rfl, hs⟩

/-- With less fuel than it takes: it stops there. -/
theorem Runs.less {f F : Nat} {sh : Sh} {n : Nat} {s t : St} (h : Runs F sh n s t) (hF : t.steps ≤ F) (hs : s.steps ≤ f) (hf : f < t.steps) : ∃ m u, Runs f sh m s u ∧ u.dry f := by
  induction h with
  | nil s => exact absurd hf (by omega)
  | cons h1 _ ih =>
    rcases round_less (f := f) (by omega) hs h1 with ⟨h2, h3⟩ | ⟨u, h2, h3⟩
    · obtain ⟨m, u, h4, h5⟩ := ih hF h3 hf
      exact ⟨m + 1, u, .cons h2 h4, h5⟩
    · exact ⟨1, u, .cons h2 (.nil _), h3⟩
end Mc
end Go.Proofs.YtodeeegbajgafaaGreatDoor
