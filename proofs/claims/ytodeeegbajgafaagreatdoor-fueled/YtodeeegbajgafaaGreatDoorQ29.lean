/- The machine as plain functions, whole: all forms, all procedures that are there, all ends. What holds of a run of the machine at each round: values are fine, names stand where the scopes have them, and no list of things to be done is longer than the steps taken. A run goes on as long as it has not ended. Each run ends; and what comes of more fuel. What comes of more fuel, and forms in turn. Forms made out of raw numbers: their texts, the forms they are, and what these come to. The names in the forms of data stand where the scopes around have them. -/
import Derived.Test.YtodeeegbajgafaaGreatDoorQ01
import Derived.Lib.ItoaMem
namespace Go.Proofs.YtodeeegbajgafaaGreatDoor
namespace Kc
open Rd
mutual
/-- Values. A scope is told by its number among those that were made. -/
inductive V where
  | atom (a : A)
  | pair (h t : V)
  | basic (i : Nat)
  | clo (k : Nat) (body : List F) (env : List Nat)
  | cont (todo : List Fr)
/-- Things to be done with a value. -/
inductive Fr where
  | choose (a : F) (e : Option F) (env : List Nat)
  | body (fs : List F) (env : List Nat)
  | until_ (stop : Bool) (fs : List F) (env : List Nat)
  | each (fs : List F) (env : List Nat) (vals : List V) (hd : Hd)
  | set_ (n : Sym) (loc : Option (Nat × Nat)) (env : List Nat)
  | define (n : Sym)
/-- Who is handed all values. -/
inductive Hd where
  | call
  | lett (body : List F) (env : List Nat)
end
abbrev Env := List Nat
inductive Ctl where
  | ev (f : F) (env : Env)
  | val (v : V)
structure St where
  ctl : Ctl
  todo : List Fr
  beyond : List (List Fr)
  steps : Nat
  kind : Nat
  why : Nat
  G : List (Sym × V)
  sc : List (List V)
  shown : List (List UInt8)
def V.isTrue : V → Bool
  | .atom (.truth false) => false
  | _ => true
def inRange (n : Int) : Bool := decide (-9223372036854775808 ≤ n) && decide (n ≤ 9223372036854775807)
/-- All numbers. -/
def nums : List V → Option (List Int)
  | [] => some []
  | .atom (.num n) :: vs => (nums vs).map (n :: ·)
  | _ :: _ => none
def fold (f : Int → Int → Int) : Int → List Int → Option Int
  | a, [] => some a
  | a, n :: ns => if inRange (f a n) then fold f (f a n) ns else none
def listE (ev : V) : List V → V
  | [] => ev
  | v :: vs => .pair v (listE ev vs)
/-- Numbers fit, and symbols are short. -/
def inR (n : Int) : Prop := -9223372036854775808 ≤ n ∧ n ≤ 9223372036854775807
def fineA : Rd.A → Prop
  | .num n => inR n
  | .sym l => l.length ≤ 500
  | _ => True
def fine : V → Prop
  | .atom a => fineA a
  | .pair h t => fine h ∧ fine t
  | _ => True
mutual
/-- The value of a datum. -/
def valD : D → V
  | .mk _ ds en => listE (.atom en) (valL ds)
def valL : List D → List V
  | [] => []
  | d :: ds => valD d :: valL ds
end
def isProc : V → Bool
  | .basic _ => true
  | .clo .. => true
  | .cont _ => true
  | _ => false
/-- How an atom is written. -/
def txA : A → List UInt8
  | .num n => Lib.itoa n
  | .truth true => [35, 116]
  | .truth false => [35, 102]
  | .sym l => l
  | .empty => [40, 41]
def procT : List UInt8 := [35, 60, 112, 114, 111, 99, 101, 100, 117, 114, 101, 62]
mutual
/-- How a value is shown. -/
def txV : V → List UInt8
  | .atom a => txA a
  | .pair h t => 40 :: (txV h ++ txR t)
  | _ => procT
/-- What stands behind a list's first value. -/
def txR : V → List UInt8
  | .atom .empty => [41]
  | .pair h t => 32 :: (txV h ++ txR t)
  | .atom a => [32, 46, 32] ++ (txA a ++ [41])
  | _ => [32, 46, 32] ++ (procT ++ [41])
end
/-- The parts of a value taken off a number of them. -/
def partsLeft : Int → V → Int
  | p, .pair h t => if 0 ≤ p - 1 then partsLeft (partsLeft (p - 1) h) t else p - 1
  | p, _ => p - 1
/-- A value as it is shown; none: it has too many parts. -/
def showK (v : V) : Option (List UInt8) := if partsLeft 300 v < 0 then none else some (txV v)
inductive Res where
  | val (v : V)
  | wrong (why : Nat)
  | shows (v : V)
def ofNums (do_ : List Int → Res) (args : List V) : Res := match nums args with
  | some ns => do_ ns
  | none => .wrong 2
def numR (r : Option Int) : Res := match r with
  | some n => .val (.atom (.num n))
  | none => .wrong 5
def truthR (b : Bool) : Res := .val (.atom (.truth b))
def neigh (r : Int → Int → Bool) : List Int → Bool
  | a :: b :: ns => r a b && neigh r (b :: ns)
  | _ => true
def divR (op : Int → Int → Int) : List Int → Res
  | [a, b] => if b = 0 then .wrong 6 else if a = -9223372036854775808 ∧ b = -1 then .wrong 5 else .val (.atom (.num (op a b)))
  | _ => .wrong 0
/-- What the procedures come to that are there. -/
def basicDo (i : Nat) (args : List V) : Res :=
  match i with
  | 0 => ofNums (fun ns => numR (fold (· + ·) 0 ns)) args
  | 1 => ofNums (fun ns => numR (fold (· * ·) 1 ns)) args
  | 2 => ofNums (fun ns => match ns with
    | [] => .wrong 0
    | [n] => numR (fold (· - ·) 0 [n])
    | n :: ns => numR (fold (· - ·) n ns)) args
  | 3 => ofNums (divR Int.tdiv) args
  | 4 => ofNums (divR Int.tmod) args
  | 5 => ofNums (fun ns => truthR (neigh (fun a b => decide (a < b)) ns)) args
  | 6 => ofNums (fun ns => truthR (neigh (fun a b => decide (a > b)) ns)) args
  | 7 => ofNums (fun ns => truthR (neigh (fun a b => decide (a = b)) ns)) args
  | 8 => (match args with | [a, b] => .val (.pair a b) | _ => .wrong 0)
  | 9 => (match args with | [.pair a _] => .val a | _ => .wrong 2)
  | 10 => (match args with | [.pair _ b] => .val b | _ => .wrong 2)
  | 11 => .val (listE (.atom .empty) args)
  | 12 => (match args with | [.pair _ _] => truthR true | _ => truthR false)
  | 13 => (match args with | [.atom .empty] => truthR true | _ => truthR false)
  | 14 => (match args with | [.atom (.num _)] => truthR true | _ => truthR false)
  | 15 => (match args with | [.atom (.sym _)] => truthR true | _ => truthR false)
  | 16 => (match args with | [v] => truthR (isProc v) | _ => truthR false)
  | 17 => (match args with | [.atom (.truth _)] => truthR true | _ => truthR false)
  | 18 => (match args with | [.atom a, .atom b] => truthR (a == b) | _ => truthR false)
  | 19 => (match args with | [v] => truthR (!v.isTrue) | _ => truthR false)
  | _ => (match args with | [v] => .shows v | _ => .wrong 0)
/-- The least and the most arguments; none: any number more. -/
def arity : Nat → Nat × Option Nat
  | 0 => (0, none) | 1 => (0, none) | 2 => (1, none) | 3 => (2, some 2) | 4 => (2, some 2) | 5 => (1, none) | 6 => (1, none) | 7 => (1, none)
  | 8 => (2, some 2) | 11 => (0, none) | 18 => (2, some 2) | _ => (1, some 1)
def takesB (i n : Nat) : Bool := decide ((arity i).1 ≤ n) && (match (arity i).2 with | some m => decide (n ≤ m) | none => true)
def find? (n : Sym) (G : List (Sym × V)) : Option V := (G.find? (·.1 == n)).map (·.2)
def put (n : Sym) (v : V) : List (Sym × V) → List (Sym × V)
  | [] => []
  | g :: G => if g.1 == n then (n, v) :: G else g :: put n v G
/-- A name is defined, anew or for the first time. -/
def defG (n : Sym) (v : V) (G : List (Sym × V)) : List (Sym × V) := if (find? n G).isSome then put n v G else G ++ [(n, v)]
def St.push (s : St) (f : Fr) : St := { s with todo := f :: s.todo }
def St.eval (s : St) (f : F) (env : Env) : St := { s with ctl := .ev f env }
def St.give (s : St) (v : V) : St := { s with ctl := .val v }
def St.fail (s : St) (why : Nat) : St := { s with kind := 2, why := why }
/-- A scope more, around it those of env: its number is the count of those before. -/
def St.scope (s : St) (vs : List V) : St := { s with sc := s.sc ++ [vs] }
def look (sc : List (List V)) (env : Env) (up slot : Nat) : Option V := if up ≤ 100000 then (match env[up]? with
  | some id => (match sc[id]? with
    | some vs => vs[slot]?
    | none => none)
  | none => none) else none
def St.body (s : St) (fs : List F) (env : Env) : Option St := match fs with
  | [] => none
  | [f] => some (s.eval f env)
  | f :: _ => some ((s.push (.body fs env)).eval f env)
def St.until_ (s : St) (stop : Bool) (fs : List F) (env : Env) : Option St := match fs with
  | [] => none
  | [f] => some (s.eval f env)
  | f :: _ => some ((s.push (.until_ stop fs env)).eval f env)
/-- One step more, if there is fuel. -/
def St.step? (s : St) (fuel : Nat) : St × Bool := if s.steps = fuel then ({ s with kind := 3 }, false) else ({ s with steps := s.steps + 1 }, true)
/-- A procedure is called. -/
def St.call (s : St) (fuel : Nat) : List V → Option St
  | [] => none
  | .atom _ :: _ => some (s.fail 4)
  | .pair _ _ :: _ => some (s.fail 4)
  | .basic i :: args => if takesB i args.length then (match basicDo i args with
      | .val v => some (s.give v)
      | .wrong y => some (s.fail y)
      | .shows v => (match showK v with
        | some t => some ({ s with shown := s.shown ++ [t] }.give (.atom .empty))
        | none => some (s.fail 8))) else some (s.fail 3)
  | .clo k body env :: args => if args.length = k then (s.scope args).body body (s.sc.length :: env) else some (s.fail 3)
  | .cont todo :: args => (match args with
    | [v] => (match s.step? fuel with
      | (s, true) => some ({ s with beyond := s.todo :: s.beyond, todo := todo }.give v)
      | (s, false) => some s)
    | _ => some (s.fail 3))
def St.handOn (s : St) (fuel : Nat) (vals : List V) : Hd → Option St
  | .call => s.call fuel vals
  | .lett body env => (s.scope vals).body body (s.sc.length :: env)
def St.each (s : St) (fuel : Nat) (fs : List F) (env : Env) (vals : List V) (hd : Hd) : Option St := match fs with
  | [] => s.handOn fuel vals hd
  | f :: _ => some ((s.push (.each fs env vals hd)).eval f env)
def St.start (s : St) (fuel : Nat) (f : F) (env : Env) : Option St := match f with
  | .const a => some (s.give (.atom a))
  | .quoted d => some (s.give (valD d))
  | .name n none => (match find? n s.G with | some v => some (s.give v) | none => some (s.fail 1))
  | .name _ (some (up, slot)) => (match look s.sc env up slot with | some v => some (s.give v) | none => none)
  | .ite t a e => some ((s.push (.choose a (some e) env)).eval t env)
  | .ift t a => some ((s.push (.choose a none env)).eval t env)
  | .lam k body => some (s.give (.clo k body env))
  | .begin_ body => s.body body env
  | .let_ vs body => s.each fuel vs env [] (.lett body env)
  | .set_ n loc v => some ((s.push (.set_ n loc env)).eval v env)
  | .until_ stop fs => s.until_ stop fs env
  | .reset body => { s with beyond := s.todo :: s.beyond, todo := [] }.body body env
  | .shift body => (match s.beyond with
    | [] => some (s.fail 7)
    | _ :: _ => ({ s with todo := [] }.scope [.cont s.todo]).body body (s.sc.length :: env))
  | .define n v => some ((s.push (.define n)).eval v env)
  | .call parts => s.each fuel parts env [] .call
/-- A slot of a scope is set. -/
def setSc (sc : List (List V)) (id slot : Nat) (v : V) : List (List V) := match sc[id]? with
  | some vs => sc.set id (vs.set slot v)
  | none => sc
def St.go (s : St) (fuel : Nat) (f : Fr) (v : V) : Option St := match f with
  | .choose a e env => if v.isTrue then some (s.eval a env) else (match e with
    | some e => some (s.eval e env)
    | none => some (s.give (.atom .empty)))
  | .body (_ :: fs) env => s.body fs env
  | .body [] _ => none
  | .until_ stop (_ :: fs) env => if v.isTrue = stop then some (s.give v) else s.until_ stop fs env
  | .until_ _ [] _ => none
  | .each (_ :: fs) env vals hd => s.each fuel fs env (vals ++ [v]) hd
  | .each [] _ _ _ => none
  | .set_ n none _ => if (find? n s.G).isSome then some ({ s with G := put n v s.G }.give (.atom .empty)) else some (s.fail 1)
  | .set_ _ (some (up, slot)) env => (match look s.sc env up slot, env[up]? with
    | some _, some id => some ({ s with sc := setSc s.sc id slot v }.give (.atom .empty))
    | _, _ => none)
  | .define n => some ({ s with G := defG n v s.G }.give (.atom (.sym n)))
/-- One round of the machine; none: it has ended. -/
def St.round (s : St) (fuel : Nat) : Option St :=
  if s.kind ≠ 0 then none else
  match s.ctl with
  | .ev f env => (match s.step? fuel with
    | (s, true) => s.start fuel f env
    | (s, false) => some s)
  | .val v => (match s.todo with
    | f :: todo => { s with todo := todo }.go fuel f v
    | [] => (match s.beyond with
      | t :: b => some { s with todo := t, beyond := b }
      | [] => none))
/-- The machine has ended: it can't go on, or it has a value. -/
def St.ended (s : St) : Prop := s.kind ≠ 0 ∨ (∃ v, s.ctl = .val v) ∧ s.todo = [] ∧ s.beyond = []
inductive Runs (fuel : Nat) : Nat → St → St → Prop
  | nil (s : St) : Runs fuel 0 s s
  | cons {n : Nat} {s s' t : St} (h : s.round fuel = some s') (k : Runs fuel n s' t) : Runs fuel (n + 1) s t
end Kc
end Go.Proofs.YtodeeegbajgafaaGreatDoor

namespace Go.Proofs.YtodeeegbajgafaaGreatDoor
namespace Kc
open Rd
/-- The scopes have so many slots. -/
inductive EnvOk (L : List Nat) : List Nat → List Nat → Prop
  | nil : EnvOk L [] []
  | cons {i m : Nat} {env sh : List Nat} (h : L[i]? = some m) (t : EnvOk L env sh) : EnvOk L (i :: env) (m :: sh)
def LocOk (sh : List Nat) : Option (Nat × Nat) → Prop
  | none => True
  | some (up, slot) => up ≤ 100000 ∧ ∃ m, sh[up]? = some m ∧ slot < m
/-- A form whose names stand where the scopes around have them. -/
inductive WfF : List Nat → F → Prop
  | const {sh : List Nat} {a : A} (h : fineA a) : WfF sh (.const a)
  | quoted {sh : List Nat} {d : D} (h : fine (valD d)) : WfF sh (.quoted d)
  | name {sh : List Nat} {n : Sym} {l : Option (Nat × Nat)} (h : LocOk sh l) : WfF sh (.name n l)
  | ite {sh : List Nat} {t a e : F} (h1 : WfF sh t) (h2 : WfF sh a) (h3 : WfF sh e) : WfF sh (.ite t a e)
  | ift {sh : List Nat} {t a : F} (h1 : WfF sh t) (h2 : WfF sh a) : WfF sh (.ift t a)
  | lam {sh : List Nat} {k : Nat} {body : List F} (hn : body ≠ []) (h : ∀ f, f ∈ body → WfF (k :: sh) f) : WfF sh (.lam k body)
  | begin_ {sh : List Nat} {body : List F} (hn : body ≠ []) (h : ∀ f, f ∈ body → WfF sh f) : WfF sh (.begin_ body)
  | let_ {sh : List Nat} {vs body : List F} (hn : body ≠ []) (hv : ∀ f, f ∈ vs → WfF sh f) (h : ∀ f, f ∈ body → WfF (vs.length :: sh) f) : WfF sh (.let_ vs body)
  | set_ {sh : List Nat} {n : Sym} {l : Option (Nat × Nat)} {v : F} (hl : LocOk sh l) (h : WfF sh v) : WfF sh (.set_ n l v)
  | until_ {sh : List Nat} {st : Bool} {fs : List F} (hn : fs ≠ []) (h : ∀ f, f ∈ fs → WfF sh f) : WfF sh (.until_ st fs)
  | reset {sh : List Nat} {body : List F} (hn : body ≠ []) (h : ∀ f, f ∈ body → WfF sh f) : WfF sh (.reset body)
  | shift {sh : List Nat} {body : List F} (hn : body ≠ []) (h : ∀ f, f ∈ body → WfF (1 :: sh) f) : WfF sh (.shift body)
  | define {sh : List Nat} {n : Sym} {v : F} (hn : n.length ≤ 500) (h : WfF sh v) : WfF sh (.define n v)
  | call {sh : List Nat} {parts : List F} (hn : parts ≠ []) (h : ∀ f, f ∈ parts → WfF sh f) : WfF sh (.call parts)
inductive Jx where
  | v (v : V)
  | f (f : Fr)
  | h (m : Nat) (h : Hd)
inductive Ok (L : List Nat) (n : Nat) : Jx → Prop
  | atom (a : A) (h : fineA a) : Ok L n (.v (.atom a))
  | pair (a b : V) (h1 : Ok L n (.v a)) (h2 : Ok L n (.v b)) : Ok L n (.v (.pair a b))
  | basic (i : Nat) : Ok L n (.v (.basic i))
  | clo (k : Nat) (body : List F) (env sh : List Nat) (he : EnvOk L env sh) (hn : body ≠ []) (hf : ∀ f, f ∈ body → WfF (k :: sh) f) : Ok L n (.v (.clo k body env))
  | cont (todo : List Fr) (hl : todo.length ≤ n) (h : ∀ f, f ∈ todo → Ok L n (.f f)) : Ok L n (.v (.cont todo))
  | choose (a : F) (e : Option F) (env sh : List Nat) (he : EnvOk L env sh) (ha : WfF sh a) (hx : ∀ x, e = some x → WfF sh x) : Ok L n (.f (.choose a e env))
  | body (x : F) (fs : List F) (env sh : List Nat) (he : EnvOk L env sh) (hn : fs ≠ []) (hf : ∀ f, f ∈ fs → WfF sh f) : Ok L n (.f (.body (x :: fs) env))
  | until_ (st : Bool) (x : F) (fs : List F) (env sh : List Nat) (he : EnvOk L env sh) (hn : fs ≠ []) (hf : ∀ f, f ∈ fs → WfF sh f) : Ok L n (.f (.until_ st (x :: fs) env))
  | each (x : F) (fs : List F) (env sh : List Nat) (vals : List V) (hd : Hd) (he : EnvOk L env sh) (hf : ∀ f, f ∈ fs → WfF sh f) (hv : ∀ v, v ∈ vals → Ok L n (.v v)) (hh : Ok L n (.h (vals.length + 1 + fs.length) hd)) : Ok L n (.f (.each (x :: fs) env vals hd))
  | set_ (nm : Sym) (l : Option (Nat × Nat)) (env sh : List Nat) (he : EnvOk L env sh) (hl : LocOk sh l) : Ok L n (.f (.set_ nm l env))
  | define (nm : Sym) (h : nm.length ≤ 500) : Ok L n (.f (.define nm))
  | call (m : Nat) (hm : m ≠ 0) : Ok L n (.h m .call)
  | lett (m : Nat) (body : List F) (env sh : List Nat) (he : EnvOk L env sh) (hn : body ≠ []) (hf : ∀ f, f ∈ body → WfF (m :: sh) f) : Ok L n (.h m (.lett body env))
def Ext (L L' : List Nat) : Prop := ∀ i m : Nat, L[i]? = some m → L'[i]? = some m
theorem EnvOk.mono {L L' : List Nat} (hx : Ext L L') {env sh : List Nat} (h : EnvOk L env sh) : EnvOk L' env sh := by
  induction h with
  | nil => exact .nil
  | cons h t ih => exact .cons (hx _ _ h) ih
theorem EnvOk.at {L : List Nat} {env sh : List Nat} (h : EnvOk L env sh) : ∀ {up m : Nat}, sh[up]? = some m → ∃ id, env[up]? = some id ∧ L[id]? = some m := by
  induction h with
  | nil => intro up m h; simp at h
  | cons h t ih =>
    intro up m hu
    cases up with
    | zero => simp at hu; subst hu; exact ⟨_, rfl, h⟩
    | succ up => exact ih (by simpa using hu)
theorem Ok.mono {L L' : List Nat} {n n' : Nat} (hx : Ext L L') (hn : n ≤ n') {x : Jx} (h : Ok L n x) : Ok L' n' x := by
  induction h with
  | atom a h => exact .atom a h
  | pair a b _ _ i1 i2 => exact .pair a b i1 i2
  | basic i => exact .basic i
  | clo k body env sh he hn hf => exact .clo k body env sh (he.mono hx) hn hf
  | cont todo hl _ ih => exact .cont todo (Nat.le_trans hl hn) ih
  | choose a e env sh he ha hee => exact .choose a e env sh (he.mono hx) ha hee
  | body x fs env sh he hn hf => exact .body x fs env sh (he.mono hx) hn hf
  | until_ st x fs env sh he hn hf => exact .until_ st x fs env sh (he.mono hx) hn hf
  | each x fs env sh vals hd he hf _ _ i1 i2 => exact .each x fs env sh vals hd (he.mono hx) hf i1 i2
  | set_ nm l env sh he hl => exact .set_ nm l env sh (he.mono hx) hl
  | define nm h => exact .define nm h
  | call m hm => exact .call m hm
  | lett m body env sh he hn hf => exact .lett m body env sh (he.mono hx) hn hf
theorem Ok.fine {L : List Nat} {n : Nat} : ∀ {v : V}, Ok L n (.v v) → fine v
  | .atom _, .atom _ h => h
  | .pair _ _, .pair _ _ h1 h2 => ⟨Ok.fine h1, Ok.fine h2⟩
  | .basic _, _ => by simp [Kc.fine]
  | .clo .., _ => by simp [Kc.fine]
  | .cont _, _ => by simp [Kc.fine]
theorem Ok.listE {L : List Nat} {n : Nat} {e : V} (he : Ok L n (.v e)) : ∀ {vs : List V}, (∀ v, v ∈ vs → Ok L n (.v v)) → Ok L n (.v (listE e vs))
  | [], _ => he
  | v :: _, h => .pair _ _ (h v List.mem_cons_self) (Ok.listE he fun u hu => h u (List.mem_cons_of_mem _ hu))
theorem fine_listE {e : V} : ∀ {vs : List V}, Kc.fine (Kc.listE e vs) → Kc.fine e ∧ ∀ v, v ∈ vs → Kc.fine v
  | [], h => ⟨h, fun v hv => by cases hv⟩
  | v :: vs, h => by
    rw [Kc.listE, Kc.fine] at h
    obtain ⟨h1, h2⟩ := fine_listE h.2
    exact ⟨h1, fun u hu => by
      rcases List.mem_cons.1 hu with rfl | hu
      · exact h.1
      · exact h2 u hu⟩
mutual
theorem ok_valD {L : List Nat} {n : Nat} : ∀ (d : D), Kc.fine (valD d) → Ok L n (.v (valD d))
  | .mk p ds en, h => by
    rw [valD] at h ⊢
    obtain ⟨h1, h2⟩ := fine_listE h
    exact Ok.listE (.atom en h1) (ok_valL ds h2)
theorem ok_valL {L : List Nat} {n : Nat} : ∀ (ds : List D), (∀ v, v ∈ valL ds → Kc.fine v) → ∀ v, v ∈ valL ds → Ok L n (.v v)
  | [], _, v, h => by rw [valL] at h; cases h
  | d :: ds, hf, v, h => by
    rw [valL] at h hf
    rcases List.mem_cons.1 h with rfl | h
    · exact ok_valD d (hf _ List.mem_cons_self)
    · exact ok_valL ds (fun u hu => hf u (List.mem_cons_of_mem _ hu)) v h
end
def total (s : St) : Nat := s.todo.length + (s.beyond.map List.length).sum
def lens (s : St) : List Nat := s.sc.map List.length
def CtlOk (L : List Nat) (n : Nat) : Ctl → Prop
  | .ev f env => ∃ sh, EnvOk L env sh ∧ WfF sh f
  | .val v => Ok L n (.v v)
/-- A run that is under way, with room for k things more. -/
structure Good (F k : Nat) (s : St) : Prop where
  st : s.steps ≤ F
  kw : (s.kind = 0 ∧ s.why = 0) ∨ s.kind = 2 ∨ (s.kind = 3 ∧ s.why = 0 ∧ s.steps = F)
  ctl : CtlOk (lens s) s.steps s.ctl
  todo : s.todo.length + k ≤ s.steps ∧ ∀ f, f ∈ s.todo → Ok (lens s) s.steps (.f f)
  bey : ∀ t, t ∈ s.beyond → t.length ≤ s.steps ∧ ∀ f, f ∈ t → Ok (lens s) s.steps (.f f)
  g : ∀ p, p ∈ s.G → Ok (lens s) s.steps (.v p.2)
  sc : ∀ vs, vs ∈ s.sc → ∀ v, v ∈ vs → Ok (lens s) s.steps (.v v)
  pot : s.shown.length + total s + k ≤ s.steps * s.steps
/-- How a run goes on. -/
structure Nx (F : Nat) (s s' : St) : Prop where
  good : Good F 0 s'
  down : s.steps < s'.steps ∨ (s'.steps = s.steps ∧ (s'.kind ≠ 0 ∨ (∃ f e, s'.ctl = .ev f e) ∨ (s'.todo = s.todo ∧ s'.beyond = s.beyond)))
  more : ∃ l, s'.shown = s.shown ++ l
def Goes (F : Nat) (s : St) (x : Option St) : Prop := ∃ s', x = some s' ∧ Nx F s s'
theorem Good.less {F k j : Nat} {s : St} (h : Good F k s) (hj : j ≤ k) : Good F j s :=
  ⟨h.st, h.kw, h.ctl, ⟨by have := h.todo.1; omega, h.todo.2⟩, h.bey, h.g, h.sc, by have := h.pot; omega⟩
theorem Good.push {F k : Nat} {s : St} (h : Good F (k + 1) s) {f : Fr} (hf : Ok (lens s) s.steps (.f f)) : Good F k (s.push f) := by
  refine ⟨h.st, h.kw, h.ctl, ⟨?_, ?_⟩, h.bey, h.g, h.sc, ?_⟩
  · have := h.todo.1
    show (f :: s.todo).length + k ≤ s.steps
    rw [List.length_cons]
    omega
  · intro x hx
    rcases List.mem_cons.1 hx with rfl | hx
    · exact hf
    · exact h.todo.2 x hx
  · have := h.pot
    unfold total at this ⊢
    show s.shown.length + ((f :: s.todo).length + _) + k ≤ s.steps * s.steps
    rw [List.length_cons]
    show s.shown.length + (s.todo.length + 1 + (s.beyond.map List.length).sum) + k ≤ _
    omega
theorem Good.eval {F k : Nat} {s : St} (h : Good F k s) {f : Rd.F} {env sh : List Nat} (he : EnvOk (lens s) env sh) (hf : WfF sh f) : Good F k (s.eval f env) :=
  ⟨h.st, h.kw, ⟨sh, he, hf⟩, h.todo, h.bey, h.g, h.sc, h.pot⟩
theorem Good.give {F k : Nat} {s : St} (h : Good F k s) {v : V} (hv : Ok (lens s) s.steps (.v v)) : Good F k (s.give v) :=
  ⟨h.st, h.kw, hv, h.todo, h.bey, h.g, h.sc, h.pot⟩
theorem Good.fail {F k : Nat} {s : St} (h : Good F k s) (y : Nat) : Good F k (s.fail y) :=
  ⟨h.st, Or.inr (Or.inl rfl), h.ctl, h.todo, h.bey, h.g, h.sc, h.pot⟩
theorem ext_app (L M : List Nat) : Ext L (L ++ M) := fun i m h => by
  rw [List.getElem?_append_left (by
    rcases Nat.lt_or_ge i L.length with h' | h'
    · exact h'
    · rw [List.getElem?_eq_none h'] at h; cases h)]
  exact h
theorem Good.scope {F k : Nat} {s : St} (h : Good F k s) {vs : List V} (hv : ∀ v, v ∈ vs → Ok (lens s) s.steps (.v v)) : Good F k (s.scope vs) := by
  have hx : Ext (lens s) (lens (s.scope vs)) := by
    unfold lens St.scope
    rw [List.map_append]
    exact ext_app _ _
  have m : ∀ {x : Jx}, Ok (lens s) s.steps x → Ok (lens (s.scope vs)) s.steps x := fun h => h.mono hx (Nat.le_refl _)
  refine ⟨h.st, h.kw, ?_, ⟨h.todo.1, fun f hf => m (h.todo.2 f hf)⟩, fun t ht => ⟨(h.bey t ht).1, fun f hf => m ((h.bey t ht).2 f hf)⟩, fun p hp => m (h.g p hp), ?_, h.pot⟩
  · have := h.ctl
    show CtlOk _ s.steps s.ctl
    cases hc : s.ctl with
    | ev f env => rw [hc] at this; obtain ⟨sh, h1, h2⟩ := this; exact ⟨sh, h1.mono hx, h2⟩
    | val v => rw [hc] at this; exact m this
  · intro us hu v hvv
    rcases List.mem_append.1 hu with hu | hu
    · exact m (h.sc us hu v hvv)
    · rw [List.mem_singleton] at hu
      subst hu
      exact m (hv v hvv)
theorem lens_scope (s : St) (vs : List V) : lens (s.scope vs) = lens s ++ [vs.length] := by
  unfold lens St.scope
  rw [List.map_append]
  rfl
theorem EnvOk.scope {s : St} {env sh : List Nat} (h : EnvOk (lens s) env sh) (vs : List V) : EnvOk (lens (s.scope vs)) (s.sc.length :: env) (vs.length :: sh) := by
  rw [lens_scope]
  refine .cons ?_ (h.mono (ext_app _ _))
  rw [List.getElem?_append_right (by unfold lens; rw [List.length_map]; exact Nat.le_refl _)]
  unfold lens
  rw [List.length_map, Nat.sub_self]
  rfl
theorem goes_body {F : Nat} {s : St} (h : Good F 1 s) {fs : List Rd.F} {env sh : List Nat} (he : EnvOk (lens s) env sh) (hn : fs ≠ []) (hf : ∀ f, f ∈ fs → WfF sh f) : Goes F s (s.body fs env) := by
  match fs, hn with
  | [f], _ => exact ⟨_, rfl, (h.less (Nat.zero_le 1)).eval he (hf f List.mem_cons_self), Or.inr ⟨rfl, Or.inr (Or.inl ⟨_, _, rfl⟩)⟩, [], (List.append_nil _).symm⟩
  | f :: g :: fs, _ =>
    refine ⟨_, rfl, (h.push (.body f (g :: fs) env sh he (by simp) fun x hx => hf x (List.mem_cons_of_mem _ hx))).eval he (hf f List.mem_cons_self), Or.inr ⟨rfl, Or.inr (Or.inl ⟨_, _, rfl⟩)⟩, [], (List.append_nil _).symm⟩
theorem goes_until {F : Nat} {s : St} (h : Good F 1 s) {st : Bool} {fs : List Rd.F} {env sh : List Nat} (he : EnvOk (lens s) env sh) (hn : fs ≠ []) (hf : ∀ f, f ∈ fs → WfF sh f) : Goes F s (s.until_ st fs env) := by
  match fs, hn with
  | [f], _ => exact ⟨_, rfl, (h.less (Nat.zero_le 1)).eval he (hf f List.mem_cons_self), Or.inr ⟨rfl, Or.inr (Or.inl ⟨_, _, rfl⟩)⟩, [], (List.append_nil _).symm⟩
  | f :: g :: fs, _ =>
    refine ⟨_, rfl, (h.push (.until_ st f (g :: fs) env sh he (by simp) fun x hx => hf x (List.mem_cons_of_mem _ hx))).eval he (hf f List.mem_cons_self), Or.inr ⟨rfl, Or.inr (Or.inl ⟨_, _, rfl⟩)⟩, [], (List.append_nil _).symm⟩
/-- What is done in another state that is as far. -/
theorem Goes.of {F : Nat} {s r : St} {x : Option St} (h : Goes F r x) (h1 : r.steps = s.steps) (h2 : ∀ s', x = some s' → (s'.kind ≠ 0 ∨ (∃ f e, s'.ctl = .ev f e))) (h3 : r.shown = s.shown) : Goes F s x := by
  obtain ⟨s', hx, hg, hd, hm⟩ := h
  refine ⟨s', hx, hg, ?_, by rw [← h3]; exact hm⟩
  rw [← h1]
  rcases hd with hd | ⟨hd, _⟩
  · exact Or.inl hd
  · exact Or.inr ⟨hd, (h2 s' hx).elim Or.inl fun h => Or.inr (Or.inl h)⟩
theorem body_ev {s s' : St} {fs : List Rd.F} {env : List Nat} (h : s.body fs env = some s') : ∃ f e, s'.ctl = .ev f e := by
  match fs, h with
  | [f], h => cases h; exact ⟨_, _, rfl⟩
  | f :: g :: fs, h => cases h; exact ⟨_, _, rfl⟩
end Kc
end Go.Proofs.YtodeeegbajgafaaGreatDoor

namespace Go.Proofs.YtodeeegbajgafaaGreatDoor
namespace Kc
open Rd
theorem inR_of {n : Int} (h : inRange n = true) : inR n := by
  unfold inRange at h
  simp only [Bool.and_eq_true, decide_eq_true_eq] at h
  exact h
theorem fold_inR (f : Int → Int → Int) : ∀ (ns : List Int) (a r : Int), inR a → fold f a ns = some r → inR r
  | [], a, r, ha, h => by rw [fold] at h; cases h; exact ha
  | n :: ns, a, r, _, h => by
    rw [fold] at h
    split at h
    · rename_i hi
      exact fold_inR f ns _ r (inR_of hi) h
    · cases h
theorem nums_in : ∀ (vs : List V) (ns : List Int), (∀ v, v ∈ vs → fine v) → nums vs = some ns → ∀ n, n ∈ ns → inR n
  | [], ns, _, h, n, hn => by rw [nums] at h; cases h; cases hn
  | .atom (.num m) :: vs, ns, hf, h, n, hn => by
    rw [nums] at h
    cases hv : nums vs with
    | none => rw [hv] at h; cases h
    | some ms =>
      rw [hv] at h
      cases h
      rcases List.mem_cons.1 hn with rfl | hn
      · exact hf _ List.mem_cons_self
      · exact nums_in vs ms (fun v hv => hf v (List.mem_cons_of_mem _ hv)) hv n hn
  | .atom (.truth _) :: vs, ns, _, h, _, _ => by simp [nums] at h
  | .atom (.sym _) :: vs, ns, _, h, _, _ => by simp [nums] at h
  | .atom .empty :: vs, ns, _, h, _, _ => by simp [nums] at h
  | .pair _ _ :: vs, ns, _, h, _, _ => by simp [nums] at h
  | .basic _ :: vs, ns, _, h, _, _ => by simp [nums] at h
  | .clo .. :: vs, ns, _, h, _, _ => by simp [nums] at h
  | .cont _ :: vs, ns, _, h, _, _ => by simp [nums] at h
/-- A result whose value is so. -/
def ResOk (L : List Nat) (n : Nat) : Res → Prop
  | .val v => Ok L n (.v v)
  | _ => True
theorem ofNums_ok {L : List Nat} {n : Nat} {do_ : List Int → Res} {args : List V} (ha : ∀ v, v ∈ args → Ok L n (.v v)) (hd : ∀ ns, (∀ m, m ∈ ns → inR m) → ResOk L n (do_ ns)) : ResOk L n (ofNums do_ args) := by
  unfold ofNums
  cases h : nums args with
  | none => trivial
  | some ns => exact hd ns (nums_in args ns (fun v hv => (ha v hv).fine) h)
theorem numR_ok {L : List Nat} {n : Nat} {r : Option Int} (h : ∀ m, r = some m → inR m) : ResOk L n (numR r) := by
  cases r with
  | none => trivial
  | some m => exact .atom _ (h m rfl)
theorem truthR_ok {L : List Nat} {n : Nat} (b : Bool) : ResOk L n (truthR b) := .atom _ trivial
theorem tdiv_inR {a b : Int} (ha : inR a) (hn : ¬ (a = -9223372036854775808 ∧ b = -1)) : inR (Int.tdiv a b) := by
  unfold inR at *
  have h1 : (Int.tdiv a b).natAbs ≤ a.natAbs := by rw [Int.natAbs_tdiv]; exact Nat.div_le_self _ _
  by_cases h2 : a = -9223372036854775808
  · subst h2
    have hb : b ≠ -1 := fun e => hn ⟨rfl, e⟩
    by_cases h3 : b = 0
    · subst h3; simp
    · have h4 : b = 1 ∨ 2 ≤ b.natAbs := by omega
      rcases h4 with rfl | h4
      · simp
      · have h5 : (Int.tdiv (-9223372036854775808) b).natAbs ≤ 9223372036854775808 / 2 := by
          rw [Int.natAbs_tdiv]
          exact Nat.div_le_div_left h4 (by omega)
        omega
  · omega
theorem tmod_inR {a b : Int} (ha : inR a) : inR (Int.tmod a b) := by
  unfold inR at *
  have h1 : (Int.tmod a b).natAbs ≤ a.natAbs := by rw [Int.natAbs_tmod]; exact Nat.mod_le _ _
  by_cases h2 : 0 ≤ a
  · have := Int.tmod_nonneg b h2
    omega
  · have h3 : Int.tmod a b = -(Int.tmod (-a) b) := by rw [Int.neg_tmod, Int.neg_neg]
    have := Int.tmod_nonneg b (a := -a) (by omega)
    omega
theorem divR_ok {L : List Nat} {n : Nat} {op : Int → Int → Int} (hop : ∀ a b, inR a → ¬ (a = -9223372036854775808 ∧ b = -1) → inR (op a b)) (ns : List Int) (h : ∀ m, m ∈ ns → inR m) : ResOk L n (divR op ns) := by
  unfold divR
  split
  · split
    · trivial
    · split
      · trivial
      · rename_i hn
        exact .atom _ (hop _ _ (h _ (by simp)) hn)
  · trivial
theorem basic_ok {L : List Nat} {n : Nat} (i : Nat) (args : List V) (ha : ∀ v, v ∈ args → Ok L n (.v v)) : ResOk L n (basicDo i args) := by
  have h0 : inR 0 := by unfold inR; omega
  have h1 : inR 1 := by unfold inR; omega
  unfold basicDo
  split
  · exact ofNums_ok ha fun ns _ => numR_ok fun m hm => fold_inR _ _ _ _ h0 hm
  · exact ofNums_ok ha fun ns _ => numR_ok fun m hm => fold_inR _ _ _ _ h1 hm
  · refine ofNums_ok ha fun ns hns => ?_
    split
    · trivial
    · exact numR_ok fun m hm => fold_inR _ _ _ _ h0 hm
    · exact numR_ok fun m hm => fold_inR _ _ _ _ (hns _ (by simp)) hm
  · exact ofNums_ok ha fun ns hns => divR_ok (fun a b h1 h2 => tdiv_inR h1 h2) ns hns
  · exact ofNums_ok ha fun ns hns => divR_ok (fun a b h1 _ => tmod_inR h1) ns hns
  · exact ofNums_ok ha fun ns hns => truthR_ok _
  · exact ofNums_ok ha fun ns hns => truthR_ok _
  · exact ofNums_ok ha fun ns hns => truthR_ok _
  · split
    · exact .pair _ _ (ha _ (by simp)) (ha _ (by simp))
    · trivial
  · split
    · cases ha _ (List.mem_singleton.2 rfl) with
      | pair _ _ h1 h2 => exact h1
    · trivial
  · split
    · cases ha _ (List.mem_singleton.2 rfl) with
      | pair _ _ h1 h2 => exact h2
    · trivial
  · exact Ok.listE (.atom .empty trivial) ha
  all_goals (split <;> first | exact truthR_ok _ | trivial)
theorem Good.stepped {F : Nat} {s : St} {k : Nat} (h : Good F k s) (hk : s.kind = 0) (hs : s.steps ≠ F) : Good F (k + 1) { s with steps := s.steps + 1 } := by
  have hx : Ext (lens s) (lens { s with steps := s.steps + 1 }) := fun i m h => h
  have m : ∀ {x : Jx}, Ok (lens s) s.steps x → Ok (lens { s with steps := s.steps + 1 }) (s.steps + 1) x := fun h => h.mono hx (Nat.le_succ _)
  refine ⟨?_, ?_, ?_, ⟨?_, fun f hf => m (h.todo.2 f hf)⟩, fun t ht => ⟨Nat.le_succ_of_le (h.bey t ht).1, fun f hf => m ((h.bey t ht).2 f hf)⟩, fun p hp => m (h.g p hp), fun vs hv v hvv => m (h.sc vs hv v hvv), ?_⟩
  · have := h.st
    show s.steps + 1 ≤ F
    omega
  · rcases h.kw with h | h | h
    · exact Or.inl h
    · exact Or.inr (Or.inl h)
    · omega
  · have := h.ctl
    show CtlOk _ (s.steps + 1) s.ctl
    cases hc : s.ctl with
    | ev f env => rw [hc] at this; exact this
    | val v => rw [hc] at this; exact m this
  · have := h.todo.1
    show s.todo.length + (k + 1) ≤ s.steps + 1
    omega
  · have := h.pot
    show s.shown.length + total s + (k + 1) ≤ (s.steps + 1) * (s.steps + 1)
    have : (s.steps + 1) * (s.steps + 1) = s.steps * s.steps + 2 * s.steps + 1 := by
      rw [Nat.add_mul, Nat.mul_add]; omega
    omega
theorem Good.dry {F k : Nat} {s : St} (h : Good F k s) (hk : s.kind = 0) (hs : s.steps = F) : Good F k { s with kind := 3 } := by
  refine ⟨h.st, Or.inr (Or.inr ⟨rfl, ?_, hs⟩), h.ctl, h.todo, h.bey, h.g, h.sc, h.pot⟩
  rcases h.kw with h | h | h
  · exact h.2
  · omega
  · omega
theorem goes_call {F : Nat} {s : St} (h : Good F 1 s) (hk : s.kind = 0) {vs : List V} (hn : vs ≠ []) (hv : ∀ v, v ∈ vs → Ok (lens s) s.steps (.v v)) : Goes F s (s.call F vs) := by
  have h0 := h.less (Nat.zero_le 1)
  have hfail : ∀ y, Goes F s (some (s.fail y)) := fun y => ⟨_, rfl, h0.fail y, Or.inr ⟨rfl, Or.inl (by simp [St.fail])⟩, [], (List.append_nil _).symm⟩
  have hgive : ∀ v, Ok (lens s) s.steps (.v v) → Goes F s (some (s.give v)) := fun v hv => ⟨_, rfl, h0.give hv, Or.inr ⟨rfl, Or.inr (Or.inr ⟨rfl, rfl⟩)⟩, [], (List.append_nil _).symm⟩
  match vs, hn, hv with
  | .atom _ :: _, _, _ => exact hfail 4
  | .pair _ _ :: _, _, _ => exact hfail 4
  | .basic i :: args, _, hv =>
    rw [St.call]
    split
    · have hr := basic_ok (L := lens s) (n := s.steps) i args fun v hx => hv v (List.mem_cons_of_mem _ hx)
      split
      · rename_i v hb
        rw [hb] at hr
        exact hgive v hr
      · exact hfail _
      · split
        · rename_i v _ t _
          refine ⟨_, rfl, ⟨h.st, h.kw, .atom _ trivial, h0.todo, h.bey, h.g, h.sc, ?_⟩, Or.inr ⟨rfl, Or.inr (Or.inr ⟨rfl, rfl⟩)⟩, [t], rfl⟩
          have := h.pot
          show (s.shown ++ [t]).length + total s + 0 ≤ s.steps * s.steps
          rw [List.length_append, List.length_singleton]
          omega
        · exact hfail 8
    · exact hfail 3
  | .clo k body env :: args, _, hv =>
    rw [St.call]
    split
    · rename_i hl
      cases hv _ List.mem_cons_self with
      | clo _ _ _ sh he hn hf =>
        have := goes_body (h.scope fun v hx => hv v (List.mem_cons_of_mem _ hx)) (he.scope args) hn (by rw [hl]; exact hf)
        exact this.of rfl (fun s' e => Or.inr (body_ev e)) rfl
    · exact hfail 3
  | .cont todo :: args, _, hv =>
    cases hv _ List.mem_cons_self with
    | cont _ hl hf =>
      match args, hv with
      | [], _ => exact hfail 3
      | v :: _ :: _, _ => exact hfail 3
      | [v], hv =>
        have hvv := hv v (by simp)
        show Goes F s (match s.step? F with
          | (s, true) => some ({ s with beyond := s.todo :: s.beyond, todo := todo }.give v)
          | (s, false) => some s)
        unfold St.step?
        by_cases hs : s.steps = F
        · rw [if_pos hs]
          exact ⟨_, rfl, h0.dry hk hs, Or.inr ⟨rfl, Or.inl (by simp)⟩, [], (List.append_nil _).symm⟩
        · rw [if_neg hs]
          have h2 := h.stepped hk hs
          have m : ∀ {x : Jx}, Ok (lens s) s.steps x → Ok (lens s) (s.steps + 1) x := fun h => h.mono (fun _ _ e => e) (Nat.le_succ _)
          refine ⟨_, rfl, ⟨h2.st, h2.kw, m hvv, ⟨?_, fun f hx => m (hf f hx)⟩, ?_, h2.g, h2.sc, ?_⟩, Or.inl (Nat.lt_succ_self _), [], (List.append_nil _).symm⟩
          · show todo.length + 0 ≤ s.steps + 1
            omega
          · intro t ht
            rcases List.mem_cons.1 ht with rfl | ht
            · exact ⟨by have := h2.todo.1; show s.todo.length ≤ s.steps + 1; have := h.todo.1; omega, h2.todo.2⟩
            · exact h2.bey t ht
          · have := h.pot
            unfold total at this
            show s.shown.length + (todo.length + ((s.todo :: s.beyond).map List.length).sum) + 0 ≤ (s.steps + 1) * (s.steps + 1)
            rw [List.map_cons, List.sum_cons]
            have : (s.steps + 1) * (s.steps + 1) = s.steps * s.steps + 2 * s.steps + 1 := by
              rw [Nat.add_mul, Nat.mul_add]; omega
            omega
theorem goes_each {F : Nat} {s : St} (h : Good F 1 s) (hk : s.kind = 0) {fs : List Rd.F} {env sh : List Nat} {vals : List V} {hd : Hd} (he : EnvOk (lens s) env sh) (hf : ∀ f, f ∈ fs → WfF sh f) (hv : ∀ v, v ∈ vals → Ok (lens s) s.steps (.v v)) (hh : Ok (lens s) s.steps (.h (vals.length + fs.length) hd)) : Goes F s (s.each F fs env vals hd) := by
  match fs, hf, hh with
  | [], _, hh =>
    rw [St.each]
    cases hh with
    | call _ hm => exact goes_call h hk (fun e => by rw [e] at hm; exact hm rfl) hv
    | lett _ body en sh' he' hn hf' =>
      have := goes_body (h.scope hv) (he'.scope vals) hn hf'
      exact this.of rfl (fun s' e => Or.inr (body_ev e)) rfl
  | f :: fs, hf, hh =>
    refine ⟨_, rfl, (h.push (.each f fs env sh vals hd he (fun x hx => hf x (List.mem_cons_of_mem _ hx)) hv ?_)).eval he (hf f List.mem_cons_self), Or.inr ⟨rfl, Or.inr (Or.inl ⟨_, _, rfl⟩)⟩, [], (List.append_nil _).symm⟩
    rw [List.length_cons] at hh
    rw [show vals.length + 1 + fs.length = vals.length + (fs.length + 1) by omega]
    exact hh
theorem look_ok {s : St} {F k : Nat} (h : Good F k s) {env sh : List Nat} (he : EnvOk (lens s) env sh) {up slot : Nat} (hl : LocOk sh (some (up, slot))) : ∃ id vs v, env[up]? = some id ∧ s.sc[id]? = some vs ∧ slot < vs.length ∧ look s.sc env up slot = some v ∧ Ok (lens s) s.steps (.v v) := by
  obtain ⟨hu, m, hm, hs⟩ := hl
  obtain ⟨id, h1, h2⟩ := he.at hm
  unfold lens at h2
  rw [List.getElem?_map] at h2
  cases h3 : s.sc[id]? with
  | none => rw [h3] at h2; cases h2
  | some vs =>
    rw [h3] at h2
    cases h2
    refine ⟨id, vs, vs[slot], h1, h3, hs, ?_, h.sc vs (List.mem_of_getElem? h3) _ (List.getElem_mem hs)⟩
    unfold look
    rw [if_pos hu, h1]
    simp only [h3]
    exact List.getElem?_eq_getElem hs
theorem find_mem {n : Sym} {G : List (Sym × V)} {v : V} (h : find? n G = some v) : ∃ p, p ∈ G ∧ p.2 = v := by
  unfold find? at h
  cases hf : G.find? (·.1 == n) with
  | none => rw [hf] at h; cases h
  | some p => rw [hf] at h; cases h; exact ⟨p, List.mem_of_find?_eq_some hf, rfl⟩
theorem goes_start {F : Nat} {s : St} (h : Good F 1 s) (hk : s.kind = 0) {f : Rd.F} {env sh : List Nat} (he : EnvOk (lens s) env sh) (hf : WfF sh f) : Goes F s (s.start F f env) := by
  have h0 := h.less (Nat.zero_le 1)
  have hfail : ∀ y, Goes F s (some (s.fail y)) := fun y => ⟨_, rfl, h0.fail y, Or.inr ⟨rfl, Or.inl (by simp [St.fail])⟩, [], (List.append_nil _).symm⟩
  have hgive : ∀ v, Ok (lens s) s.steps (.v v) → Goes F s (some (s.give v)) := fun v hv => ⟨_, rfl, h0.give hv, Or.inr ⟨rfl, Or.inr (Or.inr ⟨rfl, rfl⟩)⟩, [], (List.append_nil _).symm⟩
  have hpush : ∀ fr x, Ok (lens s) s.steps (.f fr) → WfF sh x → Goes F s (some ((s.push fr).eval x env)) := fun fr x h1 h2 => ⟨_, rfl, (h.push h1).eval he h2, Or.inr ⟨rfl, Or.inr (Or.inl ⟨_, _, rfl⟩)⟩, [], (List.append_nil _).symm⟩
  cases hf with
  | const ha => exact hgive _ (.atom _ ha)
  | quoted hd => exact hgive _ (ok_valD _ hd)
  | @name _ n l hl =>
    cases l with
    | none =>
      rw [St.start]
      split
      · rename_i v hv
        obtain ⟨p, hp, rfl⟩ := find_mem hv
        exact hgive _ (h.g p hp)
      · exact hfail 1
    | some p =>
      obtain ⟨up, slot⟩ := p
      obtain ⟨id, vs, v, _, _, _, h4, h5⟩ := look_ok h he hl
      rw [St.start, h4]
      exact hgive v h5
  | ite h1 h2 h3 => exact hpush _ _ (.choose _ _ env sh he h2 fun x e => by cases e; exact h3) h1
  | ift h1 h2 => exact hpush _ _ (.choose _ _ env sh he h2 fun x e => by cases e) h1
  | lam hn hb => exact hgive _ (.clo _ _ env sh he hn hb)
  | begin_ hn hb => exact goes_body h he hn hb
  | let_ hn hv hb => exact goes_each h hk he hv (fun v e => by cases e) (.lett _ _ env sh he hn (by simpa using hb))
  | set_ hl hv => exact hpush _ _ (.set_ _ _ env sh he hl) hv
  | until_ hn hb => exact goes_until h he hn hb
  | reset hn hb =>
    have hg : Good F 1 { s with beyond := s.todo :: s.beyond, todo := [] } := by
      refine ⟨h.st, h.kw, h.ctl, ⟨?_, fun f e => by cases e⟩, ?_, h.g, h.sc, ?_⟩
      · have := h.todo.1
        show 0 + 1 ≤ s.steps
        omega
      · intro t ht
        rcases List.mem_cons.1 ht with rfl | ht
        · exact ⟨by have := h.todo.1; show s.todo.length ≤ s.steps; omega, h.todo.2⟩
        · exact h.bey t ht
      · have := h.pot
        unfold total at this
        show s.shown.length + (0 + ((s.todo :: s.beyond).map List.length).sum) + 1 ≤ s.steps * s.steps
        rw [List.map_cons, List.sum_cons]
        omega
    have := goes_body hg (env := env) (sh := sh) he hn hb
    exact this.of rfl (fun s' e => Or.inr (body_ev e)) rfl
  | @shift _ body hn hb =>
    rw [St.start]
    split
    · exact hfail 7
    · have hc : Ok (lens s) s.steps (.v (.cont s.todo)) := .cont _ (by have := h.todo.1; omega) h.todo.2
      have hg : Good F 1 { s with todo := [] } := by
        refine ⟨h.st, h.kw, h.ctl, ⟨?_, fun f e => by cases e⟩, h.bey, h.g, h.sc, ?_⟩
        · have := h.todo.1
          show 0 + 1 ≤ s.steps
          omega
        · have := h.pot
          unfold total at this
          show s.shown.length + (0 + (s.beyond.map List.length).sum) + 1 ≤ s.steps * s.steps
          omega
      have he' : EnvOk (lens ({ s with todo := [] } : St)) env sh := he
      have := goes_body (hg.scope (vs := [.cont s.todo]) fun v hv => by rw [List.mem_singleton] at hv; subst hv; exact hc) (he'.scope [.cont s.todo]) hn hb
      exact this.of rfl (fun s' e => Or.inr (body_ev e)) rfl
  | define hn hv => exact hpush _ _ (.define _ hn) hv
  | call hn hp => exact goes_each h hk he hp (fun v e => by cases e) (.call _ (by rw [List.length_nil, Nat.zero_add]; exact fun e => hn (List.length_eq_zero_iff.1 e)))
end Kc
end Go.Proofs.YtodeeegbajgafaaGreatDoor

namespace Go.Proofs.YtodeeegbajgafaaGreatDoor
namespace Kc
open Rd
theorem put_mem {n : Sym} {v : V} : ∀ {G : List (Sym × V)} {p : Sym × V}, p ∈ put n v G → p ∈ G ∨ p = (n, v)
  | [], p, h => by rw [put] at h; exact Or.inl h
  | g :: G, p, h => by
    rw [put] at h
    split at h
    · rcases List.mem_cons.1 h with h | h
      · exact Or.inr h
      · exact Or.inl (List.mem_cons_of_mem _ h)
    · rcases List.mem_cons.1 h with h | h
      · exact Or.inl (h ▸ List.mem_cons_self)
      · exact (put_mem h).imp (List.mem_cons_of_mem _) id
theorem def_mem {n : Sym} {v : V} {G : List (Sym × V)} {p : Sym × V} (h : p ∈ defG n v G) : p ∈ G ∨ p = (n, v) := by
  unfold defG at h
  split at h
  · exact put_mem h
  · rcases List.mem_append.1 h with h | h
    · exact Or.inl h
    · exact Or.inr (List.mem_singleton.1 h)
theorem setSc_lens {sc : List (List V)} {id slot : Nat} {v : V} : (setSc sc id slot v).map List.length = sc.map List.length := by
  unfold setSc
  cases h : sc[id]? with
  | none => rfl
  | some vs =>
    show (sc.set id (vs.set slot v)).map List.length = _
    apply List.ext_getElem?
    intro i
    rw [List.getElem?_map, List.getElem?_map, List.getElem?_set]
    split
    · rename_i e
      subst e
      rw [h]
      split
      · simp
      · rename_i hl
        rw [List.getElem?_eq_none (Nat.le_of_not_lt hl)] at h
        cases h
    · rfl
theorem setSc_mem {sc : List (List V)} {id slot : Nat} {v : V} {us : List V} {u : V} (h : us ∈ setSc sc id slot v) (hu : u ∈ us) : (∃ ws, ws ∈ sc ∧ u ∈ ws) ∨ u = v := by
  unfold setSc at h
  cases hs : sc[id]? with
  | none => rw [hs] at h; exact Or.inl ⟨us, h, hu⟩
  | some vs =>
    rw [hs] at h
    rcases List.mem_or_eq_of_mem_set h with h | h
    · exact Or.inl ⟨us, h, hu⟩
    · subst h
      rcases List.mem_or_eq_of_mem_set hu with hu | hu
      · exact Or.inl ⟨vs, List.mem_of_getElem? hs, hu⟩
      · exact Or.inr hu
theorem goes_go {F : Nat} {s : St} (h : Good F 1 s) (hk : s.kind = 0) {f : Fr} {v : V} (hf : Ok (lens s) s.steps (.f f)) (hv : Ok (lens s) s.steps (.v v)) : Goes F s (s.go F f v) := by
  have h0 := h.less (Nat.zero_le 1)
  have hfail : ∀ y, Goes F s (some (s.fail y)) := fun y => ⟨_, rfl, h0.fail y, Or.inr ⟨rfl, Or.inl (by simp [St.fail])⟩, [], (List.append_nil _).symm⟩
  have hgive : ∀ v, Ok (lens s) s.steps (.v v) → Goes F s (some (s.give v)) := fun v hv => ⟨_, rfl, h0.give hv, Or.inr ⟨rfl, Or.inr (Or.inr ⟨rfl, rfl⟩)⟩, [], (List.append_nil _).symm⟩
  have heval : ∀ x env sh, EnvOk (lens s) env sh → WfF sh x → Goes F s (some (s.eval x env)) := fun x env sh h1 h2 => ⟨_, rfl, h0.eval h1 h2, Or.inr ⟨rfl, Or.inr (Or.inl ⟨_, _, rfl⟩)⟩, [], (List.append_nil _).symm⟩
  cases hf with
  | choose a e env sh he ha hx =>
    cases e with
    | none =>
      show Goes F s (if v.isTrue then some (s.eval a env) else some (s.give (.atom .empty)))
      split
      · exact heval _ _ _ he ha
      · exact hgive _ (.atom .empty trivial)
    | some x =>
      show Goes F s (if v.isTrue then some (s.eval a env) else some (s.eval x env))
      split
      · exact heval _ _ _ he ha
      · exact heval _ _ _ he (hx x rfl)
  | body x fs env sh he hn hf => exact goes_body h he hn hf
  | until_ st x fs env sh he hn hf =>
    rw [St.go]
    split
    · exact hgive _ hv
    · exact goes_until h he hn hf
  | each x fs env sh vals hd he hf hvs hh =>
    refine goes_each h hk he hf (fun u hu => ?_) ?_
    · rcases List.mem_append.1 hu with hu | hu
      · exact hvs u hu
      · rw [List.mem_singleton] at hu
        subst hu
        exact hv
    · rw [List.length_append, List.length_singleton]
      exact hh
  | set_ nm l env sh he hl =>
    cases l with
    | none =>
      rw [St.go]
      split
      · refine ⟨_, rfl, ⟨h.st, h.kw, .atom .empty trivial, h0.todo, h.bey, ?_, h.sc, h0.pot⟩, Or.inr ⟨rfl, Or.inr (Or.inr ⟨rfl, rfl⟩)⟩, [], (List.append_nil _).symm⟩
        intro p hp
        rcases put_mem hp with hp | rfl
        · exact h.g p hp
        · exact hv
      · exact hfail 1
    | some p =>
      obtain ⟨up, slot⟩ := p
      obtain ⟨id, vs, u, h1, h2, h3, h4, h5⟩ := look_ok h he hl
      rw [St.go, h4, h1]
      have hL : lens ({ s with sc := setSc s.sc id slot v }.give (.atom .empty)) = lens s := setSc_lens
      refine ⟨_, rfl, ⟨h.st, h.kw, .atom .empty trivial, ⟨h0.todo.1, by rw [hL]; exact h0.todo.2⟩, by rw [hL]; exact h.bey, by rw [hL]; exact h.g, ?_, h0.pot⟩, Or.inr ⟨rfl, Or.inr (Or.inr ⟨rfl, rfl⟩)⟩, [], (List.append_nil _).symm⟩
      rw [hL]
      intro us hus w hw
      rcases setSc_mem hus hw with ⟨ws, h6, h7⟩ | rfl
      · exact h.sc ws h6 w h7
      · exact hv
  | define nm hn =>
    refine ⟨_, rfl, ⟨h.st, h.kw, .atom (.sym nm) hn, h0.todo, h.bey, ?_, h.sc, h0.pot⟩, Or.inr ⟨rfl, Or.inr (Or.inr ⟨rfl, rfl⟩)⟩, [], (List.append_nil _).symm⟩
    intro p hp
    rcases def_mem hp with hp | rfl
    · exact h.g p hp
    · exact hv
def rest (s : St) : Nat := if s.kind ≠ 0 then 0 else match s.ctl with
  | .ev _ _ => 1
  | .val _ => 2 + total s + s.beyond.length
structure Goon (F : Nat) (s s' : St) : Prop where
  good : Good F 0 s'
  down : s.steps < s'.steps ∨ (s'.steps = s.steps ∧ rest s' < rest s)
  more : ∃ l, s'.shown = s.shown ++ l
theorem goes_round {F : Nat} {s : St} (h : Good F 0 s) (hk : s.kind = 0) (he : ¬ s.ended) : ∃ s', s.round F = some s' ∧ Goon F s s' := by
  unfold St.round
  rw [if_neg (by omega)]
  have hc := h.ctl
  cases hct : s.ctl with
  | ev f env =>
    rw [hct] at hc
    obtain ⟨sh, h1, h2⟩ := hc
    have hr : rest s = 1 := by unfold rest; rw [if_neg (by omega), hct]
    show ∃ s', (match s.step? F with | (s, true) => s.start F f env | (s, false) => some s) = some s' ∧ Goon F s s'
    unfold St.step?
    by_cases hs : s.steps = F
    · rw [if_pos hs]
      refine ⟨_, rfl, h.dry hk hs, Or.inr ⟨rfl, ?_⟩, [], (List.append_nil _).symm⟩
      rw [hr]
      unfold rest
      rw [if_pos (by simp)]
      omega
    · rw [if_neg hs]
      have hg := h.stepped hk hs
      obtain ⟨s', hx, hn⟩ := goes_start hg hk (f := f) (env := env) (sh := sh) h1 h2
      refine ⟨s', hx, hn.good, Or.inl ?_, hn.more⟩
      rcases hn.down with hd | ⟨hd, _⟩
      · exact Nat.lt_trans (Nat.lt_succ_self s.steps) hd
      · rw [hd]
        exact Nat.lt_succ_self s.steps
  | val v =>
    rw [hct] at hc
    have hr : rest s = 2 + total s + s.beyond.length := by unfold rest; rw [if_neg (by omega), hct]
    cases htd : s.todo with
    | cons f todo =>
      have hg : Good F 1 { s with todo := todo } := by
        have h1 := h.todo
        have h2 := h.pot
        unfold total at h2
        rw [htd] at h1 h2
        refine ⟨h.st, h.kw, h.ctl, ⟨?_, fun x hx => h1.2 x (List.mem_cons_of_mem _ hx)⟩, h.bey, h.g, h.sc, ?_⟩
        · have := h1.1
          rw [List.length_cons] at this
          show todo.length + 1 ≤ s.steps
          omega
        · rw [List.length_cons] at h2
          show s.shown.length + (todo.length + (s.beyond.map List.length).sum) + 1 ≤ s.steps * s.steps
          omega
      have hf : Ok (lens s) s.steps (.f f) := h.todo.2 f (by rw [htd]; exact List.mem_cons_self)
      obtain ⟨s', hx, hn⟩ := goes_go hg hk (f := f) (v := v) hf hc
      refine ⟨s', by rw [hct] at hx; exact hx, hn.good, ?_, hn.more⟩
      rcases hn.down with hd | ⟨hd, hd'⟩
      · exact Or.inl hd
      · refine Or.inr ⟨hd, ?_⟩
        rw [hr]
        unfold rest total
        rw [htd]
        split
        · omega
        · rename_i hk'
          split
          · omega
          · rename_i u hu
            rcases hd' with hd' | ⟨f', e', hd'⟩ | ⟨h1, h2⟩
            · exact absurd hd' hk'
            · rw [hd'] at hu; cases hu
            · rw [h1, h2]
              show 2 + (todo.length + (s.beyond.map List.length).sum) + s.beyond.length < _
              rw [List.length_cons]
              omega
    | nil =>
      cases hb : s.beyond with
      | nil => exact absurd (Or.inr ⟨⟨v, hct⟩, htd, hb⟩) he
      | cons t b =>
        have h1 := h.bey
        have h2 := h.pot
        unfold total at h2
        rw [hb] at h1 h2
        rw [htd, List.map_cons, List.sum_cons, List.length_nil] at h2
        refine ⟨_, rfl, ⟨h.st, h.kw, by rw [← hct]; exact h.ctl, h1 t List.mem_cons_self, fun x hx => h1 x (List.mem_cons_of_mem _ hx), h.g, h.sc, ?_⟩, Or.inr ⟨rfl, ?_⟩, [], (List.append_nil _).symm⟩
        · show s.shown.length + (t.length + (b.map List.length).sum) + 0 ≤ s.steps * s.steps
          omega
        · rw [hr]
          have : rest { s with todo := t, beyond := b } = 2 + (t.length + (b.map List.length).sum) + b.length := by
            unfold rest
            rw [if_neg (by show ¬ s.kind ≠ 0; omega)]
            show (match s.ctl with | .ev _ _ => 1 | .val _ => _) = _
            rw [hct]
            rfl
          have h3 : rest { ctl := .val v, todo := t, beyond := b, steps := s.steps, kind := s.kind, why := s.why, G := s.G, sc := s.sc, shown := s.shown } = 2 + (t.length + (b.map List.length).sum) + b.length := by
            rw [← hct]
            exact this
          first | rw [this] | rw [h3]
          unfold total
          rw [htd, hb, List.map_cons, List.sum_cons, List.length_cons, List.length_nil]
          omega
theorem round_some {F : Nat} {s s' : St} (h : s.round F = some s') : s.kind = 0 ∧ ¬ s.ended := by
  unfold St.round at h
  split at h
  · cases h
  · rename_i hk
    refine ⟨by omega, ?_⟩
    rintro (h1 | ⟨⟨v, h1⟩, h2, h3⟩)
    · exact hk h1
    · rw [h1, h2, h3] at h
      cases h
theorem Good.on {F : Nat} {s s' : St} (h : Good F 0 s) (hr : s.round F = some s') : Goon F s s' := by
  obtain ⟨hk, he⟩ := round_some hr
  obtain ⟨t, ht, hg⟩ := goes_round h hk he
  rw [hr] at ht
  cases ht
  exact hg
/-- Each run ends. -/
theorem ends (F : Nat) : ∀ (a b : Nat) (s : St), F - s.steps ≤ a → rest s ≤ b → Good F 0 s → ∃ n t, Runs F n s t ∧ t.ended ∧ Good F 0 t ∧ (∃ l, t.shown = s.shown ++ l) ∧ s.steps ≤ t.steps := by
  intro a
  induction a with
  | zero =>
    intro b
    induction b with
    | zero =>
      intro s h1 h2 hg
      by_cases he : s.ended
      · exact ⟨0, s, .nil s, he, hg, ⟨[], (List.append_nil _).symm⟩, Nat.le_refl _⟩
      · have hk : s.kind = 0 := by
          by_cases hk : s.kind = 0
          · exact hk
          · exact absurd (Or.inl hk) he
        obtain ⟨s', hr, hn⟩ := goes_round hg hk he
        rcases hn.down with hd | ⟨hd, hd'⟩
        · have := hn.good.st
          omega
        · omega
    | succ b ih =>
      intro s h1 h2 hg
      by_cases he : s.ended
      · exact ⟨0, s, .nil s, he, hg, ⟨[], (List.append_nil _).symm⟩, Nat.le_refl _⟩
      · have hk : s.kind = 0 := by
          by_cases hk : s.kind = 0
          · exact hk
          · exact absurd (Or.inl hk) he
        obtain ⟨s', hr, hn⟩ := goes_round hg hk he
        have hst := hn.good.st
        rcases hn.down with hd | ⟨hd, hd'⟩
        · omega
        · obtain ⟨n, t, h3, h4, h5, ⟨l, h6⟩, h7⟩ := ih s' (by omega) (by omega) hn.good
          obtain ⟨l', h8⟩ := hn.more
          exact ⟨n + 1, t, .cons hr h3, h4, h5, ⟨l' ++ l, by rw [h6, h8, List.append_assoc]⟩, by omega⟩
  | succ a iha =>
    intro b
    induction b with
    | zero =>
      intro s h1 h2 hg
      by_cases he : s.ended
      · exact ⟨0, s, .nil s, he, hg, ⟨[], (List.append_nil _).symm⟩, Nat.le_refl _⟩
      · have hk : s.kind = 0 := by
          by_cases hk : s.kind = 0
          · exact hk
          · exact absurd (Or.inl hk) he
        obtain ⟨s', hr, hn⟩ := goes_round hg hk he
        have hst := hn.good.st
        rcases hn.down with hd | ⟨hd, hd'⟩
        · obtain ⟨n, t, h3, h4, h5, ⟨l, h6⟩, h7⟩ := iha (rest s') s' (by omega) (Nat.le_refl _) hn.good
          obtain ⟨l', h8⟩ := hn.more
          exact ⟨n + 1, t, .cons hr h3, h4, h5, ⟨l' ++ l, by rw [h6, h8, List.append_assoc]⟩, by omega⟩
        · omega
    | succ b ih =>
      intro s h1 h2 hg
      by_cases he : s.ended
      · exact ⟨0, s, .nil s, he, hg, ⟨[], (List.append_nil _).symm⟩, Nat.le_refl _⟩
      · have hk : s.kind = 0 := by
          by_cases hk : s.kind = 0
          · exact hk
          · exact absurd (Or.inl hk) he
        obtain ⟨s', hr, hn⟩ := goes_round hg hk he
        have hst := hn.good.st
        obtain ⟨l', h8⟩ := hn.more
        rcases hn.down with hd | ⟨hd, hd'⟩
        · obtain ⟨n, t, h3, h4, h5, ⟨l, h6⟩, h7⟩ := iha (rest s') s' (by omega) (Nat.le_refl _) hn.good
          exact ⟨n + 1, t, .cons hr h3, h4, h5, ⟨l' ++ l, by rw [h6, h8, List.append_assoc]⟩, by omega⟩
        · obtain ⟨n, t, h3, h4, h5, ⟨l, h6⟩, h7⟩ := ih s' (by omega) (by omega) hn.good
          exact ⟨n + 1, t, .cons hr h3, h4, h5, ⟨l' ++ l, by rw [h6, h8, List.append_assoc]⟩, by omega⟩
end Kc
end Go.Proofs.YtodeeegbajgafaaGreatDoor

namespace Go.Proofs.YtodeeegbajgafaaGreatDoor
namespace Kc
open Rd
/-- There was no fuel for a step. -/
structure Dry (F : Nat) (s s' : St) : Prop where
  kind : s'.kind = 3
  at_ : s.steps = F
  steps : s'.steps = F
  shown : s'.shown = s.shown
theorem call_fuel {F F' : Nat} {s s' : St} (hs : s.steps ≤ F) (hF : F ≤ F') : ∀ {vs : List V}, s.call F vs = some s' → s.call F' vs = some s' ∨ Dry F s s'
  | [], h => by cases h
  | .atom _ :: _, h => Or.inl h
  | .pair _ _ :: _, h => Or.inl h
  | .basic _ :: _, h => Or.inl h
  | .clo .. :: _, h => Or.inl h
  | .cont todo :: [], h => Or.inl h
  | .cont todo :: _ :: _ :: _, h => Or.inl h
  | .cont todo :: [v], h => by
    have e : ∀ G, s.call G [.cont todo, v] = (match s.step? G with
      | (s, true) => some ({ s with beyond := s.todo :: s.beyond, todo := todo }.give v)
      | (s, false) => some s) := fun _ => rfl
    rw [e] at h ⊢
    unfold St.step? at h ⊢
    by_cases h1 : s.steps = F
    · rw [if_pos h1] at h
      cases h
      exact Or.inr ⟨rfl, h1, h1, rfl⟩
    · rw [if_neg h1] at h
      rw [if_neg (by omega)]
      exact Or.inl h
theorem each_fuel {F F' : Nat} {s s' : St} (hs : s.steps ≤ F) (hF : F ≤ F') {fs : List Rd.F} {env : Env} {vals : List V} {hd : Hd} (h : s.each F fs env vals hd = some s') : s.each F' fs env vals hd = some s' ∨ Dry F s s' := by
  cases fs with
  | cons f fs => exact Or.inl h
  | nil => cases hd with
    | call => exact call_fuel hs hF h
    | lett body env => exact Or.inl h
theorem start_fuel {F F' : Nat} {s : St} {f : Rd.F} {env : Env} : s.start F f env = s.start F' f env := by
  cases f with
  | let_ vs body => cases vs <;> rfl
  | call parts => cases parts <;> rfl
  | name n l => cases l <;> rfl
  | _ => rfl
theorem go_fuel {F F' : Nat} {s s' : St} (hs : s.steps ≤ F) (hF : F ≤ F') {f : Fr} {v : V} (h : s.go F f v = some s') : s.go F' f v = some s' ∨ Dry F s s' := by
  cases f with
  | each fs env vals hd => cases fs with
    | nil => cases h
    | cons f fs => exact each_fuel hs hF h
  | choose a e env => cases e <;> exact Or.inl h
  | body fs env => cases fs <;> exact Or.inl h
  | until_ st fs env => cases fs <;> exact Or.inl h
  | set_ n l env => rcases l with _ | ⟨up, slot⟩ <;> exact Or.inl h
  | define n => exact Or.inl h
theorem round_fuel {F F' : Nat} {s s' : St} (hs : s.steps ≤ F) (hF : F ≤ F') (h : s.round F = some s') : s.round F' = some s' ∨ Dry F s s' := by
  unfold St.round at h ⊢
  split at h
  · cases h
  · rename_i hk
    rw [if_neg hk]
    cases hc : s.ctl with
    | ev f env =>
      rw [hc] at h
      unfold St.step? at h ⊢
      by_cases h1 : s.steps = F
      · rw [if_pos h1] at h
        cases h
        exact Or.inr ⟨rfl, h1, h1, rfl⟩
      · rw [if_neg h1] at h
        rw [if_neg (show s.steps ≠ F' by omega)]
        refine Or.inl ?_
        rw [← h]
        exact start_fuel
    | val v =>
      rw [hc] at h
      cases ht : s.todo with
      | nil => rw [ht] at h; exact Or.inl h
      | cons f todo =>
        rw [ht] at h
        have h2 : ({ s with todo := todo } : St).go F f v = some s' := by rw [hc]; exact h
        rcases go_fuel (s := { s with todo := todo }) hs hF h2 with h3 | h3
        · rw [hc] at h3; exact Or.inl h3
        · exact Or.inr ⟨h3.kind, h3.at_, h3.steps, h3.shown⟩
theorem Runs.fuel {F F' : Nat} (hF : F ≤ F') {n : Nat} {s t : St} (h : Runs F n s t) (hg : Good F 0 s) : Runs F' n s t ∨ (t.kind = 3 ∧ t.steps = F ∧ ∃ m u, Runs F' m s u ∧ u.steps = F ∧ u.shown = t.shown ∧ Good F 0 u ∧ u.kind = 0) := by
  induction h with
  | nil s => exact Or.inl (.nil s)
  | @cons n s s' t hr hn ih =>
    have hg' := hg.on hr
    rcases round_fuel hg.st hF hr with h1 | h1
    · rcases ih hg'.good with h2 | ⟨h2, h3, m, u, h4, h5⟩
      · exact Or.inl (.cons h1 h2)
      · exact Or.inr ⟨h2, h3, m + 1, u, .cons h1 h4, h5⟩
    · have ht : t = s' := by
        cases hn with
        | nil => rfl
        | cons hr' _ => exact absurd (round_some hr').1 (by rw [h1.kind]; omega)
      subst ht
      exact Or.inr ⟨h1.kind, h1.steps, 0, s, .nil s, h1.at_, h1.shown.symm, hg, (round_some hr).1⟩
theorem Runs.app {F n m : Nat} {s t u : St} (h : Runs F n s t) (k : Runs F m t u) : ∃ j, Runs F j s u := by
  induction h with
  | nil s => exact ⟨_, k⟩
  | cons hr _ ih => obtain ⟨j, hj⟩ := ih k; exact ⟨j + 1, .cons hr hj⟩
theorem Good.fuel {F F' : Nat} {s : St} (h : Good F 0 s) (hk : s.kind = 0) (hF : F ≤ F') : Good F' 0 s := by
  refine ⟨Nat.le_trans h.st hF, Or.inl ⟨hk, ?_⟩, h.ctl, h.todo, h.bey, h.g, h.sc, h.pot⟩
  rcases h.kw with h | h | h <;> omega
/-- Forms in turn, each with what the one before left. -/
inductive Ends (F : Nat) : St → List Rd.F → St → Prop
  | nil (s : St) : Ends F s [] s
  | stop {n : Nat} {s t : St} {f : Rd.F} {fs : List Rd.F} (h : Runs F n (s.eval f []) t) (he : t.ended) (hk : t.kind ≠ 0) : Ends F s (f :: fs) t
  | next {n : Nat} {s t u : St} {f : Rd.F} {fs : List Rd.F} (h : Runs F n (s.eval f []) t) (he : t.ended) (hk : t.kind = 0) (k : Ends F t fs u) : Ends F s (f :: fs) u
/-- A run between two forms. -/
structure Rests (F : Nat) (s : St) : Prop where
  good : Good F 0 s
  kind : s.kind = 0
  todo : s.todo = []
  bey : s.beyond = []
theorem rests_of {F : Nat} {t : St} (hg : Good F 0 t) (he : t.ended) (hk : t.kind = 0) : Rests F t := by
  rcases he with he | ⟨_, h1, h2⟩
  · exact absurd hk he
  · exact ⟨hg, hk, h1, h2⟩
theorem all_end (F : Nat) : ∀ (fs : List Rd.F) (s : St), Rests F s → (∀ f, f ∈ fs → WfF [] f) → ∃ t, Ends F s fs t ∧ Good F 0 t ∧ (∃ l, t.shown = s.shown ++ l) ∧ s.steps ≤ t.steps
  | [], s, hs, _ => ⟨s, .nil s, hs.good, ⟨[], (List.append_nil _).symm⟩, Nat.le_refl _⟩
  | f :: fs, s, hs, hf => by
    obtain ⟨n, t, h1, h2, h3, ⟨l, h4⟩, h5⟩ := ends F _ _ (s.eval f []) (Nat.le_refl _) (Nat.le_refl _) (hs.good.eval .nil (hf f List.mem_cons_self))
    by_cases hk : t.kind = 0
    · obtain ⟨u, k1, k2, ⟨l', k3⟩, k4⟩ := all_end F fs t (rests_of h3 h2 hk) fun x hx => hf x (List.mem_cons_of_mem _ hx)
      exact ⟨u, .next h1 h2 hk k1, k2, ⟨l ++ l', by rw [k3, h4, List.append_assoc]; rfl⟩, Nat.le_trans h5 k4⟩
    · exact ⟨t, .stop h1 h2 hk, h3, ⟨l, h4⟩, h5⟩
/-- With more fuel the same comes out, or more does where there was too little. -/
theorem Ends.fuel {F F' : Nat} (hF : F ≤ F') {s t : St} {fs : List Rd.F} (h : Ends F s fs t) (hs : Rests F s) (hf : ∀ f, f ∈ fs → WfF [] f) :
    Ends F' s fs t ∨ (t.kind = 3 ∧ t.steps = F ∧ ∃ u, Ends F' s fs u ∧ t.steps ≤ u.steps ∧ ∃ l, u.shown = t.shown ++ l) := by
  induction h with
  | nil s => exact Or.inl (.nil s)
  | @stop n s t f fs h he hk =>
    rcases h.fuel hF (hs.good.eval .nil (hf f List.mem_cons_self)) with h1 | ⟨h1, h2, m, u, h3, h4, h5, h6, h7⟩
    · exact Or.inl (.stop h1 he hk)
    · obtain ⟨k, v, k1, k2, k3, ⟨l, k4⟩, k5⟩ := ends F' _ _ u (Nat.le_refl _) (Nat.le_refl _) (h6.fuel h7 hF)
      obtain ⟨j, hj⟩ := h3.app k1
      refine Or.inr ⟨h1, h2, ?_⟩
      by_cases hv : v.kind = 0
      · obtain ⟨x, x1, x2, ⟨l', x3⟩, x4⟩ := all_end F' fs v (rests_of k3 k2 hv) fun x hx => hf x (List.mem_cons_of_mem _ hx)
        exact ⟨x, .next hj k2 hv x1, by omega, l ++ l', by rw [x3, k4, h5, List.append_assoc]⟩
      · exact ⟨v, .stop hj k2 hv, by omega, l, by rw [k4, h5]⟩
  | @next n s t u f fs h he hk k ih =>
    have hg0 := hs.good.eval (f := f) .nil (hf f List.mem_cons_self)
    rcases h.fuel hF hg0 with h1 | ⟨h1, _⟩
    · have hgt : Good F 0 t := by
        clear ih hk he k h1
        have : ∀ {n : Nat} {s t : St}, Runs F n s t → Good F 0 s → Good F 0 t := fun h => by
          induction h with
          | nil s => exact id
          | cons hr _ ih => exact fun hg => ih (hg.on hr).good
        exact this h hg0
      rcases ih (rests_of hgt he hk) (fun x hx => hf x (List.mem_cons_of_mem _ hx)) with h2 | ⟨h2, h3, v, h4, h5⟩
      · exact Or.inl (.next h1 he hk h2)
      · exact Or.inr ⟨h2, h3, v, .next h1 he hk h4, h5⟩
    · omega
theorem Good.short {F : Nat} {s : St} (h : Good F 0 s) (hF : F ≤ 900) : s.shown.length < 1000000 := by
  have h1 := h.pot
  have h2 := h.st
  have h3 : s.steps * s.steps ≤ 900 * 900 := Nat.mul_le_mul (by omega) (by omega)
  omega
end Kc
end Go.Proofs.YtodeeegbajgafaaGreatDoor

namespace Go.Proofs.YtodeeegbajgafaaGreatDoor
namespace Rd
open Mc
def pickN (c : Int) (n : Nat) : Nat := ((if c < 0 then -(c + 1) else c) % (n : Int)).toNat
theorem pickN_lt (c : Int) (n : Nat) (h : 0 < n) : pickN c n < n := by
  unfold pickN
  split
  · have h1 := Int.emod_nonneg (-(c + 1)) (b := (n : Int)) (by omega)
    have h2 := Int.emod_lt_of_pos (-(c + 1)) (b := (n : Int)) (by omega)
    omega
  · have h1 := Int.emod_nonneg c (b := (n : Int)) (by omega)
    have h2 := Int.emod_lt_of_pos c (b := (n : Int)) (by omega)
    omega
end Rd
end Go.Proofs.YtodeeegbajgafaaGreatDoor

namespace Go.Proofs.YtodeeegbajgafaaGreatDoor
namespace Kc
open Rd
theorem nameIx_ok (n : Sym) : ∀ (ns : List Sym) (i k : Nat), nameIx n ns i = some k → i ≤ k ∧ k - i < ns.length
  | [], i, k, h => by rw [nameIx] at h; cases h
  | m :: ns, i, k, h => by
    rw [nameIx] at h
    split at h
    · cases h
      rw [List.length_cons]
      omega
    · have := nameIx_ok n ns (i + 1) k h
      rw [List.length_cons]
      omega
theorem findName_ok (n : Sym) : ∀ (env : List (List Sym)) (up u s : Nat), findName n env up = some (u, s) → up ≤ u ∧ u - up < env.length ∧ ∃ ns, env[u - up]? = some ns ∧ s < ns.length
  | [], up, u, s, h => by rw [findName] at h; cases h
  | ns :: env, up, u, s, h => by
    rw [findName] at h
    split at h
    · rename_i k hk
      cases h
      have := nameIx_ok n ns 0 s hk
      refine ⟨Nat.le_refl _, ?_, ns, ?_, by omega⟩
      · rw [List.length_cons]; omega
      · rw [Nat.sub_self]; rfl
    · obtain ⟨h1, h2, ms, h3, h4⟩ := findName_ok n env (up + 1) u s h
      refine ⟨by omega, by rw [List.length_cons]; omega, ms, ?_, h4⟩
      rw [show u - up = (u - (up + 1)) + 1 by omega, List.getElem?_cons_succ]
      exact h3
theorem locOk_find (n : Sym) (env : List (List Sym)) (he : env.length ≤ 100000) : LocOk (env.map List.length) (findName n env 0) := by
  cases h : findName n env 0 with
  | none => trivial
  | some p =>
    obtain ⟨u, s⟩ := p
    obtain ⟨_, h2, ns, h3, h4⟩ := findName_ok n env 0 u s h
    rw [Nat.sub_zero] at h2 h3
    exact ⟨by omega, ns.length, by rw [List.getElem?_map, h3]; rfl, h4⟩
theorem valL_mem : ∀ {ds : List D} {d : D}, d ∈ ds → valD d ∈ valL ds
  | [], d, h => by cases h
  | e :: ds, d, h => by
    rw [valL]
    rcases List.mem_cons.1 h with rfl | h
    · exact List.mem_cons_self
    · exact List.mem_cons_of_mem _ (valL_mem h)
theorem fine_parts {p : Nat} {ds : List D} {en : A} (h : fine (valD (.mk p ds en))) : fineA en ∧ ∀ d, d ∈ ds → fine (valD d) := by
  rw [valD] at h
  obtain ⟨h1, h2⟩ := fine_listE h
  exact ⟨h1, fun d hd => h2 _ (valL_mem hd)⟩
theorem fine_parts' {x : D} (h : fine (valD x)) : ∀ d, d ∈ x.parts → fine (valD d) := by
  cases x
  exact (fine_parts h).2
theorem fine_name {x : D} {n : Sym} (h : fine (valD x)) (hn : x.name = some n) : n.length ≤ 500 := by
  obtain ⟨p, ds, en⟩ := x
  unfold D.name at hn
  cases hs : (D.mk p ds en).sym with
  | none => rw [hs] at hn; cases hn
  | some m =>
    rw [hs] at hn
    simp only at hn
    split at hn
    · cases hn
    · cases hn
      unfold D.sym at hs
      split at hs
      · rename_i e
        cases e
        cases hs
        exact (fine_parts h).1
      · cases hs
theorem namesK_length : ∀ (ds : List D) (acc ns : List Sym), namesK ds acc = some ns → ns.length = acc.length + ds.length
  | [], acc, ns, h => by rw [namesK] at h; cases h; simp
  | d :: ds, acc, ns, h => by
    rw [namesK] at h
    split at h
    · split at h
      · cases h
      · have := namesK_length ds _ ns h
        rw [List.length_append, List.length_singleton] at this
        rw [List.length_cons]
        omega
    · cases h
theorem bindsK_fine : ∀ (ds xs ys : List D), bindsK ds = some (xs, ys) → (∀ d, d ∈ ds → fine (valD d)) → xs.length = ys.length ∧ ∀ y, y ∈ ys → fine (valD y)
  | [], xs, ys, h, _ => by rw [bindsK] at h; cases h; exact ⟨rfl, fun y h => by cases h⟩
  | d :: ds, xs, ys, h, hf => by
    rw [bindsK] at h
    split at h
    · rename_i a b hp
      split at h
      · cases hb : bindsK ds with
        | none => rw [hb] at h; cases h
        | some q =>
          obtain ⟨xs', ys'⟩ := q
          rw [hb] at h
          cases h
          obtain ⟨h1, h2⟩ := bindsK_fine ds xs' ys' hb fun e he => hf e (List.mem_cons_of_mem _ he)
          refine ⟨by simp [h1], fun y hy => ?_⟩
          rcases List.mem_cons.1 hy with rfl | hy
          · exact fine_parts' (hf d List.mem_cons_self) _ (by rw [hp]; simp)
          · exact h2 y hy
      · cases h
    · cases h
theorem map_ok {α β : Type} {g : α → β} {r : PR α} {x : β} (h : r.map g = .ok x) : ∃ a, r = .ok a ∧ g a = x := by
  cases r with
  | ok a => cases h; exact ⟨a, rfl, rfl⟩
  | no p => cases h
  | bad p => cases h
theorem kForms_ne {f : Nat} {env : List (List Sym)} {d : D} {ds : List D} {xs : List F} (h : kForms f env (d :: ds) = .ok xs) : xs ≠ [] := by
  have := kForms_length f env _ xs h
  rintro rfl
  simp at this
def PF (f : Nat) : Prop := ∀ (env : List (List Sym)) (d : D) (x : F), env.length + f ≤ 100000 → fine (valD d) → kForm f env d = .ok x → WfF (env.map List.length) x
def PL (f : Nat) : Prop := ∀ (env : List (List Sym)) (ds : List D) (xs : List F), env.length + f ≤ 100000 → (∀ d, d ∈ ds → fine (valD d)) → kForms f env ds = .ok xs → ∀ x, x ∈ xs → WfF (env.map List.length) x
set_option maxHeartbeats 1000000 in
theorem wf_step (f : Nat) (ih : PL f) (ihf : PF f) : PF (f + 1) := by
  intro env d x hl hd h
  obtain ⟨p, ds, en⟩ := d
  obtain ⟨hen, hds⟩ := fine_parts hd
  cases ds with
  | nil =>
    cases en with
    | num n => rw [kForm] at h; cases h; exact .const hen
    | truth b => rw [kForm] at h; cases h; exact .const hen
    | sym n =>
      rw [kForm] at h
      split at h
      · cases h
      · cases h
        exact .name (locOk_find n env (by omega))
    | empty => rw [kForm] at h; cases h
  | cons d0 rest =>
    have hrest : ∀ d, d ∈ rest → fine (valD d) := fun d hd => hds d (List.mem_cons_of_mem _ hd)
    have hcall : ∀ x, (kForms f env (d0 :: rest)).map F.call = .ok x → WfF (env.map List.length) x := fun x h => by
      obtain ⟨xs, h1, rfl⟩ := map_ok h
      exact .call (kForms_ne h1) (ih env _ xs (by omega) hds h1)
    by_cases hem : en = .empty
    case neg => rw [kForm_dot _ _ _ _ _ _ hem] at h; cases h
    case pos =>
      subst hem
      rw [kForm_kw] at h
      split at h
      · rename_i kw hkw
        by_cases kQuote : kw = kwQuote
        · rw [if_pos kQuote] at h
          split at h
          · cases h; exact .quoted (hrest _ (by simp))
          · cases h
        rw [if_neg kQuote] at h
        by_cases kIf : kw = kwIf
        · rw [if_pos kIf] at h
          split at h
          · split at h
            · rename_i t a hk
              cases h
              have := ih env _ _ (by omega) hrest hk
              exact .ift (this _ (by simp)) (this _ (by simp))
            · cases h
            · cases h
            · cases h
          · split at h
            · rename_i t a e hk
              cases h
              have := ih env _ _ (by omega) hrest hk
              exact .ite (this _ (by simp)) (this _ (by simp)) (this _ (by simp))
            · cases h
            · cases h
            · cases h
          · cases h
        rw [if_neg kIf] at h
        by_cases kLambda : kw = kwLambda
        · rw [if_pos kLambda] at h
          split at h
          · split at h
            · split at h
              · rename_i ps b bs _ ns hns
                obtain ⟨xs, h1, rfl⟩ := map_ok h
                exact .lam (kForms_ne h1) (ih (ns :: env) _ xs (by rw [List.length_cons]; omega) (fun d hd => hrest d (List.mem_cons_of_mem _ hd)) h1)
              · cases h
            · cases h
          · cases h
        rw [if_neg kLambda] at h
        by_cases kBegin : kw = kwBegin
        · rw [if_pos kBegin] at h
          split at h
          · obtain ⟨xs, h1, rfl⟩ := map_ok h
            exact .begin_ (kForms_ne h1) (ih env _ xs (by omega) hrest h1)
          · cases h
        rw [if_neg kBegin] at h
        by_cases kLet : kw = kwLet
        · rw [if_pos kLet] at h
          split at h
          · split at h
            · split at h
              · split at h
                · split at h
                  · rename_i bs b bd _ _ xs ys hb _ ns hns _ vs hvs
                    obtain ⟨zs, h1, rfl⟩ := map_ok h
                    obtain ⟨hxy, hys⟩ := bindsK_fine _ xs ys hb (fine_parts' (hrest bs (by simp)))
                    have e1 : vs.length = ns.length := by
                      have := kForms_length f env ys vs hvs
                      have := namesK_length xs [] ns hns
                      simp at this
                      omega
                    refine .let_ (kForms_ne h1) (ih env ys vs (by omega) hys hvs) ?_
                    rw [e1]
                    exact ih (ns :: env) _ zs (by rw [List.length_cons]; omega) (fun d hd => hrest d (List.mem_cons_of_mem _ hd)) h1
                  · cases h
                  · cases h
                · cases h
              · cases h
            · cases h
          · cases h
        rw [if_neg kLet] at h
        by_cases kSet : kw = kwSet
        · rw [if_pos kSet] at h
          split at h
          · split at h
            · rename_i nm v _ n hn
              obtain ⟨y, h1, rfl⟩ := map_ok h
              exact .set_ (locOk_find n env (by omega)) (ihf env v y (by omega) (hrest v (by simp)) h1)
            · cases h
          · cases h
        rw [if_neg kSet] at h
        by_cases kAnd : kw = kwAnd
        · rw [if_pos kAnd] at h
          split at h
          · cases h; exact .const trivial
          · obtain ⟨xs, h1, rfl⟩ := map_ok h
            exact .until_ (kForms_ne h1) (ih env _ xs (by omega) hrest h1)
        rw [if_neg kAnd] at h
        by_cases kOr : kw = kwOr
        · rw [if_pos kOr] at h
          split at h
          · cases h; exact .const trivial
          · obtain ⟨xs, h1, rfl⟩ := map_ok h
            exact .until_ (kForms_ne h1) (ih env _ xs (by omega) hrest h1)
        rw [if_neg kOr] at h
        by_cases kReset : kw = kwReset
        · rw [if_pos kReset] at h
          split at h
          · obtain ⟨xs, h1, rfl⟩ := map_ok h
            exact .reset (kForms_ne h1) (ih env _ xs (by omega) hrest h1)
          · cases h
        rw [if_neg kReset] at h
        by_cases kShift : kw = kwShift
        · rw [if_pos kShift] at h
          split at h
          · split at h
            · rename_i nm b bs n hn
              obtain ⟨xs, h1, rfl⟩ := map_ok h
              exact .shift (kForms_ne h1) (ih ([n] :: env) _ xs (by rw [List.length_cons]; omega) (fun d hd => hrest d (List.mem_cons_of_mem _ hd)) h1)
            · cases h
          · cases h
        rw [if_neg kShift] at h
        by_cases kDefine : kw = kwDefine
        · rw [if_pos kDefine] at h
          cases h
        · rw [if_neg kDefine] at h
          exact hcall x h
      · exact hcall x h
theorem wf_forms (f : Nat) : PF f ∧ PL f := by
  induction f with
  | zero =>
    refine ⟨fun env d x _ _ h => (by rw [kForm] at h; cases h), fun env ds xs _ _ h => ?_⟩
    cases ds with
    | nil => rw [kForms] at h; cases h; intro x hx; cases hx
    | cons d ds => rw [kForms] at h; cases h
  | succ f ih =>
    have hF := wf_step f ih.2 ih.1
    refine ⟨hF, fun env ds xs hl hd h => ?_⟩
    cases ds with
    | nil => rw [kForms] at h; cases h; intro x hx; cases hx
    | cons d ds =>
      rw [kForms] at h
      split at h
      · rename_i x hx
        split at h
        · rename_i ys hys
          cases h
          intro z hz
          rcases List.mem_cons.1 hz with rfl | hz
          · exact ih.1 env d _ (by omega) (hd d List.mem_cons_self) hx
          · exact ih.2 env ds ys (by omega) (fun e he => hd e (List.mem_cons_of_mem _ he)) hys z hz
        · cases h
        · cases h
      · cases h
      · cases h
theorem wf_top (f : Nat) (hf : f + 1 ≤ 100000) (d : D) (x : F) (hd : fine (valD d)) (h : kTop f d = .ok x) : WfF [] x := by
  unfold kTop at h
  split at h
  · rename_i p d0 rest
    have hr := (fine_parts hd).2
    split at h
    · split at h
      · rename_i hd' b bs
        have hb : ∀ d, d ∈ b :: bs → fine (valD d) := fun d hd => hr d (List.mem_cons_of_mem _ (List.mem_cons_of_mem _ hd))
        have hh := hr hd' (by simp)
        split at h
        · rename_i nm ps hps
          split at h
          · rename_i n hn
            split at h
            · split at h
              · rename_i ns hns
                obtain ⟨xs, h1, rfl⟩ := map_ok h
                exact .define (fine_name (fine_parts' hh nm (by rw [hps]; simp)) hn) (.lam (kForms_ne h1) ((wf_forms f).2 [ns] _ xs (by simp; omega) hb h1))
              · cases h
            · cases h
          · cases h
        · split at h
          · rename_i n hn
            obtain ⟨y, h1, rfl⟩ := map_ok h
            exact .define (fine_name hh hn) ((wf_forms f).1 [] b y (by simp; omega) (hb b (by simp)) h1)
          · cases h
      · cases h
    · exact (wf_forms f).1 [] _ x (by simp; omega) hd h
  · exact (wf_forms f).1 [] _ x (by simp; omega) hd h
/-- The forms of a source are so. -/
theorem wf_tops (f : Nat) (hf : f + 1 ≤ 100000) : ∀ (ds : List D) (xs : List F), (∀ d, d ∈ ds → fine (valD d)) → kTops f ds = .ok xs → ∀ x, x ∈ xs → WfF [] x
  | [], xs, _, h => by rw [kTops] at h; cases h; intro x hx; cases hx
  | d :: ds, xs, hd, h => by
    rw [kTops] at h
    split at h
    · rename_i x hx
      split at h
      · rename_i ys hys
        cases h
        intro z hz
        rcases List.mem_cons.1 hz with rfl | hz
        · exact wf_top f hf d _ (hd d List.mem_cons_self) hx
        · exact wf_tops f hf ds ys (fun e he => hd e (List.mem_cons_of_mem _ he)) hys z hz
      · cases h
      · cases h
    · cases h
    · cases h
end Kc
end Go.Proofs.YtodeeegbajgafaaGreatDoor
