/- Plain functions: values, forms, states and steps of the machine, in which pairs, procedures, continuations and places are numbered. Nothing of the program. -/
import Derived.Test.YtkgbdddkcjpgfaaGreatDoorM02
import Derived.Lib.ItoaNum
import Derived.Test.YtkgbdddkcjpgfaaGreatDoorM04
namespace Go.Proofs.YtkgbdddkcjpgfaaGreatDoor
namespace Pl
abbrev Byt := List UInt8
inductive PV where
  | num (n : Int)
  | truth (b : Bool)
  | name (s : Byt)
  | empty
  | nothing
  | pair (n : Nat)
  | proc (n : Nat)
  | cont (n : Nat)
  | prim (s : Byt)
  deriving DecidableEq
inductive FK where
  | const
  | name
  | iff
  | set
  | define
  | lambda
  | begin
  | call
  deriving DecidableEq
inductive PF where
  | mk (k : FK) (nm : Byt) (d : Tre) (v : PV) (ks : List PF) (ns : List Byt)
namespace PF
def k : PF → FK
  | .mk k _ _ _ _ _ => k
def nm : PF → Byt
  | .mk _ nm _ _ _ _ => nm
def d : PF → Tre
  | .mk _ _ d _ _ _ => d
def v : PF → PV
  | .mk _ _ _ v _ _ => v
def ks : PF → List PF
  | .mk _ _ _ _ ks _ => ks
def ns : PF → List Byt
  | .mk _ _ _ _ _ ns => ns
end PF
abbrev Env := List (Byt × Nat)
structure PFr where
  form : PF
  got : List PV
  pos : Nat
  env : Env
structure PW where
  pairs : List (PV × PV)
  procs : List (PF × Env)
  conts : List (List PFr)
  places : List PV
  globals : Env
  out : Byt
structure PS where
  form : Option PF
  env : Env
  val : PV
  frames : List PFr
structure SR where
  e : Nat
  W : PW
  S : PS
def find : Env → Byt → Option Nat
  | [], _ => none
  | b :: r, s => match find r s with
    | some k => some k
    | none => if b.1 = s then some b.2 else none
theorem find_append (a b : Env) (s : Byt) : find (a ++ b) s = match find b s with
    | some k => some k
    | none => find a s := by
  induction a with
  | nil => simp only [List.nil_append]; cases find b s <;> rfl
  | cons x a ih =>
    simp only [List.cons_append, find, ih]
    cases find b s <;> rfl
def seek (W : PW) (env : Env) (s : Byt) : Option Nat := match find env s with
  | some k => some k
  | none => find W.globals s
def bind (W : PW) (s : Byt) (v : PV) : PW := match find W.globals s with
  | some k => { W with places := W.places.set k v }
  | none => { W with places := W.places ++ [v], globals := W.globals ++ [(s, W.places.length)] }
def PS.give (S : PS) (v : PV) : PS := { S with form := none, val := v }
def PS.work (S : PS) (f : Option PF) (env : Env) : PS := { S with form := f, env := env }
def PS.push (S : PS) (f : PFr) : PS := { S with frames := f :: S.frames }
def numb (l : List Byt) (n : Nat) : Env := match l with
  | [] => []
  | s :: r => (s, n) :: numb r (n + 1)
theorem numb_append (a b : List Byt) (n : Nat) : numb (a ++ b) n = numb a n ++ numb b (n + a.length) := by
  induction a generalizing n with
  | nil => rfl
  | cons x a ih =>
    simp only [List.cons_append, numb, ih, List.length_cons]
    rw [show n + 1 + a.length = n + (a.length + 1) from by omega]
/- The texts of values, whole. -/

def itoa (n : Int) : Byt := Lib.itoa n
def procW : Byt := [35, 112, 114, 111, 99, 101, 100, 117, 114, 101]
def atomT : PV → Byt
  | .num n => itoa n
  | .truth b => if b then [35, 116] else [35, 102]
  | .name s => s
  | .empty => [40, 41]
  | .nothing => []
  | .pair _ => []
  | _ => procW
mutual
def txt (ps : List (PV × PV)) : Nat → PV → Byt
  | 0, _ => []
  | n + 1, .pair i => match ps[i]? with
    | some p => 40 :: (txt ps n p.1 ++ tails ps n p.2)
    | none => []
  | _ + 1, v => atomT v
def tails (ps : List (PV × PV)) : Nat → PV → Byt
  | 0, _ => []
  | n + 1, .pair i => match ps[i]? with
    | some p => 32 :: (txt ps n p.1 ++ tails ps n p.2)
    | none => []
  | _ + 1, .empty => [41]
  | _ + 1, v => [32, 46, 32] ++ atomT v ++ [41]
end
def rank : PV → Nat
  | .pair i => i + 1
  | _ => 0
def text (ps : List (PV × PV)) (v : PV) : Byt := txt ps (rank v + 1) v
def cut (s : Byt) : Byt := if 200 < s.length then s.take 200 ++ [46, 46] else s
/- The primitives. -/
def plusW : Byt := [43]
def minusW : Byt := [45]
def timesW : Byt := [42]
def lessW : Byt := [60]
def eqW : Byt := [61]
def consW : Byt := [99, 111, 110, 115]
def carW : Byt := [99, 97, 114]
def cdrW : Byt := [99, 100, 114]
def nullW : Byt := [110, 117, 108, 108, 63]
def pairW : Byt := [112, 97, 105, 114, 63]
def sameW : Byt := [101, 113, 63]
def displayW : Byt := [100, 105, 115, 112, 108, 97, 121]
def callccW : Byt := [99, 97, 108, 108, 47, 99, 99]
def prims : List Byt := [plusW, minusW, timesW, lessW, eqW, consW, carW, cdrW, nullW, pairW, sameW, displayW, callccW]
def arity (s : Byt) : Nat := if s = carW ∨ s = cdrW ∨ s = nullW ∨ s = pairW ∨ s = displayW ∨ s = callccW then 1 else 2
def reckon (W : PW) (S : PS) (s : Byt) (a b : PV) : SR := match a, b with
  | .num x, .num y =>
    if s = lessW then ⟨0, W, S.give (.truth (decide (x < y)))⟩
    else if s = eqW then ⟨0, W, S.give (.truth (decide (x = y)))⟩
    else
      let n := if s = plusW then x + y else if s = minusW then x - y else x * y
      if n.natAbs ≤ Pl.big then ⟨0, W, S.give (.num n)⟩ else ⟨11, W, S⟩
  | _, _ => ⟨9, W, S⟩
def isPairV : PV → Bool
  | .pair _ => true
  | _ => false
def prim1 (W : PW) (S : PS) (s : Byt) (a : PV) : SR :=
  if s = displayW then
    let t := cut (text W.pairs a)
    if W.out.length + t.length ≤ 1000 then ⟨0, { W with out := W.out ++ t }, S.give .nothing⟩ else ⟨11, W, S⟩
  else if s = carW ∨ s = cdrW then match a with
    | .pair i => match W.pairs[i]? with
      | some p => ⟨0, W, S.give (if s = cdrW then p.2 else p.1)⟩
      | none => ⟨9, W, S⟩
    | _ => ⟨9, W, S⟩
  else if s = nullW then ⟨0, W, S.give (.truth (decide (a = .empty)))⟩
  else ⟨0, W, S.give (.truth (isPairV a))⟩
def prim2 (W : PW) (S : PS) (s : Byt) (a b : PV) : SR :=
  if s = consW then ⟨0, { W with pairs := W.pairs ++ [(a, b)] }, S.give (.pair W.pairs.length)⟩
  else if s = sameW then ⟨0, W, S.give (.truth (decide (a = b)))⟩
  else reckon W S s a b
/- Applied: all but call/cc. -/
def applyB (W : PW) (S : PS) (f : PV) (args : List PV) : SR := match f with
  | .proc i => match W.procs[i]? with
    | some p => if args.length ≠ p.1.ns.length then ⟨10, W, S⟩
      else ⟨0, { W with places := W.places ++ args }, S.work p.1.ks[0]? (p.2 ++ numb p.1.ns W.places.length)⟩
    | none => ⟨9, W, S⟩
  | .cont i => match args with
    | [a] => ⟨0, W, { S with frames := W.conts[i]?.getD [] }.give a⟩
    | _ => ⟨10, W, S⟩
  | .prim s => if args.length ≠ arity s then ⟨10, W, S⟩ else match args with
    | [a] => prim1 W S s a
    | [a, b] => prim2 W S s a b
    | _ => ⟨10, W, S⟩
  | _ => ⟨9, W, S⟩
def PW.keep (W : PW) (S : PS) : PW := { W with conts := W.conts ++ [S.frames] }
def apply (W : PW) (S : PS) (f : PV) (args : List PV) : SR :=
  if f = .prim callccW then match args with
    | [a] =>
      let c := PV.cont W.conts.length
      if a = .prim callccW then applyB ((W.keep S).keep S) S c [.cont (W.conts.length + 1)]
      else applyB (W.keep S) S a [c]
    | _ => ⟨10, W, S⟩
  else applyB W S f args
def taken (W : PW) (S : PS) : SR := match S.frames with
  | [] => ⟨9, W, S⟩
  | fr :: rest =>
    let S1 := { S with frames := rest }
    match fr.form.k with
    | .iff => ⟨0, W, S1.work (if S.val = .truth false then fr.form.ks[2]? else fr.form.ks[1]?) fr.env⟩
    | .set => match seek W fr.env fr.form.nm with
      | some k => ⟨0, { W with places := W.places.set k S.val }, S1.give .nothing⟩
      | none => ⟨8, W, S1⟩
    | .define => ⟨0, bind W fr.form.nm S.val, S1.give .nothing⟩
    | .begin => ⟨0, W, (if fr.pos + 1 < fr.form.ks.length then S1.push { fr with got := [], pos := fr.pos + 1 } else S1).work fr.form.ks[fr.pos]? fr.env⟩
    | _ =>
      let got := fr.got ++ [S.val]
      if fr.pos = fr.form.ks.length then match got with
        | [] => ⟨9, W, S1⟩
        | g :: args => apply W S1 g args
      else ⟨0, W, (S1.push { fr with got := got, pos := fr.pos + 1 }).work fr.form.ks[fr.pos]? fr.env⟩
def step (W : PW) (S : PS) : SR := match S.form with
  | none => taken W S
  | some f => match f.k with
    | .const => ⟨0, W, S.give f.v⟩
    | .name => match seek W S.env f.nm with
      | some k => ⟨0, W, S.give (W.places[k]?.getD .nothing)⟩
      | none => ⟨8, W, S⟩
    | .lambda => ⟨0, { W with procs := W.procs ++ [(f, S.env)] }, S.give (.proc W.procs.length)⟩
    | .begin => ⟨0, W, (if 1 < f.ks.length then S.push ⟨f, [], 1, S.env⟩ else S).work f.ks[0]? S.env⟩
    | _ => ⟨0, W, (S.push ⟨f, [], 1, S.env⟩).work f.ks[0]? S.env⟩
def PS.ended (S : PS) : Bool := S.form.isNone && S.frames.isEmpty
/- So many steps at most; and one behind each the state, if it is no error. -/
def goOn : Nat → PW → PS → SR
  | 0, W, S => if S.ended then ⟨0, W, S⟩ else ⟨7, W, S⟩
  | n + 1, W, S => if S.ended then ⟨0, W, S⟩ else
    let r := step W S
    if r.e = 0 then goOn n r.W r.S else r
end Pl
end Go.Proofs.YtkgbdddkcjpgfaaGreatDoor

/- Plain functions: the form that a datum is; it is one where isForm says so. Nothing of the program. -/
namespace Go.Proofs.YtkgbdddkcjpgfaaGreatDoor
namespace Pl
def mkF (k : FK) (nm : Byt) (d : Tre) (ks : List PF) (ns : List Byt) : PF := .mk k nm d .nothing ks ns
def allF (f : Tre → Option PF) : List Tre → Option (List PF)
  | [] => some []
  | x :: r => (f x).bind fun a => (allF f r).map fun l => a :: l
def lamF (f : Tre → Option PF) (ns body : Tre) : Option PF := match ns with
  | .agg l => if namesOk l then (f body).map fun b => mkF .lambda [] .nil [b] (l.map strOf) else none
  | _ => none
def letF (f : Tre → Option PF) (ps body : Tre) : Option PF := match ps with
  | .agg l => if l.all isPair then (lamF f (.agg (l.map fstOf)) body).bind fun h => (allF f (l.map sndOf)).map fun r => mkF .call [] .nil (h :: r) [] else none
  | _ => none
def asgF (k : FK) (f : Tre → Option PF) (r : List Tre) : Option PF := match r with
  | [n, e] => if isName n then (f e).map fun b => mkF k (strOf n) .nil [b] [] else none
  | _ => none
def lam2F (f : Tre → Option PF) (r : List Tre) : Option PF := match r with
  | [n, e] => lamF f n e
  | _ => none
def let2F (f : Tre → Option PF) (r : List Tre) : Option PF := match r with
  | [n, e] => letF f n e
  | _ => none
def keyF (f : Tre → Option PF) (t : Tre) (h : List UInt8) (r : List Tre) : Option PF :=
  if h = quoteW then (if r.length == 1 then some (mkF .const [] t [] []) else none)
  else if h = ifW then (if r.length == 3 then (allF f r).map fun l => mkF .iff [] .nil l [] else none)
  else if h = beginW then (if !r.isEmpty then (allF f r).map fun l => mkF .begin [] .nil l [] else none)
  else if h = setW then asgF .set f r
  else if h = lambdaW then lam2F f r
  else if h = letW then let2F f r
  else none
def listF (f : Tre → Option PF) (ks : List Tre) : Option PF := match ks with
  | [] => none
  | k :: r => match headKw (k :: r) with
    | some h => keyF f (.agg (k :: r)) h r
    | none => (allF f (k :: r)).map fun l => mkF .call [] .nil l []
def formOf : Nat → Tre → Option PF
  | 0, _ => none
  | n + 1, t => match t with
    | .lit (.int k m) => some (mkF .const [] (.lit (.int k m)) [] [])
    | .lit (.bool x) => some (mkF .const [] (.lit (.bool x)) [] [])
    | .lit (.string s) => if kwB s then none else some (mkF .name s .nil [] [])
    | .agg ks => listF (formOf n) ks
    | _ => none
def topOf (n : Nat) (t : Tre) : Option PF := match t with
  | .agg (.lit (.string h) :: r) => if h = defineW then asgF .define (formOf n) r else formOf (n + 1) t
  | _ => formOf (n + 1) t
/- A form where isForm says so. -/
theorem allF_some (f : Tre → Option PF) (l : List Tre) : (allF f l).isSome = l.all fun x => (f x).isSome := by
  induction l with
  | nil => rfl
  | cons x r ih =>
    unfold allF
    cases hx : f x with
    | none => simp [hx]
    | some a =>
      simp only [Option.bind_some, Option.isSome_map, List.all_cons, hx, Option.isSome_some, Bool.true_and]
      exact ih
theorem allF_len (f : Tre → Option PF) : ∀ (l : List Tre) (r : List PF), allF f l = some r → r.length = l.length
  | [], r, h => by obtain rfl := Option.some.inj h; rfl
  | x :: l, r, h => by
    unfold allF at h
    cases hx : f x with
    | none => rw [hx] at h; simp at h
    | some a =>
      rw [hx] at h
      simp only [Option.bind_some, Option.map_eq_some_iff] at h
      obtain ⟨q, hq, rfl⟩ := h
      simp [allF_len f l q hq]
theorem some_if (b : Bool) (o : Option PF) : (if b = true then o else none).isSome = (b && o.isSome) := by cases b <;> simp
theorem lamF_some (f : Tre → Option PF) (ns body : Tre) : (lamF f ns body).isSome = lamOk (fun x => (f x).isSome) ns body := by
  cases ns with
  | agg l =>
    show (if namesOk l = true then (f body).map (fun b => mkF .lambda [] .nil [b] (l.map strOf)) else none).isSome = (namesOk l && (f body).isSome)
    rw [some_if, Option.isSome_map]
  | _ => rfl
theorem letF_some (f : Tre → Option PF) (ps body : Tre) : (letF f ps body).isSome = letOk (fun x => (f x).isSome) ps body := by
  cases ps with
  | agg l =>
    show (if l.all isPair = true then (lamF f (.agg (l.map fstOf)) body).bind (fun h => (allF f (l.map sndOf)).map fun r => mkF .call [] .nil (h :: r) []) else none).isSome = (l.all isPair && (namesOk (l.map fstOf) && (f body).isSome) && (l.map sndOf).all fun x => (f x).isSome)
    have h1 : (lamF f (.agg (l.map fstOf)) body).isSome = (namesOk (l.map fstOf) && (f body).isSome) := lamF_some f _ _
    rw [some_if, ← h1, ← allF_some]
    cases lamF f (.agg (l.map fstOf)) body <;> simp
  | _ => rfl
theorem asgF_some (k : FK) (f : Tre → Option PF) (r : List Tre) : (asgF k f r).isSome = asgOk (fun x => (f x).isSome) r := by
  match r with
  | [] => rfl
  | [_] => rfl
  | [n, e] =>
    show (if isName n = true then (f e).map (fun b => mkF k (strOf n) .nil [b] []) else none).isSome = (isName n && (f e).isSome)
    rw [some_if, Option.isSome_map]
  | _ :: _ :: _ :: _ => rfl
theorem lam2F_some (f : Tre → Option PF) (r : List Tre) : (lam2F f r).isSome = lam2 (fun x => (f x).isSome) r := by
  match r with
  | [] => rfl
  | [_] => rfl
  | [n, e] => exact lamF_some f n e
  | _ :: _ :: _ :: _ => rfl
theorem let2F_some (f : Tre → Option PF) (r : List Tre) : (let2F f r).isSome = let2 (fun x => (f x).isSome) r := by
  match r with
  | [] => rfl
  | [_] => rfl
  | [n, e] => exact letF_some f n e
  | _ :: _ :: _ :: _ => rfl
theorem keyF_some (f : Tre → Option PF) (t : Tre) (h : List UInt8) (r : List Tre) : (keyF f t h r).isSome = keyForm (fun x => (f x).isSome) h r := by
  unfold keyF keyForm
  have ha := allF_some f r
  by_cases h1 : h = quoteW
  · rw [if_pos h1, if_pos h1, some_if]; simp
  rw [if_neg h1, if_neg h1]
  by_cases h2 : h = ifW
  · rw [if_pos h2, if_pos h2, some_if, Option.isSome_map, ha]
  rw [if_neg h2, if_neg h2]
  by_cases h3 : h = beginW
  · rw [if_pos h3, if_pos h3, some_if, Option.isSome_map, ha]
  rw [if_neg h3, if_neg h3]
  by_cases h4 : h = setW
  · rw [if_pos h4, if_pos h4]; exact asgF_some _ f r
  rw [if_neg h4, if_neg h4]
  by_cases h5 : h = lambdaW
  · rw [if_pos h5, if_pos h5]; exact lam2F_some f r
  rw [if_neg h5, if_neg h5]
  by_cases h6 : h = letW
  · rw [if_pos h6, if_pos h6]; exact let2F_some f r
  rw [if_neg h6, if_neg h6]
  rfl
theorem listF_some (f : Tre → Option PF) (ks : List Tre) : (listF f ks).isSome = listForm (fun x => (f x).isSome) ks := by
  cases ks with
  | nil => rfl
  | cons k r =>
    unfold listF listForm
    dsimp only
    cases headKw (k :: r) with
    | some h => exact keyF_some f _ h r
    | none =>
      dsimp only
      rw [Option.isSome_map, allF_some]
      simp
theorem formOf_some : ∀ (n : Nat) (t : Tre), (formOf n t).isSome = isForm n t
  | 0, _ => rfl
  | n + 1, t => by
    have hf : (fun x => (formOf n x).isSome) = isForm n := funext (formOf_some n)
    cases t with
    | lit x =>
      cases x with
      | string s =>
        show (if kwB s = true then none else some (mkF .name s .nil [] [])).isSome = !kwB s
        cases kwB s <;> rfl
      | _ => rfl
    | agg ks =>
      show (listF (formOf n) ks).isSome = listForm (isForm n) ks
      rw [listF_some, hf]
    | _ => rfl
end Pl
end Go.Proofs.YtkgbdddkcjpgfaaGreatDoor

/- Plain functions: the value of a quoted datum, the values of a form's constants, and what an input comes to. Nothing of the program. -/
namespace Go.Proofs.YtkgbdddkcjpgfaaGreatDoor
namespace Pl
def madeL (f : Nat → Tre → PV × List (PV × PV)) (b : Nat) : List Tre → PV × List (PV × PV)
  | [] => (.empty, [])
  | x :: r => ((.pair (b + (madeL f b r).2.length + (f (b + (madeL f b r).2.length) x).2.length)), (madeL f b r).2 ++ (f (b + (madeL f b r).2.length) x).2 ++ [((f (b + (madeL f b r).2.length) x).1, (madeL f b r).1)])
def made : Nat → Nat → Tre → PV × List (PV × PV)
  | 0, _, _ => (.nothing, [])
  | n + 1, b, t => match t with
    | .lit (.int _ m) => (.num m, [])
    | .lit (.bool x) => (.truth x, [])
    | .lit (.string s) => (.name s, [])
    | .agg ts => madeL (made n) b ts
    | _ => (.nothing, [])
end Pl
def bigT : Nat → Pl.Tre → Prop
  | 0, _ => True
  | n + 1, t => match t with
    | .lit (.int _ m) => inBig m
    | .lit (.string s) => s.length ≤ 300
    | .agg ts => ∀ x ∈ ts, bigT n x
    | _ => True
namespace Pl
def quoted : Tre → Tre
  | .agg (_ :: d :: _) => d
  | t => t
mutual
def settle : PF → Nat → PF × List (PV × PV)
  | .mk k nm d v ks ns, b =>
    if k = .const then (.mk k nm d (made 1000 b (quoted d)).1 ks ns, (made 1000 b (quoted d)).2)
    else (.mk k nm d v (settleL ks b).1 ns, (settleL ks b).2)
def settleL : List PF → Nat → List PF × List (PV × PV)
  | [], _ => ([], [])
  | x :: r, b => ((settle x b).1 :: (settleL r (b + (settle x b).2.length)).1, (settle x b).2 ++ (settleL r (b + (settle x b).2.length)).2)
end
theorem settle_const (nm : Byt) (d : Tre) (v : PV) (ks : List PF) (ns : List Byt) (b : Nat) : settle (.mk .const nm d v ks ns) b = (.mk .const nm d (made 1000 b (quoted d)).1 ks ns, (made 1000 b (quoted d)).2) := by simp [settle]
theorem settle_other (k : FK) (nm : Byt) (d : Tre) (v : PV) (ks : List PF) (ns : List Byt) (b : Nat) (h : k ≠ .const) : settle (.mk k nm d v ks ns) b = (.mk k nm d v (settleL ks b).1 ns, (settleL ks b).2) := by simp [settle, h]
theorem settleL_nil (b : Nat) : settleL [] b = ([], []) := by simp [settleL]
theorem settleL_cons (x : PF) (r : List PF) (b : Nat) : settleL (x :: r) b = ((settle x b).1 :: (settleL r (b + (settle x b).2.length)).1, (settle x b).2 ++ (settleL r (b + (settle x b).2.length)).2) := by simp [settleL]
theorem settleL_len : ∀ (l : List PF) (b : Nat), (settleL l b).1.length = l.length
  | [], _ => by simp [settleL]
  | x :: r, b => by simp [settleL, settleL_len r]
/- The form of a text that is one. -/
def readF (bs : Byt) : Option PF := match toks bs with
  | none => none
  | some l => match pd l.length l with
    | none => none
    | some p => topOf (l.length - 1) p.t
structure PO where
  code : Nat
  out : Byt
  val : Byt
  deriving DecidableEq
def told (r : SR) : PO := ⟨r.e, r.W.out, if r.e = 0 then cut (text r.W.pairs r.S.val) else []⟩
def beganW (W : PW) (f : PF) : PW := { W with out := [], pairs := W.pairs ++ (settle f W.pairs.length).2 }
def beganS (W : PW) (f : PF) : PS := ⟨some (settle f W.pairs.length).1, [], .nothing, []⟩
def over (n : Int) : Bool := decide (n < 0) || decide (1000000 < n)
/- What an input comes to: the world behind it, and its outcome. -/
def answer (W : PW) (i : Byt × Int) : PW × PO :=
  if over i.2 then (W, ⟨6, [], []⟩)
  else if check i.1 ≠ 0 then (W, ⟨check i.1, [], []⟩)
  else match readF i.1 with
    | none => (W, ⟨5, [], []⟩)
    | some f => ((goOn i.2.toNat (beganW W f) (beganS W f)).W, told (goOn i.2.toNat (beganW W f) (beganS W f)))
def session : PW → List (Byt × Int) → PW × List PO
  | W, [] => (W, [])
  | W, i :: r => ((session (answer W i).1 r).1, (answer W i).2 :: (session (answer W i).1 r).2)
theorem session_snoc : ∀ (l : List (Byt × Int)) (W : PW) (i : Byt × Int), session W (l ++ [i]) = ((answer (session W l).1 i).1, (session W l).2 ++ [(answer (session W l).1 i).2])
  | [], _, _ => rfl
  | x :: l, W, i => by simp only [List.cons_append, session, session_snoc l]
theorem session_len : ∀ (l : List (Byt × Int)) (W : PW), (session W l).2.length = l.length
  | [], _ => rfl
  | x :: l, W => by simp [session, session_len l]
end Pl
end Go.Proofs.YtkgbdddkcjpgfaaGreatDoor

/- Plain functions: forms read one behind another, and how many words a datum has. Nothing of the program. -/
namespace Go.Proofs.YtkgbdddkcjpgfaaGreatDoor
namespace Pl
abbrev FR := Option (PF × List (PV × PV))
def fmF (o : Option PF) (b : Nat) : FR := o.map fun f => settle f b
def seqL : List (Nat → FR) → Nat → Option (List PF × List (PV × PV))
  | [], _ => some ([], [])
  | F :: r, b => (F b).bind fun p => (seqL r (b + p.2.length)).map fun q => (p.1 :: q.1, p.2 ++ q.2)
theorem seqL_eq (f : Tre → Option PF) : ∀ (ts : List Tre) (b : Nat), seqL (ts.map fun t => fmF (f t)) b = (allF f ts).map fun l => settleL l b
  | [], b => by simp [seqL, allF, settleL_nil]
  | t :: r, b => by
    simp only [List.map_cons, seqL, allF]
    cases h : f t with
    | none => simp [fmF]
    | some x =>
      simp only [fmF, Option.map_some, Option.bind_some]
      rw [seqL_eq f r]
      cases allF f r with
      | none => rfl
      | some l => simp [settleL_cons]
/- What is left to be read. -/
def Left (Fs : List (Nat → FR)) (b : Nat) (k : Nat) (fs : List PF) (new : List (PV × PV)) : Prop :=
  seqL Fs b = (seqL (Fs.drop k) (b + new.length)).map fun q => (fs ++ q.1, new ++ q.2)
theorem Left.start (Fs : List (Nat → FR)) (b : Nat) : Left Fs b 0 [] [] := by
  unfold Left
  simp
theorem Left.more {Fs : List (Nat → FR)} {b k : Nat} {fs : List PF} {new : List (PV × PV)} (h : Left Fs b k fs new) {F : Nat → FR} {p : PF × List (PV × PV)} (hF : Fs[k]? = some F) (hp : F (b + new.length) = some p) : Left Fs b (k + 1) (fs ++ [p.1]) (new ++ p.2) := by
  unfold Left at h ⊢
  rw [h]
  obtain ⟨hk, rfl⟩ := List.getElem?_eq_some_iff.1 hF
  rw [List.drop_eq_getElem_cons hk]
  simp only [seqL, hp, Option.bind_some, Option.map_map]
  rw [List.length_append, Nat.add_assoc]
  congr 1
  funext q
  simp
theorem Left.none_ {Fs : List (Nat → FR)} {b k : Nat} {fs : List PF} {new : List (PV × PV)} (h : Left Fs b k fs new) {F : Nat → FR} (hF : Fs[k]? = some F) (hp : F (b + new.length) = none) : seqL Fs b = none := by
  unfold Left at h
  rw [h]
  obtain ⟨hk, rfl⟩ := List.getElem?_eq_some_iff.1 hF
  rw [List.drop_eq_getElem_cons hk]
  simp [seqL, hp]
theorem Left.done {Fs : List (Nat → FR)} {b : Nat} {fs : List PF} {new : List (PV × PV)} (h : Left Fs b Fs.length fs new) : seqL Fs b = some (fs, new) := by
  unfold Left at h
  rw [h, List.drop_length]
  simp [seqL]
/- How many words. -/
def tsz : Nat → Tre → Nat
  | 0, _ => 0
  | n + 1, t => match t with
    | .agg ts => (ts.map (tsz n)).sum
    | _ => 1
theorem sum_drop (l : List Nat) : ∀ (k : Nat) (x : Nat), l[k]? = some x → (l.drop k).sum = x + (l.drop (k + 1)).sum := by
  intro k x h
  obtain ⟨hk, rfl⟩ := List.getElem?_eq_some_iff.1 h
  rw [List.drop_eq_getElem_cons hk, List.sum_cons]
theorem sum_take (l : List Nat) : ∀ (k : Nat) (x : Nat), l[k]? = some x → (l.take (k + 1)).sum = (l.take k).sum + x := by
  intro k x h
  rw [List.take_add_one, h]
  simp
theorem take_sum_le (l : List Nat) (k : Nat) : (l.take k).sum ≤ l.sum := by
  conv => rhs; rw [← List.take_append_drop k l]
  rw [List.sum_append]
  omega
/- A datum's words are no more than its tokens; without a number that is too great all are within the limits. -/
structure PdOk (n : Nat) (l : List Tok) (p : PR) : Prop where
  words : tsz n p.t + p.q.length ≤ l.length
  big : p.gr = false → (∀ t ∈ l, t.length ≤ 300) → bigT n p.t
theorem pls_ok (n : Nat) (ih : ∀ l p, pd n l = some p → PdOk n l p) : ∀ (k : Nat) (l : List Tok) (p : PL), pls (pd n) k l = some p → ((p.ts.map (tsz n)).sum + p.q.length + 1 ≤ l.length ∧ (p.gr = false → (∀ t ∈ l, t.length ≤ 300) → ∀ x ∈ p.ts, bigT n x)) := by
  intro k
  induction k with
  | zero => intro l p h; simp [pls] at h
  | succ k ihk =>
    intro l p h
    cases l with
    | nil => simp [pls] at h
    | cons t r =>
      rw [pls_cons] at h
      split at h
      · obtain rfl := Option.some.inj h
        simp
      · cases h1 : pd n (t :: r) with
        | none => rw [h1] at h; simp at h
        | some p1 =>
          rw [h1] at h
          dsimp only at h
          have o1 := ih _ _ h1
          cases h2 : pls (pd n) k p1.q with
          | none => rw [h2] at h; simp at h
          | some p2 =>
            rw [h2] at h
            have o2 := ihk _ _ h2
            simp only [Option.map_some, Option.some.injEq] at h
            subst h
            refine ⟨?_, ?_⟩
            · have := o1.words
              have := o2.1
              simp only [List.map_cons, List.sum_cons]
              omega
            · intro hg ht x hx
              simp only [Bool.or_eq_false_iff] at hg
              rcases List.mem_cons.1 hx with rfl | hx
              · exact o1.big hg.1 ht
              · exact o2.2 hg.2 (fun y hy => ht y ((pd_tail _ _ _ h1).1.mem hy)) x hx
theorem great_big {t : Tok} (h : great t = false) : inBig (sval t) := by
  unfold great at h
  have h : natV (digs t) ≤ big := by simpa using h
  unfold inBig sval
  split <;> omega
theorem pd_ok : ∀ (n : Nat) (l : List Tok) (p : PR), pd n l = some p → PdOk n l p
  | 0, _, _, h => by simp [pd] at h
  | n + 1, [], _, h => by simp [pd] at h
  | n + 1, t :: r, p, h => by
    unfold pd at h
    split at h
    · simp at h
    split at h
    · obtain rfl := Option.some.inj h
      exact ⟨by simp [tsz]; omega, fun _ _ => trivial⟩
    split at h
    · obtain rfl := Option.some.inj h
      exact ⟨by simp [tsz]; omega, fun _ _ => trivial⟩
    split at h
    · simp only [Option.map_eq_some_iff] at h
      obtain ⟨p1, h1, rfl⟩ := h
      have o := pd_ok n r p1 h1
      have ho := o.words
      cases n with
      | zero => simp [pd] at h1
      | succ m =>
        refine ⟨?_, fun hg ht x hx => ?_⟩
        · simp only [tsz, List.map_cons, List.map_nil, List.sum_cons, List.sum_nil, List.length_cons] at ho ⊢
          omega
        · rcases List.mem_cons.1 hx with rfl | hx
          · show quoteW.length ≤ 300; decide
          · obtain rfl : x = p1.t := by simpa using hx
            exact o.big hg (fun y hy => ht y (List.mem_cons_of_mem _ hy))
    split at h
    · simp only [Option.map_eq_some_iff] at h
      obtain ⟨p1, h1, rfl⟩ := h
      have o := pls_ok n (pd_ok n) _ _ _ h1
      exact ⟨by have := o.1; simp only [tsz, List.length_cons]; omega, fun hg ht => o.2 hg (fun y hy => ht y (List.mem_cons_of_mem _ hy))⟩
    · simp only [Option.map_eq_some_iff] at h
      obtain ⟨p1, h1, rfl⟩ := h
      unfold pw at h1
      split at h1
      · obtain rfl := Option.some.inj h1
        exact ⟨by simp [tsz]; omega, fun hg _ => great_big hg⟩
      · split at h1
        · obtain rfl := Option.some.inj h1
          exact ⟨by simp [tsz]; omega, fun _ ht => ht t (by simp)⟩
        · simp at h1
end Pl
end Go.Proofs.YtkgbdddkcjpgfaaGreatDoor
