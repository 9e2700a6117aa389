import PyProof.Rows.All
import Wide.All
import OpenK.AllK
import Wide.FinOn
import PySem.Str
import HandS.ForMost
import HandS.ForExc
import HandS.Walk
import HandS.Lambda
import HandS.TupMul
import HandS.Zip
import HandS.IsInst
import HandS.Small
import HandS.Conv
import HandS.DictComp
import HandS.Strs
import HandS.SetBool
import HandS.Text
import HandS.TryMany
import HandS.EndTab
import HandS.TupAny
import HandS.Style
import HandS.Gcd
import HandS.SortKw
import HandS.Deep
import PyProof.MinMaxWalk
import PyProof.WalksMore
import PyProof.WalkInts
import PyProof.P3In
import PyProof.Rows.CallKwBuiltin
import KE.KNestM
import PyProof.ExcBaseAll.ValueError
import PySem.Challenge.RW_nomoretold_k29_shares_refused
section
set_option autoImplicit false
/-! Plain values, plain states, and what the constructs of the subset make of them. No heap here. -/
namespace Pv
open PySem (Str)

inductive PV where
  | none | bool (b : Bool) | int (i : Int) | str (s : Str) | list (xs : List PV) | tuple (xs : List PV) | dict (tk : Bool) (kvs : List (PV × PV)) | fn (id : Nat) (caps : List PV)
  deriving Inhabited

/-- an exception: the name of its class, its fields -/
structure Exc where
  cls : String
  flds : List (String × PV)

/-- what a slot holds: nothing known; a value that stays as it is; a list or dict that the frame alone holds (or was lent) and may change -/
inductive Sl where
  | no | v (p : PV) | o (lent : Bool) (p : PV)
abbrev Env := List Sl

/-- an outcome that changes no slot -/
inductive Rp (α : Type) where
  | ok (a : α) | exc (x : Exc) | bad
namespace Rp
def bind {α β : Type} (r : Rp α) (f : α → Rp β) : Rp β := match r with
  | ok a => f a
  | exc x => exc x
  | bad => bad
instance : Monad Rp where
  pure := ok
  bind := bind
@[simp] theorem ok_bind {α β : Type} (a : α) (f : α → Rp β) : (ok a >>= f) = f a := rfl
@[simp] theorem pure_bind' {α β : Type} (a : α) (f : α → Rp β) : (pure a >>= f) = f a := rfl
@[simp] theorem exc_bind {α β : Type} (x : Exc) (f : α → Rp β) : ((exc x : Rp α) >>= f) = exc x := rfl
@[simp] theorem bad_bind {α β : Type} (f : α → Rp β) : ((bad : Rp α) >>= f) = bad := rfl
@[simp] theorem pure_eq {α : Type} (a : α) : (pure a : Rp α) = ok a := rfl
end Rp

/-- an outcome with the slots behind it -/
inductive Rs (α : Type) where
  | ok (a : α) (env : Env) | exc (x : Exc) (env : Env) | bad
inductive Flow where
  | next | ret (p : PV) | brk | cnt

abbrev PX := Env → Rp PV
abbrev TX := Env → Rp Bool
abbrev LX := Env → Rp (List PV)
abbrev MX := Env → Rs PV
abbrev ML := Env → Rs (List PV)
abbrev MT := Env → Rs Bool
abbrev SM := Env → Rs Flow

/-! ### sizes -/
def line : Nat := 16777216

/-! ### expressions that change nothing -/
def pVar (i : Nat) : PX := fun env => match env[i]? with
  | some (.v p) => .ok p
  | _ => .bad
/-- a name whose value is looked at and not kept -/
def pBor (i : Nat) : PX := fun env => match env[i]? with
  | some (.v p) => .ok p
  | some (.o _ p) => .ok p
  | _ => .bad
def pC (p : PV) : PX := fun _ => .ok p
def ofOpt {α : Type} : Option α → Rp α
  | some a => .ok a
  | none => .bad
@[simp] theorem ofOpt_some {α : Type} (a : α) : ofOpt (some a) = .ok a := rfl
@[simp] theorem ofOpt_none {α : Type} : ofOpt (none : Option α) = .bad := rfl
def p1 (f : PV → Option PV) (a : PX) : PX := fun env => a env >>= fun x => ofOpt (f x)
def p2 (f : PV → PV → Option PV) (a b : PX) : PX := fun env => a env >>= fun x => b env >>= fun y => ofOpt (f x y)
def pNil : LX := fun _ => .ok []
def pCons (a : PX) (l : LX) : LX := fun env => a env >>= fun x => l env >>= fun xs => .ok (x :: xs)
def pLst (l : LX) : PX := fun env => l env >>= fun xs => .ok (.list xs)
def pTup (l : LX) : PX := fun env => l env >>= fun xs => .ok (.tuple xs)
/-- a call of a built-in function upon its arguments -/
def pB (f : List PV → Option PV) (l : LX) : PX := fun env => l env >>= fun xs => ofOpt (f xs)
/-- a call of a function upon its arguments -/
def pCall (F : List PV → Rp PV) (l : LX) : PX := fun env => l env >>= F
def asBool : PV → Rp Bool
  | .bool b => .ok b
  | _ => .bad
def pAnd (a b : PX) : PX := fun env => a env >>= fun x => asBool x >>= fun c => if c then b env else .ok (.bool false)
def pOr (a b : PX) : PX := fun env => a env >>= fun x => asBool x >>= fun c => if c then .ok (.bool true) else b env
def pNot (a : PX) : PX := fun env => a env >>= fun x => asBool x >>= fun c => .ok (.bool (!c))
def pIf (c : TX) (a b : PX) : PX := fun env => c env >>= fun k => if k then a env else b env
/-- a op b op' c -/
def pChain (f g : PV → PV → Option PV) (a b c : PX) : PX := fun env => a env >>= fun x => b env >>= fun y => ofOpt (f x y) >>= asBool >>= fun k => if k then c env >>= fun z => ofOpt (g y z) else .ok (.bool false)

/-! ### tests -/
def tBool (a : PX) : TX := fun env => a env >>= asBool
def truth : PV → Option Bool
  | .none => some false
  | .bool b => some b
  | .int i => some (i != 0)
  | .list xs => some (!xs.isEmpty)
  | .tuple xs => some (!xs.isEmpty)
  | _ => none
def tTruth (a : PX) : TX := fun env => a env >>= fun x => ofOpt (truth x)
def tNot (c : TX) : TX := fun env => c env >>= fun k => .ok (!k)
def tAnd (c d : TX) : TX := fun env => c env >>= fun k => if k then d env else .ok false
def tOr (c d : TX) : TX := fun env => c env >>= fun k => if k then .ok true else d env
def tYes : TX := fun _ => .ok true

/-! ### operators upon values -/
def oAddI : PV → PV → Option PV
  | .int i, .int j => some (.int (i + j))
  | _, _ => none
def oCatL : PV → PV → Option PV
  | .list xs, .list ys => if xs.length + ys.length ≤ line then some (.list (xs ++ ys)) else none
  | _, _ => none
def oCatT : PV → PV → Option PV
  | .tuple xs, .tuple ys => if xs.length + ys.length ≤ line then some (.tuple (xs ++ ys)) else none
  | _, _ => none
def oAdd (a b : PV) : Option PV := (oAddI a b).or ((oCatL a b).or (oCatT a b))
def oMinus : PV → PV → Option PV
  | .int i, .int j => some (.int (i - j))
  | _, _ => none
def oMulI : PV → PV → Option PV
  | .int i, .int j => if (-(2 ^ 64) < i ∧ i < 2 ^ 64) ∨ (-(2 ^ 64) < j ∧ j < 2 ^ 64) then some (.int (i * j)) else none
  | _, _ => none
/-- a tuple so many times -/
def oRepT : PV → PV → Option PV
  | .tuple xs, .int k => if 2 ≤ k ∧ k < 1000 ∧ 0 < xs.length ∧ xs.length ≤ 1000 then some (.tuple (List.replicate k.toNat xs).flatten) else none
  | _, _ => none
def oMul (a b : PV) : Option PV := (oMulI a b).or (oRepT a b)
def oDiv : PV → PV → Option PV
  | .int i, .int j => if 0 < j ∧ j < 1073741824 then some (.int (i / j)) else none
  | _, _ => none
def oMod : PV → PV → Option PV
  | .int i, .int j => if 0 < j then some (.int (i % j)) else none
  | _, _ => none
def oPow : PV → PV → Option PV
  | .int i, .int j => if 0 ≤ j ∧ j ≤ 1000000 ∧ i.natAbs < 2 ^ 64 then some (.int (i ^ j.toNat)) else none
  | _, _ => none
def oShl : PV → PV → Option PV
  | .int i, .int j => if 0 ≤ j ∧ j ≤ 1000000 ∧ i.natAbs < 2 ^ 64 then some (.int (i * 2 ^ j.toNat)) else none
  | _, _ => none
def oShr : PV → PV → Option PV
  | .int i, .int j => if 0 ≤ j then some (.int (i / 2 ^ j.toNat)) else none
  | _, _ => none
/-- n & 1 -/
def oAnd1 : PV → PV → Option PV
  | .int i, .int j => if j = 1 ∧ 0 ≤ i then some (.int (i % 2)) else none
  | _, _ => none
def oNeg : PV → Option PV
  | .int i => some (.int (-i))
  | _ => none
def cmpI (p : Int → Int → Bool) : PV → PV → Option PV
  | .int i, .int j => some (.bool (p i j))
  | _, _ => none
abbrev oLt := cmpI fun i j => decide (i < j)
abbrev oLe := cmpI fun i j => decide (i ≤ j)
abbrev oGt := cmpI fun i j => decide (j < i)
abbrev oGe := cmpI fun i j => decide (j ≤ i)
def isNone : PV → Bool
  | .none => true
  | _ => false
/-- a is None, a is not None -/
def oIsNone (a : PV) : Option PV := some (.bool (isNone a))
def oNotNone (a : PV) : Option PV := some (.bool (!isNone a))

/-! ### keys of dicts: numbers and texts; tuples of these -/
abbrev DKey := Sum Int Str
def keyOf : PV → Option DKey
  | .int i => some (.inl i)
  | .str s => some (.inr s)
  | _ => none
def keysOf : List PV → Option (List DKey)
  | [] => some []
  | p :: r => (keyOf p).bind fun k => (keysOf r).map (k :: ·)
def tkeyOf : PV → Option (List DKey)
  | .tuple ps => keysOf ps
  | _ => none

/-! ### equality of data -/
mutual
def eqv : PV → PV → Bool
  | .none, .none => true
  | .bool a, .bool b => a == b
  | .bool a, .int j => (if a then 1 else 0) == j
  | .int i, .bool b => i == (if b then 1 else 0)
  | .int i, .int j => i == j
  | .str x, .str y => x == y
  | .list xs, .list ys => eqvs xs ys
  | .tuple xs, .tuple ys => eqvs xs ys
  | _, _ => false
def eqvs : List PV → List PV → Bool
  | [], [] => true
  | x :: xs, y :: ys => eqv x y && eqvs xs ys
  | _, _ => false
end
mutual
/-- data without dicts and functions, nested at most so deep -/
def flatTo : Nat → PV → Bool
  | 0, _ => false
  | n + 1, .list xs => flatsTo n xs
  | n + 1, .tuple xs => flatsTo n xs
  | _ + 1, .dict _ _ => false
  | _ + 1, .fn _ _ => false
  | _ + 1, .none => true
  | _ + 1, .bool _ => true
  | _ + 1, .int _ => true
  | _ + 1, .str s => s.cps.all (· < 0x110000)
def flatsTo : Nat → List PV → Bool
  | _, [] => true
  | n, x :: xs => flatTo n x && flatsTo n xs
end
def oEq (a b : PV) : Option PV := if flatTo 60 a && flatTo 60 b then some (.bool (eqv a b)) else none
def oNe (a b : PV) : Option PV := if flatTo 60 a && flatTo 60 b then some (.bool (!eqv a b)) else none
/-- none, a bool, an int, a text -/
def scalar : PV → Bool
  | .none => true
  | .bool _ => true
  | .int _ => true
  | .str _ => true
  | _ => false
def isIn (a : PV) (xs : List PV) : Bool := xs.any fun x => eqv x a
def keysIn : PV → Option (List PV)
  | .dict _ kvs => some (kvs.map (·.1))
  | _ => none
def seqOf : PV → Option (List PV)
  | .list xs => some xs
  | .tuple xs => some xs
  | _ => none
def oIn (a b : PV) : Option PV := (seqOf b).bind fun xs => if scalar a && xs.all scalar then some (.bool (isIn a xs)) else none
def oNotIn (a b : PV) : Option PV := (seqOf b).bind fun xs => if scalar a && xs.all scalar then some (.bool (!isIn a xs)) else none

/-! ### kinds -/
def tyName : PV → Option String
  | .none => some "NoneType"
  | .bool _ => some "bool"
  | .int _ => some "int"
  | .str _ => some "str"
  | .list _ => some "list"
  | .tuple _ => some "tuple"
  | .dict _ _ => some "dict"
  | .fn _ _ => none
def subTy (t u : String) : Bool := t == u || (t == "bool" && u == "int")
/-- isinstance(a, (u, ..)) -/
def oIsA (us : List String) (a : PV) : Option PV := (tyName a).map fun t => .bool (us.any fun u => subTy t u)

/-! ### places -/
def ixOf (n : Nat) (i : Int) : Option Nat := if 0 ≤ i then (if i < n then some i.toNat else none) else if -(n : Int) ≤ i then some (i + n).toNat else none
def atOf {α : Type} (xs : List α) (i : Int) : Option α := (ixOf xs.length i).bind fun j => xs[j]?
def oIx (a b : PV) : Option PV := match b with
  | .int i => (seqOf a).bind fun xs => atOf xs i
  | _ => none
/-- what stands at a key -/
def dGet (kvs : List (PV × PV)) (k : PV) : Option PV := (kvs.find? fun q => eqv q.1 k).map (·.2)
def keyable : Bool → PV → Bool
  | false, k => (keyOf k).isSome
  | true, k => (tkeyOf k).isSome
def oDGet : PV → PV → Option PV
  | .dict tk kvs, k => if keyable tk k then dGet kvs k else none
  | _, _ => none
/-- a[b]: of a list, a tuple, a dict -/
def oSub (a b : PV) : Option PV := (oIx a b).or (oDGet a b)
def oDIn : PV → PV → Option PV
  | k, .dict tk kvs => if keyable tk k then some (.bool (dGet kvs k).isSome) else none
  | _, _ => none
def oDNotIn : PV → PV → Option PV
  | k, .dict tk kvs => if keyable tk k then some (.bool (!(dGet kvs k).isSome)) else none
  | _, _ => none
/-- in, not in: lists, tuples, dicts -/
def oInA (a b : PV) : Option PV := (oIn a b).or (oDIn a b)
def oNotInA (a b : PV) : Option PV := (oNotIn a b).or (oDNotIn a b)
/-- in its place, or at the end -/
def dPut (kvs : List (PV × PV)) (k p : PV) : List (PV × PV) := if kvs.any (fun q => eqv q.1 k) then kvs.map (fun q => if eqv q.1 k then (q.1, p) else q) else kvs ++ [(k, p)]
def cutIx (n d : Nat) : Option Int → Nat
  | none => d
  | some v => if v < 0 then (v + (n : Int)).toNat else min v.toNat n
def cut {α : Type} (xs : List α) (lo hi : Option Int) : List α := (xs.drop (cutIx xs.length 0 lo)).take (cutIx xs.length xs.length hi - cutIx xs.length 0 lo)
/-- a[lo:hi]; of a tuple not the whole -/
def oCut (lo hi : Option Int) : PV → Option PV
  | .list xs => some (.list (cut xs lo hi))
  | .tuple xs => if cutIx xs.length 0 lo = 0 ∧ cutIx xs.length xs.length hi = xs.length then none else some (.tuple (cut xs lo hi))
  | _ => none

/-- a[lo:hi], of a tuple the whole too -/
def oCutA (lo hi : Option Int) : PV → Option PV
  | .list xs => some (.list (cut xs lo hi))
  | .tuple xs => some (.tuple (cut xs lo hi))
  | _ => none
/-- a bound -/
abbrev OX := Env → Rp (Option Int)
def pNo : OX := fun _ => .ok none
def intOpt : PV → Rp (Option Int)
  | .int i => .ok (some i)
  | _ => .bad
def pPart (a : PX) : OX := fun env => a env >>= intOpt
def pCutA (a : PX) (lo hi : OX) : PX := fun env => a env >>= fun x => lo env >>= fun l => hi env >>= fun h => ofOpt (oCutA l h x)

/-! ### built-in functions upon values -/
def fLen : List PV → Option PV
  | [a] => (seqOf a).map fun xs => .int (xs.length : Int)
  | _ => none
def fTuple : List PV → Option PV
  | [a] => (seqOf a).map .tuple
  | _ => none
def fList : List PV → Option PV
  | [a] => (seqOf a).map .list
  | _ => none
def fInt : List PV → Option PV
  | [.int i] => some (.int i)
  | [.bool b] => some (.int (if b then 1 else 0))
  | _ => none
def boolsOf : List PV → Option (List Bool)
  | [] => some []
  | .bool b :: r => (boolsOf r).map (b :: ·)
  | _ :: _ => none
def intsOf : List PV → Option (List Int)
  | [] => some []
  | .int i :: r => (intsOf r).map (i :: ·)
  | _ :: _ => none
def fAll : List PV → Option PV
  | [.list xs] => (boolsOf xs).map fun bs => .bool (bs.all id)
  | _ => none
def fAny : List PV → Option PV
  | [.list xs] => (boolsOf xs).map fun bs => .bool (bs.any id)
  | _ => none
def insI (a : Int) : List Int → List Int
  | [] => [a]
  | b :: r => if a ≤ b then a :: b :: r else b :: insI a r
def sortI (xs : List Int) : List Int := xs.foldr insI []
def fSorted : List PV → Option PV
  | [.list xs] => (intsOf xs).bind fun ns => if ns.length < 64 then some (.list ((sortI ns).map .int)) else none
  | _ => none

/-! ### walks -/
def wSeq (a : PX) : LX := fun env => a env >>= fun x => ofOpt (seqOf x)
/-- lo, lo + 1, .. so many -/
def intsFrom (lo : Int) (n : Nat) : List PV := (List.range n).map fun (k : Nat) => .int (lo + (k : Int))
def rangeOf : List PV → Option (List PV)
  | [.int j] => if -(2 ^ 62) ≤ j ∧ j < 16777216 then some (intsFrom 0 j.toNat) else none
  | [.int i, .int j] => if -(2 ^ 62) ≤ i ∧ i < 2 ^ 62 ∧ j < 2 ^ 62 ∧ -(2 ^ 62) ≤ j ∧ j - i < 16777216 then some (intsFrom i (j - i).toNat) else none
  | _ => none
/-- tuple(range(a)), list(range(a)) -/
def fTupR (a : PV) : Option PV := (rangeOf [a]).map .tuple
def fLstR (a : PV) : Option PV := (rangeOf [a]).map .list
def wRange (l : LX) : LX := fun env => l env >>= fun xs => ofOpt (rangeOf xs)
def numbered (xs : List PV) : List PV := (List.range xs.length).zipWith (fun (k : Nat) p => .tuple [.int (k : Int), p]) xs
def wEnum (a : PX) : LX := fun env => a env >>= fun x => ofOpt ((seqOf x).map numbered)
def paired (xs ys : List PV) : List PV := xs.zipWith (fun p q => .tuple [p, q]) ys
def zipOf : PV → PV → Option (List PV)
  | .list xs, .list ys => some (paired xs ys)
  | .tuple xs, .tuple ys => some (paired xs ys)
  | _, _ => none
def wZip (a b : PX) : LX := fun env => a env >>= fun x => b env >>= fun y => ofOpt (zipOf x y)

/-! ### targets: which slots get what -/
abbrev GX := PV → Option (List (Nat × PV))
def gSet (i : Nat) : GX := fun p => some [(i, p)]
abbrev GXs := List PV → Option (List (Nat × PV))
def gNil : GXs := fun ps => match ps with
  | [] => some []
  | _ => none
def gCons (g : GX) (r : GXs) : GXs := fun ps => match ps with
  | p :: ps => (g p).bind fun l => (r ps).map (l ++ ·)
  | [] => none
def gTuple (r : GXs) : GX := fun p => match p with
  | .tuple ps => r ps
  | _ => none
def puts (env : Env) : List (Nat × PV) → Env
  | [] => env
  | (i, p) :: r => puts (env.set i (.v p)) r

/-! ### comprehensions -/
def wipes (env : Env) : List Nat → Env
  | [] => env
  | i :: r => (wipes env r).set i .no
/-- no exception leaves a comprehension -/
def quiet {α : Type} : Rp α → Rp α
  | .ok a => .ok a
  | _ => .bad
@[simp] theorem quiet_ok {α : Type} (a : α) : quiet (.ok a) = .ok a := rfl
/-- what a list comprehension makes of the things that are walked: behind the target the test, then the element -/
def compGo (g : GX) (c : TX) (e : PX) (env : Env) : List PV → Rp (List PV)
  | [] => .ok []
  | x :: r => ofOpt (g x) >>= fun l => c (puts env l) >>= fun k => if k then e (puts env l) >>= fun y => compGo g c e env r >>= fun ys => .ok (y :: ys) else compGo g c e env r
def pComp (own : List Nat) (w : LX) (g : GX) (c : TX) (e : PX) : PX := fun env => w env >>= fun xs => quiet (compGo g c e (wipes env own) xs) >>= fun ys => .ok (.list ys)

/-- two clauses: [e for g in .. if c for g1 in w1 if c1] -/
def comp2Go (g : GX) (c : TX) (w1 : LX) (vs1 : List Nat) (g1 : GX) (c1 : TX) (e : PX) (env : Env) : List PV → Rp (List PV)
  | [] => .ok []
  | x :: r => ofOpt (g x) >>= fun l => c (puts env l) >>= fun k => if k then w1 (puts env l) >>= fun ys => compGo g1 c1 e (wipes (puts env l) vs1) ys >>= fun us => comp2Go g c w1 vs1 g1 c1 e env r >>= fun vs => .ok (us ++ vs) else comp2Go g c w1 vs1 g1 c1 e env r
def pComp2 (own vs1 : List Nat) (w : LX) (g : GX) (c : TX) (w1 : LX) (g1 : GX) (c1 : TX) (e : PX) : PX := fun env => w env >>= fun xs => quiet (comp2Go g c w1 vs1 g1 c1 e (wipes env own) xs) >>= fun ys => if ys.length < line then .ok (.list ys) else .bad

/-- the unlike ones, ascending -/
def insU (a : Int) : List Int → List Int
  | [] => [a]
  | b :: r => if a < b then a :: b :: r else if a = b then b :: r else b :: insU a r
def setI (xs : List Int) : List Int := xs.foldr insU []
/-- sorted({e for g in .. if c for g1 in w1 if c1}), ints -/
def pSorted2 (own vs1 : List Nat) (w : LX) (g : GX) (c : TX) (w1 : LX) (g1 : GX) (c1 : TX) (e : PX) : PX := fun env => w env >>= fun xs => quiet (comp2Go g c w1 vs1 g1 c1 e (wipes env own) xs) >>= fun ys => ofOpt ((intsOf ys).bind fun ns => if ns.length < 64 then some (.list ((setI ns).map .int)) else none)

def dcompGo (g : GX) (c : TX) (ke ve : PX) (env : Env) : List PV → List (PV × PV) → Rp (List (PV × PV))
  | [], acc => .ok acc
  | x :: r, acc => ofOpt (g x) >>= fun l => c (puts env l) >>= fun k => if k then ke (puts env l) >>= fun q => ve (puts env l) >>= fun p => if keyable false q ∧ acc.length < line then dcompGo g c ke ve env r (dPut acc q p) else .bad else dcompGo g c ke ve env r acc
def pDComp (own : List Nat) (w : LX) (g : GX) (c : TX) (ke ve : PX) : PX := fun env => w env >>= fun xs => quiet (dcompGo g c ke ve (wipes env own) xs []) >>= fun kvs => .ok (.dict false kvs)

/-! ### statements -/
def liftR {α β : Type} (r : Rp α) (env : Env) (k : α → Rs β) : Rs β := match r with
  | .ok a => k a
  | .exc x => .exc x env
  | .bad => .bad
@[simp] theorem liftR_ok {α β : Type} (a : α) (env : Env) (k : α → Rs β) : liftR (.ok a) env k = k a := rfl
@[simp] theorem liftR_exc {α β : Type} (x : Exc) (env : Env) (k : α → Rs β) : liftR (.exc x) env k = .exc x env := rfl
@[simp] theorem liftR_bad {α β : Type} (env : Env) (k : α → Rs β) : liftR (.bad : Rp α) env k = .bad := rfl
def sNext : SM := fun env => .ok .next env
def sSeq (a b : SM) : SM := fun env => match a env with
  | .ok .next env' => b env'
  | r => r
def sAsg (a : PX) (g : GX) : SM := fun env => liftR (a env) env fun p => liftR (ofOpt (g p)) env fun l => .ok .next (puts env l)
def sExpr (a : PX) : SM := fun env => liftR (a env) env fun _ => .ok .next env
def sRet (a : PX) : SM := fun env => liftR (a env) env fun p => .ok (.ret p) env
def sRetN : SM := fun env => .ok (.ret .none) env
def sIf (c : TX) (a b : SM) : SM := fun env => liftR (c env) env fun k => if k then a env else b env
def sBrk : SM := fun env => .ok .brk env
def sCnt : SM := fun env => .ok .cnt env
def forGo (g : GX) (b : SM) : List PV → SM
  | [], env => .ok .next env
  | x :: r, env => liftR (ofOpt (g x)) env fun l => match b (puts env l) with
    | .ok .next env2 => forGo g b r env2
    | .ok .cnt env2 => forGo g b r env2
    | .ok .brk env2 => .ok .next env2
    | o => o
def sFor (w : LX) (g : GX) (b : SM) : SM := fun env => liftR (w env) env fun xs => forGo g b xs env
/-- for over the keys of the dict in the slot i; nothing may be raised within -/
def sForD (i : Nat) (g : GX) (b : SM) : SM := fun env => match env[i]? with
  | some (.v (.dict false kvs)) => if kvs.length ≤ line then (match forGo g b (kvs.map (·.1)) env with
    | .exc _ _ => .bad
    | r => r) else .bad
  | _ => .bad
def whileGo (c : TX) (b : SM) : Nat → SM
  | 0, _ => .bad
  | n + 1, env => liftR (c env) env fun k => if k then match b env with
    | .ok .next env2 => whileGo c b n env2
    | .ok .cnt env2 => whileGo c b n env2
    | .ok .brk env2 => .ok .next env2
    | o => o else .ok .next env
def sWhile (c : TX) (b : SM) : SM := whileGo c b 1048576

/-! ### lists and dicts of the frame's own -/
/-- name = a new list -/
def sOwn (i : Nat) (a : PX) : SM := fun env => liftR (a env) env fun p => .ok .next (env.set i (.o false p))
/-- from here on the value stays as it is -/
def froze (i : Nat) (env : Env) : Env := match env[i]? with
  | some (.o false p) => env.set i (.v p)
  | _ => env
def sFreeze (i : Nat) (m : SM) : SM := fun env => m (froze i env)
/-- name[ix] = a -/
def putAt : PV → PV → PV → Option PV
  | .list xs, .int k, p => (ixOf xs.length k).map fun j => .list (xs.set j p)
  | .dict tk kvs, k, p => if keyable tk k ∧ kvs.length < line then some (.dict tk (dPut kvs k p)) else none
  | _, _, _ => none
def sPut (i : Nat) (ix a : PX) : SM := fun env => liftR (a env) env fun p => match env[i]? with
  | some (.o b c) => liftR (ix env) env fun q => match putAt c q p with
    | some c' => .ok .next (env.set i (.o b c'))
    | none => .bad
  | _ => .bad

/-- raise c(l): an own class without own __init__; its arguments are not kept -/
def sRaise (c : String) (l : LX) : SM := fun env => liftR (l env) env fun _ => .exc ⟨c, []⟩ env

/-! ### expressions that may change what the frame holds -/
def bindM {α β : Type} (m : Env → Rs α) (f : α → Env → Rs β) : Env → Rs β := fun env => match m env with
  | .ok a e => f a e
  | .exc x e => .exc x e
  | .bad => .bad
def mP (a : PX) : MX := fun env => liftR (a env) env fun p => .ok p env
def mOpt {α : Type} (a : Option α) : Env → Rs α := fun env => match a with
  | some a => .ok a env
  | none => .bad
def mk1 (f : PV → Option PV) (a : MX) : MX := bindM a fun x => mOpt (f x)
def mk2 (f : PV → PV → Option PV) (a b : MX) : MX := bindM a fun x => bindM b fun y => mOpt (f x y)
def mNil : ML := fun env => .ok [] env
def mCons (a : MX) (l : ML) : ML := bindM a fun x => bindM l fun xs env => .ok (x :: xs) env
def mLst (l : ML) : MX := bindM l fun xs env => .ok (.list xs) env
def mTup (l : ML) : MX := bindM l fun xs env => .ok (.tuple xs) env
def mB (f : List PV → Option PV) (l : ML) : MX := bindM l fun xs => mOpt (f xs)
/-- a call of a function that changes nothing -/
def mCall (F : List PV → Rp PV) (l : ML) : MX := bindM l fun xs env => liftR (F xs) env fun p => .ok p env
def mtP (c : TX) : MT := fun env => liftR (c env) env fun k => .ok k env
def mtBool (a : MX) : MT := bindM a fun x => mOpt (match x with | .bool b => some b | _ => none)
def mIf (c : MT) (a b : MX) : MX := bindM c fun k => if k then a else b
def mtAnd (c d : MT) : MT := bindM c fun k => if k then d else fun env => .ok false env
def mtOr (c d : MT) : MT := bindM c fun k => if k then fun env => .ok true env else d
/-- an argument: a value, or a slot that is lent -/
inductive Arg where
  | x (a : PX) | io (j : Nat)
def argsM : List Arg → Env → Rp Env
  | [], _ => .ok []
  | .x a :: r, env => a env >>= fun p => argsM r env >>= fun e => .ok (.v p :: e)
  | .io j :: r, env => match env[j]? with
    | some (.o _ p) => argsM r env >>= fun e => .ok (.o true p :: e)
    | _ => .bad
def outsM : List Arg → Env → Env → Option Env
  | [], [], env => some env
  | .x _ :: r, _ :: e, env => outsM r e env
  | .io j :: r, .o _ q :: e, env => match env[j]? with
    | some (.o b _) => outsM r e (env.set j (.o b q))
    | _ => none
  | _, _, _ => none
/-- a call of a function that changes what it is lent -/
def mCallIO (F : Env → Rs PV) (as : List Arg) : MX := fun env => liftR (argsM as env) env fun ae => match F ae with
  | .ok c ae' => match outsM as ae' env with
    | some env' => .ok c env'
    | none => .bad
  | _ => .bad
/-- name.pop() -/
def mPop (i : Nat) : MX := fun env => match env[i]? with
  | some (.o b (.list xs)) => match xs.getLast? with
    | some p => .ok p (env.set i (.o b (.list xs.dropLast)))
    | none => .bad
  | _ => .bad
/-- name.pop(k) -/
def mPopAt (i : Nat) (a : MX) : MX := fun env => match env[i]? with
  | some (.o _ (.list _)) => bindM a (fun k env => match env[i]? with
    | some (.o b (.list xs)) => match k with
      | .int k => match ixOf xs.length k with
        | some j => match xs[j]? with
          | some p => .ok p (env.set i (.o b (.list (xs.eraseIdx j))))
          | none => .bad
        | none => .bad
      | _ => .bad
    | _ => .bad) env
  | _ => .bad
/-- a list comprehension whose parts may change what the frame holds -/
def compGoM (own : List Nat) (g : GX) (c : MT) (e : MX) : List PV → Env → Rs (List PV)
  | [], env => .ok [] (wipes env own)
  | x :: r, env => match g x with
    | none => .bad
    | some l => match c (puts (wipes env own) l) with
      | .ok true env2 => match e env2 with
        | .ok y env3 => match compGoM own g c e r env3 with
          | .ok ys env4 => .ok (y :: ys) env4
          | _ => .bad
        | _ => .bad
      | .ok false env2 => compGoM own g c e r env2
      | _ => .bad
def mComp (own : List Nat) (w : LX) (g : GX) (c : MT) (e : MX) : MX := fun env => liftR (w env) env fun xs => match compGoM own g c e xs env with
  | .ok ys env' => .ok (.list ys) env'
  | _ => .bad

/-! ### statements with such expressions -/
def sAsgM (a : MX) (g : GX) : SM := bindM a fun p env => liftR (ofOpt (g p)) env fun l => .ok .next (puts env l)
def sExprM (a : MX) : SM := bindM a fun _ env => .ok .next env
def sRetM (a : MX) : SM := bindM a fun p env => .ok (.ret p) env
def sIfM (c : MT) (a b : SM) : SM := bindM c fun k => if k then a else b
def sForM (w : ML) (g : GX) (b : SM) : SM := bindM w fun xs => forGo g b xs
def sOwnM (i : Nat) (a : MX) : SM := bindM a fun p env => .ok .next (env.set i (.o false p))
/-- i, j = two new things; i, j = a value, a new thing -/
def sParOO (i j : Nat) (a b : PX) : SM := fun env => liftR (a env) env fun p => liftR (b env) env fun q => .ok .next ((env.set i (.o false p)).set j (.o false q))
def sParMO (i j : Nat) (a : MX) (b : PX) : SM := bindM a fun p env => liftR (b env) env fun q => .ok .next ((env.set i (.v p)).set j (.o false q))
/-- name.append(a) -/
def sApp (i : Nat) (a : MX) : SM := fun env => match env[i]? with
  | some (.o _ (.list _)) => bindM a (fun p env => match env[i]? with
    | some (.o b (.list xs)) => if xs.length < line then .ok .next (env.set i (.o b (.list (xs ++ [p])))) else .bad
    | _ => .bad) env
  | _ => .bad

/-! ### functions -/
def outs : Env → Env → Option Env
  | [], _ => some []
  | .o true _ :: r, .o true q :: e => (outs r e).map (.o true q :: ·)
  | .v p :: r, _ :: e => (outs r e).map (.v p :: ·)
  | _, _ => none
/-- a function that changes what it is lent, by its body -/
def runIO (n : Nat) (b : SM) (args : Env) : Rs PV := match b (args ++ List.replicate (n - args.length) .no) with
  | .ok (.ret p) env => match outs args env with
    | some e => .ok p e
    | none => .bad
  | .ok .next env => match outs args env with
    | some e => .ok .none e
    | none => .bad
  | _ => .bad
def start (n : Nat) (args : List PV) : Env := args.map .v ++ List.replicate (n - args.length) .no
/-- a function that changes nothing, by its body -/
def runFn (n : Nat) (b : SM) (args : List PV) : Rp PV := match b (start n args) with
  | .ok (.ret p) _ => .ok p
  | .ok .next _ => .ok .none
  | .exc x _ => .exc x
  | _ => .bad
end Pv
end
section
set_option autoImplicit false
/-! More. -/
namespace Pv
open PySem (Str)
def maxI (x : Int) : List Int → Int
  | [] => x
  | y :: r => maxI (if y > x then y else x) r
def minI (x : Int) : List Int → Int
  | [] => x
  | y :: r => minI (if y < x then y else x) r
/-- max, min: of two integers, of a list of some -/
def fMax : List PV → Option PV
  | [.int i, .int j] => some (.int (if j > i then j else i))
  | [.list ps] => (intsOf ps).bind fun ns => match ns with
    | [] => none
    | n :: r => some (.int (maxI n r))
  | _ => none
def fMin : List PV → Option PV
  | [.int i, .int j] => some (.int (if j < i then j else i))
  | [.list ps] => (intsOf ps).bind fun ns => match ns with
    | [] => none
    | n :: r => some (.int (minI n r))
  | _ => none
def fSum : List PV → Option PV
  | [.list ps] => (intsOf ps).map fun ns => .int ns.sum
  | _ => none
def fStr : List PV → Option PV
  | [.int i] => if i.natAbs.log2 < 1920 then some (.str (Str.ofString (toString i))) else none
  | _ => none
end Pv
namespace Pv
def mtTruth (a : MX) : MT := bindM a fun x => mOpt (truth x)
def mtNot (c : MT) : MT := bindM c fun k env => .ok (!k) env
end Pv
namespace Pv
/-- a[::-1] of a list -/
def oRevL : PV → Option PV
  | .list ps => some (.list ps.reverse)
  | _ => none
/-- name.extend(a) -/
def sExt (i : Nat) (a : PX) : SM := fun env => match env[i]? with
  | some (.o b (.list xs)) => liftR (a env) env fun p => match p with
    | .list ys => if xs.length + ys.length ≤ line then .ok .next (env.set i (.o b (.list (xs ++ ys)))) else .bad
    | _ => .bad
  | _ => .bad
end Pv
namespace Pv
/-- name += a, of integers -/
def sAug (i : Nat) (f : PV → PV → Option PV) (a : PX) : SM := fun env => match env[i]? with
  | some (.v p) => liftR (a env) env fun q => liftR (ofOpt (f p q)) env fun c => .ok .next (env.set i (.v c))
  | _ => .bad
def oAddZ : PV → PV → Option PV
  | .int i, .int j => some (.int (i + j))
  | _, _ => none
def oSubZ : PV → PV → Option PV
  | .int i, .int j => some (.int (i - j))
  | _, _ => none
end Pv
namespace Pv
def fGcd : List PV → Option PV
  | [.int a, .int b] => some (.int ((Nat.gcd a.natAbs b.natAbs : Nat) : Int))
  | _ => none
end Pv
namespace Pv
/-- max(.., default=d) of some integers -/
def maxDI (d : Int) : List Int → Int
  | [] => d
  | n :: r => maxI n r
def fMaxD : PV → PV → Option PV
  | .tuple ps, .int d => (intsOf ps).map fun ns => .int (maxDI d ns)
  | _, _ => none
/-- max(..) of a tuple, too -/
def fMaxA : List PV → Option PV
  | [.tuple ps] => (intsOf ps).bind fun ns => match ns with
    | [] => none
    | n :: r => some (.int (maxI n r))
  | as => fMax as
/-- a list so many times -/
def oRepL (k : Int) : PV → Option PV
  | .list xs => if 0 ≤ k ∧ k < 1000 ∧ xs.length ≤ 1000 then some (.list (List.replicate k.toNat xs).flatten) else none
  | _ => none
/-- in, not in: of any data -/
def oInG (a b : PV) : Option PV := (seqOf b).bind fun xs => if flatTo 60 a && flatsTo 59 xs then some (.bool (xs.any fun z => eqv z a)) else none
def oNotInG (a b : PV) : Option PV := (seqOf b).bind fun xs => if flatTo 60 a && flatsTo 59 xs then some (.bool (!xs.any fun z => eqv z a)) else none
/-- in a tuple that the text tells -/
def oInC (xs : List PV) (a : PV) : Option PV := if flatTo 60 a && flatsTo 59 xs then some (.bool (xs.any fun z => eqv z a)) else none
def oNotInC (xs : List PV) (a : PV) : Option PV := if flatTo 60 a && flatsTo 59 xs then some (.bool (!xs.any fun z => eqv z a)) else none
end Pv
end
section
set_option autoImplicit false
set_option Elab.async false
set_option linter.all false
set_option maxRecDepth 100000
/-! Plain values in an abstract heap. -/
namespace Pv
open PySem PySem.Spec PyProof.Rows L2

/-! ### from heap to heap: tables of code objects may grow, all else stays -/
/-- the tables of code objects, and the name of what their makers make -/
class TN where
  T : List (Addr × Str)
variable [TN]
/-- what becomes of the object o at b -/
def Stay (H H' : Hp) (b : Addr) : HO → Prop
  | .tbl _ => (∃ qs, H' b = some (.tbl qs)) ∧ ∀ q, (b, q) ∈ TN.T → LamX.TabS H b q → LamX.TabS H' b q
  | o => H' b = some o
def Same (H H' : Hp) : Prop := ∀ b o, H b = some o → Stay H H' b o
theorem Stay.refl {H : Hp} {b : Addr} {o : HO} (h : H b = some o) : Stay H H b o := by
  cases o <;> first | exact h | exact ⟨⟨_, h⟩, fun _ _ t => t⟩
theorem Stay.live {H H' : Hp} {b : Addr} {o : HO} (h : Stay H H' b o) : H' b ≠ none := by
  cases o <;> first | (obtain ⟨⟨_, e⟩, _⟩ := h; rw [e]; exact Option.some_ne_none _) | (have h' : H' b = some _ := h; rw [h']; exact Option.some_ne_none _)
theorem Stay.trans {H H1 H2 : Hp} {b : Addr} {o : HO} (h : Stay H H1 b o) (g : ∀ u, H1 b = some u → Stay H1 H2 b u) : Stay H H2 b o := by
  cases o <;> first | exact g _ h | (obtain ⟨⟨qs, e⟩, t⟩ := h; have r : Stay H1 H2 b (.tbl qs) := g _ e; exact ⟨r.1, fun q m z => r.2 q m (t q m z)⟩)
theorem Stay.same {H H1 H2 : Hp} {b : Addr} {o : HO} (h : Stay H H1 b o) (s : Same H1 H2) : Stay H H2 b o := h.trans fun u q => s b u q
/-- an object other than a table -/
def NT : HO → Prop
  | .tbl _ => False
  | _ => True
theorem Stay.eq {H H' : Hp} {b : Addr} {o : HO} (h : Stay H H' b o) (n : NT o) : H' b = some o := by
  cases o <;> first | exact n.elim | exact h
theorem Stay.of {H H' : Hp} {b : Addr} {o : HO} (n : NT o) (h : H' b = some o) : Stay H H' b o := by
  cases o <;> first | exact n.elim | exact h
/-- all is kept -/
theorem Same.of {H H' : Hp} (e : L2.Same H H') : Same H H' := fun b o h => by
  cases o <;> first | exact e _ _ h | exact ⟨⟨_, e _ _ h⟩, fun q _ t => t.ext e⟩
theorem Same.refl (H : Hp) : Same H H := fun _ _ h => Stay.refl h
theorem Same.trans {H H1 H2 : Hp} (a : Same H H1) (b : Same H1 H2) : Same H H2 := fun c o h => (a c o h).trans fun u q => b c u q
theorem Same.free {H H' : Hp} (e : Same H H') {l : Addr} (h : H' l = Option.none) : H l = Option.none := by
  cases q : H l with
  | none => rfl
  | some o => exact absurd h (e _ _ q).live
theorem Same.rd {H H' : Hp} (e : Same H H') {a : Addr} {u : HO} (n : NT u) (h : Rd H a u) : Rd H' a u := by
  rcases h with h | ⟨o, h⟩
  · exact .inl ((e _ _ h).eq n)
  · exact .inr ⟨o, (e _ _ h).eq True.intro⟩
theorem Same.seq {K : PySem.W.Frag} {H H' : Hp} {a : Addr} {xs : List V} (e : Same H H') (h : SqL K H a xs) : SqL K H' a xs := h.elim (fun h => .inl (e.rd True.intro h)) .inr
theorem Same.tab {H H' : Hp} (e : Same H H') {P : Addr} {q : Str} (m : (P, q) ∈ TN.T) (t : LamX.TabS H P q) : LamX.TabS H' P q := by
  have t' := t
  obtain ⟨ps, h, _⟩ := t
  have r : Stay H H' P (.tbl ps) := e _ _ h
  exact r.2 q m t'
theorem Same.tabs {H H' : Hp} (e : Same H H') (t : LamX.Tabs TN.T H) : LamX.Tabs TN.T H' := fun p hp => e.tab hp (t p hp)

/-- neither a table nor a thing told by a word of its own -/
def Pl : HO → Prop
  | .tbl _ => False
  | .ext _ => False
  | _ => True
theorem tabS_upd {H : Hp} {D : Addr} {u o : HO} (h : H D = some u) (n : Pl u) {P : Addr} {q : Str} (t : LamX.TabS H P q) : LamX.TabS (upd H D o) P q := by
  obtain ⟨ps, h1, h2, h3⟩ := t
  refine ⟨ps, ?_, h2, fun pos cv hc => ?_⟩
  · rw [upd_ne]; exact h1
    rintro rfl; rw [h] at h1; cases h1; exact n
  · obtain ⟨c, e1, e2⟩ := h3 pos cv hc
    refine ⟨c, e1, ?_⟩
    rw [upd_ne]; exact e2
    rintro rfl; rw [h] at e2; cases e2; exact n
theorem tabs_upd {H : Hp} {D : Addr} {u o : HO} (h : H D = some u) (n : Pl u) {T : List (Addr × Str)} (t : LamX.Tabs T H) : LamX.Tabs T (upd H D o) := fun p hp => tabS_upd h n (t p hp)
theorem stay_upd {H : Hp} {D a : Addr} {u o v : HO} (h : H D = some u) (n : Pl u) (q : H a = some v) (ne : a ≠ D) : Stay H (upd H D o) a v := by
  have e : upd H D o a = some v := by rw [upd_ne ne]; exact q
  cases v <;> first | exact e | exact ⟨⟨_, e⟩, fun _ _ t => tabS_upd h n t⟩
/-- what is new since then is changed -/
theorem same_updN {H1 H4 : Hp} {D : Addr} {u o : HO} (s : Same H1 H4) (nD : H1 D = none) (h : H4 D = some u) (n : Pl u) : Same H1 (upd H4 D o) := fun a v q =>
  (s a v q).trans fun w r => stay_upd h n r fun e => by rw [e, nD] at q; cases q

/-! ### a plain value in the heap; A: the addresses that it must not lean on -/
/-- a lambda: its text, its maker's name, what it caught -/
structure LamD where
  params : Arguments
  body : Expr
  scope : Scope
  qual : Str
  cl : List (Str × Addr)
  dfl : Bool
/-- the frame of the program, its lambdas, its tables of code objects -/
structure Fr where
  K : PySem.W.Frag
  L : Nat → LamD
  C : Nat → List PV → Addr → List (Addr × HO) → Prop
instance : Coe Fr PySem.W.Frag := ⟨Fr.K⟩
/-- a lambda's record; dv: its defaults -/
def lamFd (l : LamD) (dv pm cdv ctv : Value) : FuncData := { PySem.W.kla_fn "<lambda>" l.qual l.params l.body l.scope l.cl pm cdv ctv with defaults := dv }
/-- the object of a lambda -/
def FnO (a : Addr) (l : LamD) (dv pm : Value) (c : Addr) (ctv : Value) : HO := .ext fun h => h.get? a = some { cls := .type "function", data := .func (lamFd l dv pm (.ref c) ctv) }
/-- its defaults: none, or 0 for its one parameter -/
def DvOk (A : Addr → Prop) (H : Hp) : Bool → Value → Prop
  | false, dv => dv = .none
  | true, dv => ∃ d, dv = .ref d ∧ ¬ A d ∧ H d = some (.tup [.int 0])
def KstL (K : PySem.W.Frag) (a : Addr) (xs : List V) : Prop :=
  ∃ (o : Obj) (its : Array Value) (n : Nat), K.lookup a = some o ∧ o.cls = .type "list" ∧ o.dict = none ∧ o.data = .seq its n ∧ its.size ≤ sizeLine ∧ Vals xs its.toList
def KstT (K : PySem.W.Frag) (a : Addr) (xs : List V) : Prop :=
  ∃ (o : Obj) (its : Array Value) (n : Nat), K.lookup a = some o ∧ o.cls = .type "tuple" ∧ o.data = .seq its n ∧ its.size ≤ sizeLine ∧ Vals xs its.toList
abbrev Av := Addr → Prop
abbrev St := L2.St
def LsA (K : Fr) (A : Av) (H : Hp) (a : Addr) (xs : List V) : Prop := (¬ A a ∧ Rd H a (.lst xs)) ∨ KstL K a xs
def TpA (K : Fr) (A : Av) (H : Hp) (a : Addr) (xs : List V) : Prop := ¬ A a ∧ H a = some (.tup xs)
mutual
def Rep (K : Fr) (A : Av) (H : Hp) : PV → V → Prop
  | .none, x => x = .non
  | .bool b, x => x = .bl b
  | .int i, x => x = .int i
  | .str s, x => x = .str s
  | .list ps, x => ∃ a xs, x = .ref a ∧ LsA K A H a xs ∧ Reps K A H ps xs ∧ ps.length ≤ line
  | .tuple ps, x => ∃ a xs, x = .ref a ∧ TpA K A H a xs ∧ Reps K A H ps xs ∧ ps.length ≤ line
  | .dict tk kvs, x => ∃ a, x = .ref a ∧ ¬ A a ∧ ((tk = false ∧ ∃ ks, Rd H a (.dK ks) ∧ RepK K A H kvs ks) ∨ (tk = true ∧ ∃ ks, Rd H a (.dT ks) ∧ RepT K A H kvs ks))
  | .fn i (q :: qs), x => ∃ a l, x = .ref a ∧ (∀ p ∈ l, ¬ A p.1 ∧ (∃ φ, p.2 = .ext φ) ∧ H p.1 = some p.2) ∧ K.C i (q :: qs) a l
  | .fn i [], x => ∃ a c dv pm ctv, x = .ref a ∧ ¬ A a ∧ ¬ A c ∧ H a = some (FnO a (K.L i) dv pm c ctv) ∧ H c = some (LamX.CodeO c (K.L i).qual) ∧ DvOk A H (K.L i).dfl dv
def Reps (K : Fr) (A : Av) (H : Hp) : List PV → List V → Prop
  | [], xs => xs = []
  | p :: ps, xs => ∃ x r, xs = x :: r ∧ Rep K A H p x ∧ Reps K A H ps r
def RepK (K : Fr) (A : Av) (H : Hp) : List (PV × PV) → List (Key × V) → Prop
  | [], ks => ks = []
  | (q, p) :: r, ks => ∃ k x s, ks = (k, x) :: s ∧ keyOf q = some k ∧ Rep K A H p x ∧ RepK K A H r s
def RepT (K : Fr) (A : Av) (H : Hp) : List (PV × PV) → List (List Key × V) → Prop
  | [], ks => ks = []
  | (q, p) :: r, ks => ∃ k x s, ks = (k, x) :: s ∧ tkeyOf q = some k ∧ Rep K A H p x ∧ RepT K A H r s
end
section
variable {K : Fr} {A A' : Av} {H H' : Hp}
theorem LsA.sq {a : Addr} {xs : List V} (h : LsA K A H a xs) : SqL K H a xs := h.elim (fun h => .inl h.2) .inr
theorem TpA.sq {a : Addr} {xs : List V} (h : TpA K A H a xs) : SqT K H a xs := .of h.2
theorem rd_step {a : Addr} {u : HO} (n : NT u) (hk : ∀ o, H a = some o → Stay H H' a o) (h : Rd H a u) : Rd H' a u := by
  rcases h with h | ⟨o, h⟩
  · exact .inl ((hk _ h).eq n)
  · exact .inr ⟨o, (hk _ h).eq True.intro⟩
theorem rd_some {a : Addr} {u : HO} (h : Rd H a u) : H a ≠ none := by
  rcases h with h | ⟨o, h⟩ <;> rw [h] <;> exact Option.some_ne_none _
/-- from one heap to the next: what is not avoided stands, what is newly avoided was not there -/
structure Ext (A A' : Av) (H H' : Hp) : Prop where
  av : ∀ a, A' a → A a ∨ H a = none
  kp : ∀ a o, H a = some o → ¬ A a → Stay H H' a o
theorem Ext.na (e : Ext A A' H H') {a : Addr} {u : HO} (h : ¬ A a) (r : Rd H a u) : ¬ A' a := fun z => (e.av a z).elim h fun n => rd_some r n
theorem Ext.rd (e : Ext A A' H H') {a : Addr} {u : HO} (h : ¬ A a) (r : Rd H a u) (n : NT u) : Rd H' a u := rd_step n (fun o q => e.kp a o q h) r
theorem LsA.ext {a : Addr} {xs : List V} (e : Ext A A' H H') (h : LsA K A H a xs) : LsA K A' H' a xs := h.elim (fun h => .inl ⟨e.na h.1 h.2, e.rd h.1 h.2 True.intro⟩) .inr
theorem TpA.ext {a : Addr} {xs : List V} (e : Ext A A' H H') (h : TpA K A H a xs) : TpA K A' H' a xs := ⟨fun z => (e.av a z).elim h.1 fun n => (by have h2 := h.2; rw [n] at h2; cases h2), e.kp a _ h.2 h.1⟩
theorem DvOk.ext {b : Bool} {dv : Value} (e : Ext A A' H H') (h : DvOk A H b dv) : DvOk A' H' b dv := by
  cases b with
  | false => exact h
  | true => obtain ⟨d, e1, n, h1⟩ := h; exact ⟨d, e1, e.na n (.inl h1), e.kp d _ h1 n⟩
mutual
theorem Rep.ext (e : Ext A A' H H') : ∀ {p : PV} {x : V}, Rep K A H p x → Rep K A' H' p x
  | .none, _, h => h
  | .bool _, _, h => h
  | .int _, _, h => h
  | .str _, _, h => h
  | .list ps, x, h => by
    rw [Rep] at h ⊢
    obtain ⟨a, xs, e1, hl, hr, hz⟩ := h
    exact ⟨a, xs, e1, hl.ext e, Reps.ext e hr, hz⟩
  | .tuple ps, x, h => by
    rw [Rep] at h ⊢
    obtain ⟨a, xs, e1, hl, hr, hz⟩ := h
    exact ⟨a, xs, e1, hl.ext e, Reps.ext e hr, hz⟩
  | .dict tk kvs, x, h => by
    rw [Rep] at h ⊢
    obtain ⟨a, e1, hn, ⟨ht, ks, r, q⟩ | ⟨ht, ks, r, q⟩⟩ := h
    · exact ⟨a, e1, e.na hn r, .inl ⟨ht, ks, e.rd hn r True.intro, RepK.ext e q⟩⟩
    · exact ⟨a, e1, e.na hn r, .inr ⟨ht, ks, e.rd hn r True.intro, RepT.ext e q⟩⟩
  | .fn i (q :: qs), x, h => by
    rw [Rep] at h ⊢
    obtain ⟨a, l, e1, h1, h2⟩ := h
    refine ⟨a, l, e1, fun p hp => ?_, h2⟩
    obtain ⟨n1, ⟨φ, n2⟩, n3⟩ := h1 p hp
    refine ⟨e.na n1 (.inl n3), ⟨φ, n2⟩, ?_⟩
    have := e.kp _ _ n3 n1
    rw [n2] at this ⊢
    exact this
  | .fn i [], x, h => by
    rw [Rep] at h ⊢
    obtain ⟨a, c, dv, pm, ctv, e1, n1, n2, h1, h2, h3⟩ := h
    exact ⟨a, c, dv, pm, ctv, e1, e.na n1 (.inl h1), e.na n2 (.inl h2), e.kp a _ h1 n1, e.kp c _ h2 n2, h3.ext e⟩
theorem Reps.ext (e : Ext A A' H H') : ∀ {ps : List PV} {xs : List V}, Reps K A H ps xs → Reps K A' H' ps xs
  | [], _, h => by rw [Reps] at h ⊢; exact h
  | p :: ps, xs, h => by
    rw [Reps] at h ⊢
    obtain ⟨x, r, e1, h1, h2⟩ := h
    exact ⟨x, r, e1, Rep.ext e h1, Reps.ext e h2⟩
theorem RepK.ext (e : Ext A A' H H') : ∀ {ps : List (PV × PV)} {xs : List (Key × V)}, RepK K A H ps xs → RepK K A' H' ps xs
  | [], _, h => by rw [RepK] at h ⊢; exact h
  | (q, p) :: ps, xs, h => by
    rw [RepK] at h ⊢
    obtain ⟨k, x, s, e1, hk, h1, h2⟩ := h
    exact ⟨k, x, s, e1, hk, Rep.ext e h1, RepK.ext e h2⟩
theorem RepT.ext (e : Ext A A' H H') : ∀ {ps : List (PV × PV)} {xs : List (List Key × V)}, RepT K A H ps xs → RepT K A' H' ps xs
  | [], _, h => by rw [RepT] at h ⊢; exact h
  | (q, p) :: ps, xs, h => by
    rw [RepT] at h ⊢
    obtain ⟨k, x, s, e1, hk, h1, h2⟩ := h
    exact ⟨k, x, s, e1, hk, Rep.ext e h1, RepT.ext e h2⟩
end
theorem Ext.same (s : Same H H') : Ext A A H H' := ⟨fun _ h => .inl h, fun a o h _ => s a o h⟩
theorem Rep.same {p : PV} {x : V} (h : Rep K A H p x) (s : Same H H') : Rep K A H' p x := h.ext (.same s)
theorem Reps.same {p : List PV} {x : List V} (h : Reps K A H p x) (s : Same H H') : Reps K A H' p x := Reps.ext (.same s) h
/-- fewer addresses are avoided -/
theorem Ext.less (h : ∀ a, A' a → A a) : Ext A A' H H := ⟨fun a x => .inl (h a x), fun _ _ q _ => Stay.refl q⟩
theorem Reps.length : ∀ {ps : List PV} {xs : List V}, Reps K A H ps xs → xs.length = ps.length
  | [], _, h => by rw [Reps] at h; subst h; rfl
  | p :: ps, xs, h => by
    rw [Reps] at h
    obtain ⟨x, r, rfl, h1, h2⟩ := h
    simp [Reps.length h2]
theorem Reps.get : ∀ {ps : List PV} {xs : List V} {i : Nat} {x : V}, Reps K A H ps xs → xs[i]? = some x → ∃ p, ps[i]? = some p ∧ Rep K A H p x
  | [], _, i, x, h, e => by rw [Reps] at h; subst h; simp at e
  | p :: ps, xs, i, x, h, e => by
    rw [Reps] at h
    obtain ⟨y, r, rfl, h1, h2⟩ := h
    cases i with
    | zero => simp at e; subst e; exact ⟨p, rfl, h1⟩
    | succ i => simpa using Reps.get (i := i) h2 (by simpa using e)
theorem Reps.get' : ∀ {ps : List PV} {xs : List V} {i : Nat} {p : PV}, Reps K A H ps xs → ps[i]? = some p → ∃ x, xs[i]? = some x ∧ Rep K A H p x
  | [], _, i, x, h, e => by simp at e
  | p :: ps, xs, i, x, h, e => by
    rw [Reps] at h
    obtain ⟨y, r, rfl, h1, h2⟩ := h
    cases i with
    | zero => simp at e; subst e; exact ⟨y, rfl, h1⟩
    | succ i => simpa using Reps.get' (i := i) h2 (by simpa using e)
theorem Reps.append : ∀ {ps qs : List PV} {xs ys : List V}, Reps K A H ps xs → Reps K A H qs ys → Reps K A H (ps ++ qs) (xs ++ ys)
  | [], qs, xs, ys, h, g => by rw [Reps] at h; subst h; exact g
  | p :: ps, qs, xs, ys, h, g => by
    rw [Reps] at h
    obtain ⟨y, r, rfl, h1, h2⟩ := h
    show Reps K A H (p :: (ps ++ qs)) (y :: (r ++ ys))
    rw [Reps]
    exact ⟨y, _, rfl, h1, Reps.append h2 g⟩
theorem Reps.nil : Reps K A H [] [] := by rw [Reps]
theorem Reps.cons {p : PV} {ps : List PV} {x : V} {xs : List V} (h : Rep K A H p x) (r : Reps K A H ps xs) : Reps K A H (p :: ps) (x :: xs) := by rw [Reps]; exact ⟨x, xs, rfl, h, r⟩
theorem Reps.one {p : PV} {x : V} (h : Rep K A H p x) : Reps K A H [p] [x] := .cons h .nil
theorem Reps.drop : ∀ {ps : List PV} {xs : List V} (n : Nat), Reps K A H ps xs → Reps K A H (ps.drop n) (xs.drop n)
  | _, _, 0, h => h
  | [], _, n + 1, h => by rw [Reps] at h; subst h; exact .nil
  | p :: ps, xs, n + 1, h => by
    rw [Reps] at h
    obtain ⟨y, r, rfl, h1, h2⟩ := h
    exact Reps.drop n h2
theorem Reps.take : ∀ {ps : List PV} {xs : List V} (n : Nat), Reps K A H ps xs → Reps K A H (ps.take n) (xs.take n)
  | _, _, 0, h => .nil
  | [], _, n + 1, h => by rw [Reps] at h; subst h; exact .nil
  | p :: ps, xs, n + 1, h => by
    rw [Reps] at h
    obtain ⟨y, r, rfl, h1, h2⟩ := h
    exact .cons h1 (Reps.take n h2)

/-! ### what a frame alone holds -/
def OwnAt (K : Fr) (A : Av) (H : Hp) : PV → Addr → Prop
  | .list ps, a => ∃ xs, H a = some (.lst xs) ∧ Reps K A H ps xs ∧ ps.length ≤ line
  | .dict tk kvs, a => (tk = false ∧ ∃ ks, H a = some (.dK ks) ∧ RepK K A H kvs ks) ∨ (tk = true ∧ ∃ ks, H a = some (.dT ks) ∧ RepT K A H kvs ks)
  | _, _ => False
theorem OwnAt.same {p : PV} {a : Addr} (h : OwnAt K A H p a) (s : Same H H') : OwnAt K A H' p a := by
  cases p with
  | list ps => obtain ⟨xs, h1, h2, hz⟩ := h; exact ⟨xs, s _ _ h1, h2.same s, hz⟩
  | dict tk kvs =>
    rcases h with ⟨ht, xs, h1, h2⟩ | ⟨ht, xs, h1, h2⟩
    · exact .inl ⟨ht, xs, s _ _ h1, RepK.ext (.same s) h2⟩
    · exact .inr ⟨ht, xs, s _ _ h1, RepT.ext (.same s) h2⟩
  | _ => exact h.elim
theorem OwnAt.pl {p : PV} {a : Addr} (h : OwnAt K A H p a) : ∃ u, H a = some u ∧ Pl u := by
  cases p with
  | list ps => obtain ⟨xs, h1, _⟩ := h; exact ⟨_, h1, True.intro⟩
  | dict tk kvs =>
    rcases h with ⟨_, xs, h1, _⟩ | ⟨_, xs, h1, _⟩
    · exact ⟨_, h1, True.intro⟩
    · exact ⟨_, h1, True.intro⟩
  | _ => exact h.elim
/-- a value that is looked at: it may be the frame's own -/
def BRep (K : Fr) (A : Av) (H : Hp) (p : PV) (x : V) : Prop := Rep K A H p x ∨ ∃ a, x = .ref a ∧ OwnAt K A H p a
theorem BRep.same {p : PV} {x : V} (h : BRep K A H p x) (s : Same H H') : BRep K A H' p x := by
  rcases h with h | ⟨a, e, h⟩
  · exact .inl (h.same s)
  · exact .inr ⟨a, e, h.same s⟩
theorem BRep.list {ps : List PV} {x : V} (h : BRep K A H (.list ps) x) : ∃ a xs, x = .ref a ∧ SqL K H a xs ∧ Reps K A H ps xs := by
  rcases h with h | ⟨a, e, xs, h1, h2, _⟩
  · rw [Rep] at h
    obtain ⟨a, xs, e1, hl, hr, _⟩ := h
    exact ⟨a, xs, e1, hl.sq, hr⟩
  · exact ⟨a, xs, e, .of h1, h2⟩
theorem BRep.tuple {ps : List PV} {x : V} (h : BRep K A H (.tuple ps) x) : ∃ a xs, x = .ref a ∧ SqT K H a xs ∧ Reps K A H ps xs := by
  rcases h with h | ⟨a, e, h⟩
  · rw [Rep] at h
    obtain ⟨a, xs, e1, hl, hr, _⟩ := h
    exact ⟨a, xs, e1, hl.sq, hr⟩
  · exact h.elim
theorem BRep.llen {ps : List PV} {x : V} (h : BRep K A H (.list ps) x) : ps.length ≤ line := by
  rcases h with h | ⟨a, e, xs, h1, h2, h3⟩
  · rw [Rep] at h
    obtain ⟨a, xs, e1, hl, hr, hz⟩ := h
    exact hz
  · exact h3
theorem BRep.tlen {ps : List PV} {x : V} (h : BRep K A H (.tuple ps) x) : ps.length ≤ line := by
  rcases h with h | ⟨a, e, h⟩
  · rw [Rep] at h
    obtain ⟨a, xs, e1, hl, hr, hz⟩ := h
    exact hz
  · exact h.elim
theorem BRep.int {i : Int} {x : V} (h : BRep K A H (.int i) x) : x = .int i := by
  rcases h with h | ⟨a, e, h⟩
  · rw [Rep] at h; exact h
  · exact h.elim
theorem BRep.bool {i : Bool} {x : V} (h : BRep K A H (.bool i) x) : x = .bl i := by
  rcases h with h | ⟨a, e, h⟩
  · rw [Rep] at h; exact h
  · exact h.elim
theorem BRep.none {x : V} (h : BRep K A H .none x) : x = .non := by
  rcases h with h | ⟨a, e, h⟩
  · rw [Rep] at h; exact h
  · exact h.elim
theorem BRep.str {i : Str} {x : V} (h : BRep K A H (.str i) x) : x = .str i := by
  rcases h with h | ⟨a, e, h⟩
  · rw [Rep] at h; exact h
  · exact h.elim
/-- a new object -/
theorem same_new {p : Addr} (h : H p = Option.none) (o : HO) : Same H (upd H p o) := .of fun b u q => by rw [upd_ne (ne_of_none q h)]; exact q
theorem na_new (hl : ∀ a, A a → H a ≠ Option.none) {p : Addr} (h : H p = Option.none) : ¬ A p := fun z => hl p z h
theorem rep_newT (hl : ∀ a, A a → H a ≠ Option.none) {p : Addr} (h : H p = Option.none) {ps : List PV} {xs : List V} (r : Reps K A H ps xs) (hz : ps.length ≤ line) : Rep K A (upd H p (.tup xs)) (.tuple ps) (.ref p) := by
  rw [Rep]
  exact ⟨p, xs, rfl, ⟨na_new hl h, upd_same⟩, r.same (same_new h _), hz⟩
theorem rep_newL (hl : ∀ a, A a → H a ≠ Option.none) {p : Addr} (h : H p = Option.none) {ps : List PV} {xs : List V} (r : Reps K A H ps xs) (hz : ps.length ≤ line) : Rep K A (upd H p (.lst xs)) (.list ps) (.ref p) := by
  rw [Rep]
  exact ⟨p, xs, rfl, .inl ⟨na_new hl h, .inl upd_same⟩, r.same (same_new h _), hz⟩
end

/-! ### the tables, and what is avoided -/
structure TbOk (A : Av) (H : Hp) : Prop where
  tabs : LamX.Tabs TN.T H
  nc : ∀ a q, A a → H a ≠ some (LamX.CodeO a q)
theorem Pl.nc {u : HO} (n : Pl u) {c : Addr} {q : Str} : u ≠ LamX.CodeO c q := fun z => by subst z; exact n
theorem TbOk.same {A : Av} {H H' : Hp} (t : TbOk A H) (l : ∀ a, A a → H a ≠ none) (s : Same H H') : TbOk A H' := ⟨s.tabs t.tabs, fun a q z e => by
  cases ha : H a with
  | none => exact l a z ha
  | some u =>
    have st := s a u ha
    cases u <;> first | exact t.nc a q z (ha.trans (Eq.trans (Eq.symm (show H' a = some _ from st)) e)) | (obtain ⟨⟨qs, st'⟩, _⟩ := st; rw [st'] at e; exact LamX.codeO_ne qs (Option.some.inj e).symm)⟩
theorem TbOk.less {A A' : Av} {H : Hp} (t : TbOk A H) (h : ∀ a, A' a → A a) : TbOk A' H := ⟨t.tabs, fun a q z => t.nc a q (h a z)⟩
theorem TbOk.add {A A' : Av} {H : Hp} {D : Addr} (t : TbOk A H) (hD : ∀ q, H D ≠ some (LamX.CodeO D q)) (h : ∀ a, A' a → A a ∨ a = D) : TbOk A' H := ⟨t.tabs, fun a q z => (h a z).elim (t.nc a q) fun e => by rw [e]; exact hD q⟩
theorem TbOk.upd {A : Av} {H : Hp} {D : Addr} {u o : HO} (t : TbOk A H) (hD : H D = some u) (n : Pl u) (no : ∀ q, o ≠ LamX.CodeO D q) : TbOk A (upd H D o) := ⟨tabs_upd hD n t.tabs, fun a q z e => by
  by_cases ha : a = D
  · rw [ha, upd_same] at e; exact no q (Option.some.inj e)
  · rw [upd_ne ha] at e; exact t.nc a q z e⟩
theorem pl_nc {H : Hp} {D : Addr} {u : HO} (h : H D = some u) (n : Pl u) : ∀ q, H D ≠ some (LamX.CodeO D q) := fun q e => by rw [h] at e; exact n.nc (Option.some.inj e)
/-! ### the slots -/
structure SRep (K : Fr) (A : Av) (σ : St) (H : Hp) (env : Env) : Prop where
  live : ∀ a, A a → H a ≠ none
  len : σ.length = env.length
  slot : ∀ (i : Nat) (p : PV), env[i]? = some (.v p) → ∃ x, σ[i]? = some (some x) ∧ Rep K A H p x
  own : ∀ (i : Nat) (b : Bool) (p : PV), env[i]? = some (.o b p) → ∃ a, σ[i]? = some (some (.ref a)) ∧ OwnAt K A H p a
  tabs : TbOk A H
section
variable {K : Fr} {A A' : Av} {H H' : Hp} {σ : St} {env : Env}
theorem same_live (s : Same H H') (h : ∀ a, A a → H a ≠ none) : ∀ a, A a → H' a ≠ none := fun a z n => h a z (s.free n)
theorem SRep.same (h : SRep K A σ H env) (s : Same H H') : SRep K A σ H' env :=
  ⟨same_live s h.live, h.len, fun i p e => let ⟨x, h1, h2⟩ := h.slot i p e; ⟨x, h1, h2.same s⟩, fun i b p e => let ⟨x, h1, h2⟩ := h.own i b p e; ⟨x, h1, h2.same s⟩, h.tabs.same h.live s⟩
end

/-! ### contexts -/
structure Gm where
  P : Program
  w : World
  F : Fr
  mg : Str → Option Value
  base : Heap
  cls : String → Value
abbrev Gm.K (G : Gm) : PySem.W.Frag := G.F.K
/-- what all contexts of a family share -/
structure Sits (G : Gm) {ι : Type} (X : ι → Cx) (k : Nat) (W : WX) : Prop where
  P : ∀ i, (X i).prog = G.P
  w : ∀ i, (X i).w = G.w
  K : ∀ i, (X i).K = G.K
  mg : ∀ i, (X i).mg = G.mg
  base : ∀ i, (X i).base = G.base
  calm : ∀ i, (X i).calm = true
  room : ∀ i, Room k (X i).A
  takes : ∀ i, Takes (X i) W
  nd : ∀ i, (X i).N.Nodup
  pass : ∀ i, PassesOwn (model (X i).prog (X i).w) (X i).A (X i).env (X i).xe

/-- how an exception's fields lie -/
def ExcRep (K : Fr) (A : Av) (H : Hp) (d : Option Addr) (fs : List (String × PV)) : Prop :=
  fs ≠ [] → ∃ a m, d = some a ∧ ¬ A a ∧ H a = some (.xd m) ∧ ∀ f p, (f, p) ∈ fs → ∃ v, m.lookup (Str.ofString f) = some v ∧ Rep K A H p v
/-- what is asked behind an expression, by its outcome -/
def XEnd (G : Gm) (A : Av) (W : WX) (σ : St) (H : Hp) (R : PV → V → Hp → Prop) (Q : VK) : Rp PV → Prop
  | .ok c => ∀ x H', Same H H' → R c x H' → Q x H'
  | .exc e => ∀ d H', Same H H' → ExcRep G.F A H' d e.flds → W (G.cls e.cls) d σ H'
  | .bad => False
/-- an expression: its value looked at (BRep) or kept (Rep) -/
def XJ (G : Gm) {ι : Type} (X : ι → Cx) (W : WX) (R : Fr → Av → Hp → PV → V → Prop) (e : Expr) (p : PX) : Prop :=
  ∃ t : TE, (∀ i, PE (X i) e t) ∧ ∀ A σ H env Q, SRep G.F A σ H env → XEnd G A W σ H (fun c x H' => R G.F A H' c x) Q (p env) → t σ H Q
def TEnd (G : Gm) (A : Av) (W : WX) (σ : St) (H : Hp) (Q : Bool → Hp → Prop) : Rp Bool → Prop
  | .ok c => ∀ H', Same H H' → Q c H'
  | .exc e => ∀ d H', Same H H' → ExcRep G.F A H' d e.flds → W (G.cls e.cls) d σ H'
  | .bad => False
/-- a test -/
def TJ (G : Gm) {ι : Type} (X : ι → Cx) (W : WX) (e : Expr) (p : TX) : Prop :=
  ∃ t : TT, (∀ i, PT (X i) e t) ∧ ∀ A σ H env Q, SRep G.F A σ H env → TEnd G A W σ H Q (p env) → t σ H Q
def AllR (R : PV → V → Prop) : List PV → List V → Prop
  | [], xs => xs = []
  | p :: ps, xs => ∃ x r, xs = x :: r ∧ R p x ∧ AllR R ps r
def LEnd (G : Gm) (A : Av) (W : WX) (σ : St) (H : Hp) (R : PV → V → Hp → Prop) (Q : List V → Hp → Prop) : Rp (List PV) → Prop
  | .ok cs => ∀ xs H', Same H H' → AllR (fun p x => R p x H') cs xs → Q xs H'
  | .exc e => ∀ d H', Same H H' → ExcRep G.F A H' d e.flds → W (G.cls e.cls) d σ H'
  | .bad => False
/-- arguments -/
def AJ (G : Gm) {ι : Type} (X : ι → Cx) (W : WX) (R : Fr → Av → Hp → PV → V → Prop) (es : List Expr) (p : LX) : Prop :=
  ∃ t : TA, (∀ i, PA (X i) es t) ∧ ∀ A σ H env Q, SRep G.F A σ H env → LEnd G A W σ H (fun c x H' => R G.F A H' c x) Q (p env) → t σ H Q

section
variable {G : Gm} {ι : Type} {X : ι → Cx} {k : Nat} {W : WX} {e a b c : Expr} {pa pb pc : PX} {pos : Pos}
theorem XJ.br {p : PX} (h : XJ G X W Rep e p) : XJ G X W BRep e p := by
  obtain ⟨t, ht, hs⟩ := h
  refine ⟨t, ht, fun A σ H env Q S q => hs A σ H env Q S ?_⟩
  revert q
  cases p env with
  | ok c => exact fun q x H' s r => q x H' s (.inl r)
  | exc x => exact fun q => q
  | bad => exact fun q => q
theorem ExcRep.same {K : Fr} {A : Av} {H H' : Hp} {d : Option Addr} {fs : List (String × PV)} (h : ExcRep K A H d fs) (s : Same H H') : ExcRep K A H' d fs := fun n =>
  let ⟨a, m, h1, h2, h3, h4⟩ := h n
  ⟨a, m, h1, h2, s _ _ h3, fun f p z => let ⟨v, q1, q2⟩ := h4 f p z; ⟨v, q1, q2.same s⟩⟩

/-! ### names and constants -/
theorem x_var {i : Nat} {x : Str} (hN : ∀ j, (X j).N[i]? = some x) (hv : ∀ j, Vis (X j).env.scope x) (hd : (x == ("__debug__" : Str)) = false := by decide) (hcd : (x == ("__classdict__" : Str)) = false := by decide) :
    XJ G X W Rep (.Name x pos) (pVar i) := by
  refine ⟨tVar i, fun j => pe_var (hN j) (hv j) hd hcd, fun A σ H env Q S q => ?_⟩
  unfold pVar at q
  cases h : env[i]? with
  | none => rw [h] at q; exact q.elim
  | some s =>
    cases s with
    | no => rw [h] at q; exact q.elim
    | o b p => rw [h] at q; exact q.elim
    | v p =>
      rw [h] at q
      obtain ⟨x, h1, h2⟩ := S.slot i p h
      exact ⟨x, h1, q x H (Same.refl H) h2⟩
theorem x_bor {i : Nat} {x : Str} (hN : ∀ j, (X j).N[i]? = some x) (hv : ∀ j, Vis (X j).env.scope x) (hd : (x == ("__debug__" : Str)) = false := by decide) (hcd : (x == ("__classdict__" : Str)) = false := by decide) :
    XJ G X W BRep (.Name x pos) (pBor i) := by
  refine ⟨tVar i, fun j => pe_var (hN j) (hv j) hd hcd, fun A σ H env Q S q => ?_⟩
  unfold pBor at q
  cases h : env[i]? with
  | none => rw [h] at q; exact q.elim
  | some s =>
    cases s with
    | no => rw [h] at q; exact q.elim
    | o b p =>
      rw [h] at q
      obtain ⟨x, h1, h2⟩ := S.own i b p h
      exact ⟨_, h1, q _ H (Same.refl H) (.inr ⟨x, rfl, h2⟩)⟩
    | v p =>
      rw [h] at q
      obtain ⟨x, h1, h2⟩ := S.slot i p h
      exact ⟨x, h1, q x H (Same.refl H) (.inl h2)⟩
theorem x_const {v : V} {p : PV} (h : ∀ i, PE (X i) e (tC v)) (r : ∀ K A H, Rep K A H p v) : XJ G X W Rep e (pC p) :=
  ⟨tC v, h, fun A σ H env Q S q => q v H (Same.refl H) (r _ _ _)⟩
theorem x_int {i : Int} {j : Nat} : XJ G X W Rep (.Constant (.int i) j pos) (pC (.int i)) := x_const (fun _ => pe_int) fun _ _ _ => by rw [Rep]
theorem x_bl {i : Bool} {j : Nat} : XJ G X W Rep (.Constant (.bool i) j pos) (pC (.bool i)) := x_const (fun _ => pe_bl) fun _ _ _ => by rw [Rep]
theorem x_non {j : Nat} : XJ G X W Rep (.Constant .none j pos) (pC .none) := x_const (fun _ => pe_non) fun _ _ _ => by rw [Rep]
theorem x_str {i : Str} {j : Nat} : XJ G X W Rep (.Constant (.str i) j pos) (pC (.str i)) := x_const (fun _ => pe_str) fun _ _ _ => by rw [Rep]
/-- a module's number -/
theorem x_gint {x : Str} {i : Int} {t : Tok} (S : Sits G X k W) (hg : ∀ j, Gl (X j) x) (hm : G.mg x = some (.int i t)) (hd : (x == ("__debug__" : Str)) = false := by decide) : XJ G X W Rep (.Name x pos) (pC (.int i)) :=
  x_const (v := .int i) (fun j => pe_glob (hg j) (by rw [S.mg j]; exact hm) ⟨t, rfl⟩ hd) fun _ _ _ => by rw [Rep]

/-! ### operators -/
/-- an operator upon values, in the heap -/
def OpJ (G : Gm) (r : R2) (f : PV → PV → Option PV) : Prop := ∀ (A : Av) (H : Hp) (a b c : PV) (x y : V), (∀ a, A a → H a ≠ none) → BRep G.F A H a x → BRep G.F A H b y → f a b = some c → ∀ Q : VK, (∀ z H', Same H H' → Rep G.F A H' c z → Q z H') → r x y H Q
/-- two parts one behind the other -/
theorem two {ta tb : TE} {A : Av} {σ : St} {H : Hp} {env : Env} {Q : VK} {r : R2} {f : PV → PV → Option PV} (ha : ∀ Q, XEnd G A W σ H (fun c x H' => BRep G.F A H' c x) Q (pa env) → ta σ H Q)
    (hb : ∀ H1, Same H H1 → ∀ Q, XEnd G A W σ H1 (fun c x H' => BRep G.F A H' c x) Q (pb env) → tb σ H1 Q) (hl : ∀ a, A a → H a ≠ none) (hr : OpJ G r f)
    (q : XEnd G A W σ H (fun c x H' => Rep G.F A H' c x) Q (p2 f pa pb env)) : ta σ H fun x H1 => tb σ H1 fun y H2 => r x y H2 Q := by
  refine ha _ ?_
  unfold p2 at q
  cases ea : pa env with
  | bad => rw [ea] at q; exact q.elim
  | exc x => rw [ea] at q; exact q
  | ok u =>
    rw [ea] at q
    intro x H1 s1 r1
    refine hb H1 s1 _ ?_
    simp only [Rp.ok_bind] at q
    cases eb : pb env with
    | bad => rw [eb] at q; exact q.elim
    | exc x => rw [eb] at q; exact fun d H' s => q d H' (s1.trans s)
    | ok v =>
      rw [eb] at q
      simp only [Rp.ok_bind] at q
      intro y H2 s2 r2
      cases ef : f u v with
      | none => rw [ef] at q; exact q.elim
      | some c =>
        rw [ef] at q
        exact hr A H2 u v c x y (same_live (s1.trans s2) hl) (r1.same s2) r2 ef Q fun z H' s => q z H' (s1.trans (s2.trans s))
theorem x_op {op : Operator} {r : R2} {f : PV → PV → Option PV} (hr : OpJ G r f) (ho : ∀ i, OpR (X i) (binaryOp op) r) (ha : XJ G X W BRep a pa) (hb : XJ G X W BRep b pb) : XJ G X W Rep (.BinOp a op b pos) (p2 f pa pb) := by
  obtain ⟨ta, h1, h2⟩ := ha
  obtain ⟨tb, h3, h4⟩ := hb
  exact ⟨_, fun i => pe_op (ho i) (h1 i) (h3 i), fun A σ H env Q S q => two (fun Q z => h2 A σ H env Q S z) (fun H1 s Q z => h4 A σ H1 env Q (S.same s) z) S.live hr q⟩
theorem x_cmp {op : CmpOp} {r : R2} {f : PV → PV → Option PV} (hr : OpJ G r f) (ho : ∀ i, OpR (X i) (compareOp op) r) (ha : XJ G X W BRep a pa) (hb : XJ G X W BRep b pb) (hm : behindInMarks op b = false) : XJ G X W Rep (.Compare a [op] [b] pos) (p2 f pa pb) := by
  obtain ⟨ta, h1, h2⟩ := ha
  obtain ⟨tb, h3, h4⟩ := hb
  exact ⟨_, fun i => pe_cmpR (ho i) (h1 i) (h3 i) hm, fun A σ H env Q S q => two (fun Q z => h2 A σ H env Q S z) (fun H1 s Q z => h4 A σ H1 env Q (S.same s) z) S.live hr q⟩
theorem x_ix {r : R2} {f : PV → PV → Option PV} (hr : OpJ G r f) (ho : ∀ i, IxR (X i) r) (ha : XJ G X W BRep a pa) (hb : XJ G X W BRep b pb) (hs : PlainIx b) : XJ G X W Rep (.Subscript a b pos) (p2 f pa pb) := by
  obtain ⟨ta, h1, h2⟩ := ha
  obtain ⟨tb, h3, h4⟩ := hb
  exact ⟨_, fun i => pe_ix (ho i) (h1 i) (h3 i) hs, fun A σ H env Q S q => two (fun Q z => h2 A σ H env Q S z) (fun H1 s Q z => h4 A σ H1 env Q (S.same s) z) S.live hr q⟩
theorem OpJ.or {r r' : R2} {f f' : PV → PV → Option PV} (h : OpJ G r f) (h' : OpJ G r' f') : OpJ G (fun x y H Q => r x y H Q ∨ r' x y H Q) (fun a b => (f a b).or (f' a b)) := by
  intro A H a b c x y hl ra rb e Q q
  cases ef : f a b with
  | some d =>
    simp only [ef] at e
    exact .inl (h A H a b c x y hl ra rb (ef.trans e) Q q)
  | none =>
    simp only [ef] at e
    exact .inr (h' A H a b c x y hl ra rb e Q q)
end
end Pv
end
section
set_option autoImplicit false
set_option Elab.async false
set_option linter.all false
set_option maxRecDepth 100000
namespace Pv
open PySem PySem.Spec PyProof.Rows L2
variable [TN]

/-! ### operators: what they make of values in the heap -/
section
variable {G : Gm}
theorem j_int {r : R2} {f : PV → PV → Option PV} (g : Int → Int → Option PV) (hf : ∀ a b c, f a b = some c → ∃ i j, a = .int i ∧ b = .int j ∧ g i j = some c)
    (hr : ∀ (i j : Int) (c : PV) (H : Hp) (Q : VK), g i j = some c → (∀ z H', Same H H' → (∀ K A, Rep K A H' c z) → Q z H') → r (.int i) (.int j) H Q) : OpJ G r f := by
  intro A H a b c x y hl ra rb e Q q
  obtain ⟨i, j, rfl, rfl, eg⟩ := hf a b c e
  have ex := ra.int
  have ey := rb.int
  subst ex ey
  exact hr i j c H Q eg fun z H' s rr => q z H' s (rr _ _)
theorem rInt (i : Int) : ∀ H K A, Rep K A H (.int i) (.int i) := fun _ _ _ => by rw [Rep]
theorem rBool (i : Bool) : ∀ H K A, Rep K A H (.bool i) (.bl i) := fun _ _ _ => by rw [Rep]
theorem j_addI : OpJ G (rI0 fun i j => .int (i + j)) oAddI := by
  refine j_int (fun i j => some (.int (i + j))) (fun a b c h => ?_) (fun i j c H Q h q => ?_)
  · unfold oAddI at h; split at h <;> first | exact ⟨_, _, rfl, rfl, h⟩ | cases h
  · cases h; exact ⟨i, j, rfl, rfl, q _ H (Same.refl H) (rInt _ H)⟩
theorem j_sub : OpJ G (rI0 fun i j => .int (i - j)) oMinus := by
  refine j_int (fun i j => some (.int (i - j))) (fun a b c h => ?_) (fun i j c H Q h q => ?_)
  · unfold oMinus at h; split at h <;> first | exact ⟨_, _, rfl, rfl, h⟩ | cases h
  · cases h; exact ⟨i, j, rfl, rfl, q _ H (Same.refl H) (rInt _ H)⟩
theorem j_mulI : OpJ G (rI CMul fun i j => .int (i * j)) oMulI := by
  refine j_int (fun i j => if (-(2 ^ 64) < i ∧ i < 2 ^ 64) ∨ (-(2 ^ 64) < j ∧ j < 2 ^ 64) then some (.int (i * j)) else none) (fun a b c h => ?_) (fun i j c H Q h q => ?_)
  · unfold oMulI at h; split at h <;> first | exact ⟨_, _, rfl, rfl, h⟩ | cases h
  · by_cases hc : (-(2 ^ 64) < i ∧ i < 2 ^ 64) ∨ (-(2 ^ 64) < j ∧ j < 2 ^ 64)
    · rw [if_pos hc] at h; cases h; exact ⟨i, j, rfl, rfl, hc, q _ H (Same.refl H) (rInt _ H)⟩
    · rw [if_neg hc] at h; cases h
theorem j_div : OpJ G (rI CDiv fun i j => .int (i / j)) oDiv := by
  refine j_int (fun i j => if 0 < j ∧ j < 1073741824 then some (.int (i / j)) else none) (fun a b c h => ?_) (fun i j c H Q h q => ?_)
  · unfold oDiv at h; split at h <;> first | exact ⟨_, _, rfl, rfl, h⟩ | cases h
  · by_cases hc : 0 < j ∧ j < 1073741824
    · rw [if_pos hc] at h; cases h; exact ⟨i, j, rfl, rfl, hc, q _ H (Same.refl H) (rInt _ H)⟩
    · rw [if_neg hc] at h; cases h
theorem j_mod : OpJ G (rI (fun _ j => 0 < j) fun i j => .int (i % j)) oMod := by
  refine j_int (fun i j => if 0 < j then some (.int (i % j)) else none) (fun a b c h => ?_) (fun i j c H Q h q => ?_)
  · unfold oMod at h; split at h <;> first | exact ⟨_, _, rfl, rfl, h⟩ | cases h
  · by_cases hc : 0 < j
    · rw [if_pos hc] at h; cases h; exact ⟨i, j, rfl, rfl, hc, q _ H (Same.refl H) (rInt _ H)⟩
    · rw [if_neg hc] at h; cases h
theorem j_pow : OpJ G (rI CPow fun i j => .int (i ^ j.toNat)) oPow := by
  refine j_int (fun i j => if 0 ≤ j ∧ j ≤ 1000000 ∧ i.natAbs < 2 ^ 64 then some (.int (i ^ j.toNat)) else none) (fun a b c h => ?_) (fun i j c H Q h q => ?_)
  · unfold oPow at h; split at h <;> first | exact ⟨_, _, rfl, rfl, h⟩ | cases h
  · by_cases hc : 0 ≤ j ∧ j ≤ 1000000 ∧ i.natAbs < 2 ^ 64
    · rw [if_pos hc] at h; cases h; exact ⟨i, j, rfl, rfl, hc, q _ H (Same.refl H) (rInt _ H)⟩
    · rw [if_neg hc] at h; cases h
theorem j_shl : OpJ G (rI CPow fun i j => .int (i * 2 ^ j.toNat)) oShl := by
  refine j_int (fun i j => if 0 ≤ j ∧ j ≤ 1000000 ∧ i.natAbs < 2 ^ 64 then some (.int (i * 2 ^ j.toNat)) else none) (fun a b c h => ?_) (fun i j c H Q h q => ?_)
  · unfold oShl at h; split at h <;> first | exact ⟨_, _, rfl, rfl, h⟩ | cases h
  · by_cases hc : 0 ≤ j ∧ j ≤ 1000000 ∧ i.natAbs < 2 ^ 64
    · rw [if_pos hc] at h; cases h; exact ⟨i, j, rfl, rfl, hc, q _ H (Same.refl H) (rInt _ H)⟩
    · rw [if_neg hc] at h; cases h
theorem j_shr : OpJ G (rI (fun _ j => 0 ≤ j) fun i j => .int (i / 2 ^ j.toNat)) oShr := by
  refine j_int (fun i j => if 0 ≤ j then some (.int (i / 2 ^ j.toNat)) else none) (fun a b c h => ?_) (fun i j c H Q h q => ?_)
  · unfold oShr at h; split at h <;> first | exact ⟨_, _, rfl, rfl, h⟩ | cases h
  · by_cases hc : 0 ≤ j
    · rw [if_pos hc] at h; cases h; exact ⟨i, j, rfl, rfl, hc, q _ H (Same.refl H) (rInt _ H)⟩
    · rw [if_neg hc] at h; cases h
theorem j_cmp (p : Int → Int → Bool) : OpJ G (rI0 fun i j => .bl (p i j)) (cmpI p) := by
  refine j_int (fun i j => some (.bool (p i j))) (fun a b c h => ?_) (fun i j c H Q h q => ?_)
  · unfold cmpI at h; split at h <;> first | exact ⟨_, _, rfl, rfl, h⟩ | cases h
  · cases h; exact ⟨i, j, rfl, rfl, q _ H (Same.refl H) (rBool _ H)⟩

/-! #### sequences -/
def rCatS (K : PySem.W.Frag) : R2 := fun x y H Q => ∃ l b xs zs, x = .ref l ∧ y = .ref b ∧ SqL K H l xs ∧ SqL K H b zs ∧ xs.length + zs.length ≤ sizeLine ∧ ∀ p, H p = none → Q (.ref p) (upd H p (.lst (xs ++ zs)))
theorem op_catS {X : Cx} : OpR X (binaryOp .Add) (rCatS X.K) := by
  intro pins s σ H x y v u Q I rx ry h
  obtain ⟨l, b, xs, zs, rfl, rfl, ha, hb, hz, q⟩ := h
  cases rx
  cases ry
  obtain ⟨its, r1, ⟨o, n, ho, hc, hdn, hd⟩, _⟩ := I.list ha
  obtain ⟨its2, r2, ⟨o2, n2, ho2, hc2, hdn2, hd2⟩, _⟩ := I.list hb
  obtain ⟨cls, dd, data, sl⟩ := o
  obtain ⟨cls2, dd2, data2, sl2⟩ := o2
  simp only at hc hd hc2 hd2
  subst hc hd hc2 hd2
  have e : its.toArray ++ its2.toArray = (its ++ its2).toArray := by simp
  have hz' : its.length + its2.length ≤ sizeLine := by rw [← r1.length, ← r2.length]; exact hz
  refine concat_meets ⟨_, ho, rfl⟩ ⟨_, ho2, rfl⟩ noFill_list_add seq_list_add PySem.F.slot_list_add PySem.F.entry_list_add (PySem.F.args_list_add_2 _ _) (list_addW l b its.toArray its2.toArray n n2 dd dd2 sl sl2 (by simpa using hz')) ⟨ho, ho2, ?_⟩
  rw [e]
  refine ⟨.ref s.heap.objs.size, _, I.laid (t' := s.toks) (o := .lst (xs ++ zs)) (fun b ob q => Heap.get?_push_of_some _ q) (Nat.le_refl _) ?_, rfl, q _ (I.hok.fresh (Nat.le_refl _))⟩
  exact ⟨by rw [List.length_append]; exact hz, _, 0, r1.append r2, Heap.get?_push_size _ rfl⟩
theorem tuple_addW0 (l b : Addr) (items items2 : Array Value) (n n2 : Nat) (dd dd2 : Option Addr) (sl sl2 : Array (Option Value)) (hc0 : items.isEmpty = true) :
    Meets (Builtin.«tuple.__add__» ⟨[.ref l, .ref b], []⟩) (fun _ R s => s.heap.get? l = some { cls := .type "tuple", dict := dd, data := .seq items n, slots := sl } ∧ s.heap.get? b = some { cls := .type "tuple", dict := dd2, data := .seq items2 n2, slots := sl2 } ∧ R (.ok (.ret (Value.ref b))) { s with heap := s.heap, toks := s.toks }) :=
  .of_wp fun prog w A R s h => by obtain ⟨hp, g, d, tk, os⟩ := s; obtain ⟨hl, hb, h⟩ := h; have f1 := AutoSeq1.idx_int; have f2 := AutoSeq1.sub_tuple_tuple; have f3 := AutoSeq1.sub_list_list; have f4 := AutoSeq1.sub_tuple_list; have f5 := AutoSeq1.sub_list_tuple; wp_walk using wpAny_loadPart' hl, wpAny_loadPart' hb; exact ⟨_, rfl, h⟩
/-- t + u of tuples -/
def rCatTS (K : PySem.W.Frag) : R2 := fun x y H Q => ∃ a b xs ys, x = .ref a ∧ y = .ref b ∧ SqT K H a xs ∧ SqT K H b ys ∧ xs.length + ys.length ≤ sizeLine ∧
  (xs = [] → Q (.ref b) H) ∧ (xs ≠ [] → ys = [] → Q (.ref a) H) ∧ (xs ≠ [] → ys ≠ [] → ∀ p, H p = none → Q (.ref p) (upd H p (.tup (xs ++ ys))))
theorem op_catTS {X : Cx} : OpR X (binaryOp .Add) (rCatTS X.K) := by
  intro pins s σ H x y v u Q I rx ry h
  obtain ⟨a, b, xs, ys, rfl, rfl, ha, hb, hz, q0, q1, q2⟩ := h
  by_cases hx : xs = []
  · cases rx
    cases ry
    obtain ⟨its, r1, ⟨o, ho, hc, n, hd⟩, _⟩ := I.tuple ha
    obtain ⟨its2, r2, ⟨o2, ho2, hc2, n2, hd2⟩, _⟩ := I.tuple hb
    obtain ⟨cls, dd, data, sl⟩ := o
    obtain ⟨cls2, dd2, data2, sl2⟩ := o2
    simp only at hc hd hc2 hd2
    subst hc hd hc2 hd2
    have he : its = [] := r1.nil_iff.mpr hx
    refine concat_meets ⟨_, ho, rfl⟩ ⟨_, ho2, rfl⟩ noFill_tuple_add seq_tuple_add PySem.F.slot_tuple_add PySem.F.entry_tuple_add (PySem.F.args_tuple_add_2 _ _)
      (tuple_addW0 a b its.toArray its2.toArray n n2 dd dd2 sl sl2 (by simp [he])) ⟨ho, ho2, ?_⟩
    exact ⟨.ref b, H, I, rfl, q0 hx⟩
  · exact op_catT pins s σ H _ _ v u Q I rx ry ⟨a, b, xs, ys, rfl, rfl, ha, hb, hx, hz, q1 hx, q2 hx⟩
theorem line_eq : line = sizeLine := by rw [sizeLine_eq]; rfl
theorem j_catL : OpJ G (rCatS G.K) oCatL := by
  intro A H a b c x y hl ra rb e Q q
  unfold oCatL at e
  split at e
  · rename_i ps qs
    split at e
    · rename_i hz
      cases e
      obtain ⟨l, xs, rfl, h1, h2⟩ := ra.list
      obtain ⟨m, ys, rfl, h3, h4⟩ := rb.list
      exact ⟨l, m, xs, ys, rfl, rfl, h1, h3, by rw [h2.length, h4.length, ← line_eq]; exact hz, fun p hp => q _ _ (same_new hp _) (rep_newL hl hp (h2.append h4) (by rw [List.length_append]; exact hz))⟩
    · cases e
  · cases e
theorem j_catT : OpJ G (rCatTS G.K) oCatT := by
  intro A H a b c x y hl ra rb e Q q
  unfold oCatT at e
  split at e
  · rename_i ps qs
    split at e
    · rename_i hz
      cases e
      obtain ⟨l, xs, rfl, h1, h2⟩ := ra.tuple
      obtain ⟨m, ys, rfl, h3, h4⟩ := rb.tuple
      have tr : ∀ {p : PV} {x : V}, BRep G.F A H (.tuple ps) x → Rep G.F A H (.tuple ps) x := fun h => h.elim id fun ⟨_, _, z⟩ => z.elim
      have ra' : Rep G.F A H (.tuple ps) (.ref l) := ra.elim id fun ⟨_, _, z⟩ => z.elim
      have rb' : Rep G.F A H (.tuple qs) (.ref m) := rb.elim id fun ⟨_, _, z⟩ => z.elim
      refine ⟨l, m, xs, ys, rfl, rfl, h1, h3, by rw [h2.length, h4.length, ← line_eq]; exact hz, fun e => ?_, fun _ e => ?_, fun _ _ p hp => q _ _ (same_new hp _) (rep_newT hl hp (h2.append h4) (by rw [List.length_append]; exact hz))⟩
      · have : ps = [] := by
          have := h2.length
          rw [e] at this
          exact List.eq_nil_of_length_eq_zero this.symm
        subst this
        exact q _ H (Same.refl H) rb'
      · have : qs = [] := by
          have := h4.length
          rw [e] at this
          exact List.eq_nil_of_length_eq_zero this.symm
        subst this
        rw [List.append_nil] at q
        exact q _ H (Same.refl H) ra'
    · cases e
  · cases e
/-- + -/
def rAddAll (K : PySem.W.Frag) : R2 := fun x y H Q => rI0 (fun i j => .int (i + j)) x y H Q ∨ rCatS K x y H Q ∨ rCatTS K x y H Q
theorem j_add : OpJ G (rAddAll G.K) oAdd := j_addI.or (j_catL.or j_catT)
theorem op_addAll {X : Cx} : OpR X (binaryOp .Add) (rAddAll X.K) := op_add.or (op_catS.or op_catTS)

/-- * -/
theorem j_rep : OpJ G (rRepT G.K) oRepT := by
  intro A H a b c x y hl ra rb e Q q
  unfold oRepT at e
  split at e
  · rename_i ps k
    split at e
    · rename_i hz
      cases e
      obtain ⟨l, xs, rfl, h1, h2⟩ := ra.tuple
      have ey := rb.int
      subst ey
      have hx : xs ≠ [] := fun e => by have := h2.length; rw [e] at this; have := hz.2.2.1; simp at *; omega
      have fl : ∀ n : Nat, Reps G.F A H (List.replicate n ps).flatten (List.replicate n xs).flatten := fun n => by
        induction n with
        | zero => exact .nil
        | succ n ih => rw [List.replicate_succ, List.replicate_succ, List.flatten_cons, List.flatten_cons]; exact h2.append ih
      exact ⟨l, k, xs, rfl, rfl, h1, hx, hz.1, by omega, by rw [h2.length]; exact hz.2.2.2, fun p hp => q _ _ (same_new hp _) (rep_newT hl hp (fl _) (by rw [List.length_flatten, List.map_replicate, List.sum_replicate_nat]; exact Nat.le_trans (Nat.mul_le_mul (show k.toNat ≤ 1000 by omega) hz.2.2.2) (by decide)))⟩
    · cases e
  · cases e
def rMulAll (K : PySem.W.Frag) : R2 := fun x y H Q => rI CMul (fun i j => .int (i * j)) x y H Q ∨ rRepT K x y H Q
theorem j_mul : OpJ G (rMulAll G.K) oMul := j_mulI.or j_rep
theorem op_mulAll {X : Cx} : OpR X (binaryOp .Mult) (rMulAll X.K) := op_mul.or op_repT

/-! #### == -/
mutual
def toD : PV → PyData
  | .none => .none
  | .bool b => .bool b
  | .int i => .int i
  | .str s => .str s
  | .list xs => .list (toDs xs)
  | .tuple xs => .tuple (toDs xs)
  | .dict _ _ => .none
  | .fn _ _ => .none
def toDs : List PV → List PyData
  | [] => []
  | x :: xs => toD x :: toDs xs
end
mutual
theorem flat_dp {K : Fr} {A : Av} {H : Hp} : ∀ (n : Nat) (p : PV) (x : V), flatTo n p = true → BRep K A H p x → Dp K H x (toD p)
  | 0, _, _, h, _ => by simp [flatTo] at h
  | n + 1, .none, x, h, r => by rw [r.none]; exact .non
  | n + 1, .bool b, x, h, r => by rw [r.bool]; exact .bl b
  | n + 1, .int i, x, h, r => by rw [r.int]; exact .int i
  | n + 1, .str s, x, h, r => by rw [r.str]; exact .str s
  | n + 1, .list ps, x, h, r => by
    obtain ⟨a, xs, rfl, h1, h2⟩ := r.list
    exact .lst h1 (flats_dp n ps xs (by simpa [flatTo] using h) h2)
  | n + 1, .tuple ps, x, h, r => by
    obtain ⟨a, xs, rfl, h1, h2⟩ := r.tuple
    exact .tup h1 (flats_dp n ps xs (by simpa [flatTo] using h) h2)
  | n + 1, .dict _ _, x, h, r => by simp [flatTo] at h
  | n + 1, .fn _ _, x, h, r => by simp [flatTo] at h
theorem flats_dp {K : Fr} {A : Av} {H : Hp} : ∀ (n : Nat) (ps : List PV) (xs : List V), flatsTo n ps = true → Reps K A H ps xs → DpAll K H xs (toDs ps)
  | _, [], xs, _, r => by rw [Reps] at r; subst r; exact .nil
  | n, p :: ps, xs, h, r => by
    rw [Reps] at r
    obtain ⟨x, s, rfl, r1, r2⟩ := r
    simp only [flatsTo, Bool.and_eq_true] at h
    exact .cons (flat_dp n p x h.1 (.inl r1)) (flats_dp n ps s h.2 r2)
end
mutual
theorem flat_lay : ∀ (n : Nat) (p : PV), flatTo n p = true → (toD p).canLay0 = true ∧ (toD p).depth ≤ n
  | 0, _, h => by simp [flatTo] at h
  | n + 1, .none, h => ⟨rfl, Nat.zero_le _⟩
  | n + 1, .bool b, h => ⟨rfl, Nat.zero_le _⟩
  | n + 1, .int i, h => ⟨rfl, Nat.zero_le _⟩
  | n + 1, .str s, h => ⟨h, Nat.zero_le _⟩
  | n + 1, .list ps, h => by
    have q := flats_lay n ps (by simpa [flatTo] using h)
    exact ⟨q.1, Nat.succ_le_succ q.2⟩
  | n + 1, .tuple ps, h => by
    have q := flats_lay n ps (by simpa [flatTo] using h)
    exact ⟨q.1, Nat.succ_le_succ q.2⟩
  | n + 1, .dict _ _, h => by simp [flatTo] at h
  | n + 1, .fn _ _, h => by simp [flatTo] at h
theorem flats_lay : ∀ (n : Nat) (ps : List PV), flatsTo n ps = true → PyData.canLayAll0 (toDs ps) = true ∧ PyData.depthAll (toDs ps) ≤ n
  | n, [], _ => ⟨rfl, Nat.zero_le _⟩
  | n, p :: ps, h => by
    simp only [flatsTo, Bool.and_eq_true] at h
    have q1 := flat_lay n p h.1
    have q2 := flats_lay n ps h.2
    refine ⟨?_, ?_⟩
    · show (PyData.canLay0 (toD p) && PyData.canLayAll0 (toDs ps)) = true
      rw [q1.1, q2.1]; rfl
    · show max (PyData.depth (toD p)) (PyData.depthAll (toDs ps)) ≤ n
      exact Nat.max_le.mpr ⟨q1.2, q2.2⟩
end
mutual
theorem eqv_toD : ∀ (n : Nat) (p q : PV), flatTo n p = true → flatTo n q = true → PyData.eqv (toD p) (toD q) = eqv p q
  | 0, _, _, h, _ => by simp [flatTo] at h
  | n + 1, p, q, h, g => by
    cases p <;> cases q <;> first
      | (simp [flatTo] at h; done)
      | (simp [flatTo] at g; done)
      | (simp [toD, PyData.eqv, eqv]; done)
      | (simp only [toD, PyData.eqv, eqv]; exact eqvs_toD n _ _ (by simpa [flatTo] using h) (by simpa [flatTo] using g))
theorem eqvs_toD : ∀ (n : Nat) (p q : List PV), flatsTo n p = true → flatsTo n q = true → PyData.eqvAll (toDs p) (toDs q) = eqvs p q
  | _, [], [], _, _ => rfl
  | _, [], _ :: _, _, _ => rfl
  | _, _ :: _, [], _, _ => rfl
  | n, p :: ps, q :: qs, h, g => by
    simp only [flatsTo, Bool.and_eq_true] at h g
    show (PyData.eqv (toD p) (toD q) && PyData.eqvAll (toDs ps) (toDs qs)) = (eqv p q && eqvs ps qs)
    rw [eqv_toD n p q h.1 g.1, eqvs_toD n ps qs h.2 g.2]
end
theorem flat_shaped {p : PV} (h : flatTo 60 p = true) : SeqAt.shaped (toD p) = true := by
  have q := flat_lay 60 p h
  unfold SeqAt.shaped
  rw [q.1]
  simp only [Bool.true_and, decide_eq_true_eq]
  omega
theorem j_eq : OpJ G (rEqD G.K) oEq := by
  intro A H a b c x y hl ra rb e Q q
  unfold oEq at e
  split at e
  · rename_i h
    simp only [Bool.and_eq_true] at h
    cases e
    refine ⟨toD a, toD b, flat_dp 60 a x h.1 ra, flat_dp 60 b y h.2 rb, flat_shaped h.1, flat_shaped h.2, ?_⟩
    rw [eqv_toD 60 a b h.1 h.2]
    exact q _ H (Same.refl H) (rBool _ _ _ _)
  · cases e
theorem j_ne : OpJ G (rNeD G.K) oNe := by
  intro A H a b c x y hl ra rb e Q q
  unfold oNe at e
  split at e
  · rename_i h
    simp only [Bool.and_eq_true] at h
    cases e
    refine ⟨toD a, toD b, flat_dp 60 a x h.1 ra, flat_dp 60 b y h.2 rb, flat_shaped h.1, flat_shaped h.2, ?_⟩
    rw [eqv_toD 60 a b h.1 h.2]
    exact q _ H (Same.refl H) (rBool _ _ _ _)
  · cases e

/-! #### in -/
theorem BRep.scalar {K : Fr} {A : Av} {H : Hp} {p : PV} {x : V} (h : BRep K A H p x) (s : scalar p = true) : flatV x = true := by
  cases p <;> first | (rw [h.none]; rfl) | (rw [h.bool]; rfl) | (rw [h.int]; rfl) | (rw [h.str]; rfl) | (simp [Pv.scalar] at s)
theorem scalar_eqv {K : Fr} {A A' : Av} {H : Hp} {p q : PV} {x y : V} (h : BRep K A H p x) (g : BRep K A' H q y) (s : scalar p = true) (t : scalar q = true) : eqV x y = eqv p q := by
  cases p <;> first | (simp [Pv.scalar] at s; done) | skip
  all_goals (cases q <;> first | (simp [Pv.scalar] at t; done) | skip)
  all_goals
    first | rw [h.none] | rw [h.bool] | rw [h.int] | rw [h.str]
    first | rw [g.none] | rw [g.bool] | rw [g.int] | rw [g.str]
    simp [eqV, eqv]
theorem scalars {K : Fr} {A A' : Av} {H : Hp} {q : PV} {y : V} (g : BRep K A' H q y) (t : scalar q = true) : ∀ {ps : List PV} {xs : List V}, Reps K A H ps xs → ps.all scalar = true → xs.all flatV = true ∧ inV y xs = isIn q ps
  | [], xs, r, _ => by rw [Reps] at r; subst r; exact ⟨rfl, rfl⟩
  | p :: ps, xs, r, h => by
    rw [Reps] at r
    obtain ⟨x, s, rfl, r1, r2⟩ := r
    simp only [List.all_cons, Bool.and_eq_true] at h
    have ih := scalars g t r2 h.2
    refine ⟨by simp only [List.all_cons, Bool.and_eq_true]; exact ⟨BRep.scalar (.inl r1) h.1, ih.1⟩, ?_⟩
    have e := scalar_eqv (.inl r1) g h.1 t
    have ih2 := ih.2
    unfold inV isIn at *
    simp only [List.any_cons]
    rw [e, ih2]
theorem seqOf_some {K : Fr} {A : Av} {H : Hp} {p : PV} {x : V} {ps : List PV} (e : seqOf p = some ps) (h : BRep K A H p x) : ∃ a xs, x = .ref a ∧ (SqL K H a xs ∨ SqT K H a xs) ∧ Reps K A H ps xs := by
  cases p <;> simp [seqOf] at e
  · subst e
    obtain ⟨a, xs, e1, h1, h2⟩ := h.list
    exact ⟨a, xs, e1, .inl h1, h2⟩
  · subst e
    obtain ⟨a, xs, e1, h1, h2⟩ := h.tuple
    exact ⟨a, xs, e1, .inr h1, h2⟩
theorem j_in : OpJ G (rIn G.K false) oIn := by
  intro A H a b c x y hl ra rb e Q q
  unfold oIn at e
  cases es : seqOf b with
  | none => rw [es] at e; cases e
  | some ps =>
    rw [es] at e
    simp only [Option.bind_some] at e
    split at e
    · rename_i h
      simp only [Bool.and_eq_true] at h
      cases e
      obtain ⟨l, xs, rfl, h1, h2⟩ := seqOf_some es rb
      have sc := scalars ra h.1 h2 h.2
      refine ⟨l, xs, rfl, h1, ra.scalar h.1, sc.1, ?_⟩
      rw [if_neg (by decide), sc.2]
      exact q _ H (Same.refl H) (rBool _ _ _ _)
    · cases e
theorem j_notIn : OpJ G (rIn G.K true) oNotIn := by
  intro A H a b c x y hl ra rb e Q q
  unfold oNotIn at e
  cases es : seqOf b with
  | none => rw [es] at e; cases e
  | some ps =>
    rw [es] at e
    simp only [Option.bind_some] at e
    split at e
    · rename_i h
      simp only [Bool.and_eq_true] at h
      cases e
      obtain ⟨l, xs, rfl, h1, h2⟩ := seqOf_some es rb
      have sc := scalars ra h.1 h2 h.2
      refine ⟨l, xs, rfl, h1, ra.scalar h.1, sc.1, ?_⟩
      rw [if_pos rfl, sc.2]
      exact q _ H (Same.refl H) (rBool _ _ _ _)
    · cases e

/-! #### an item -/
theorem ixOf_eq : ixOf = ixN := rfl
theorem atOf_eq {α : Type} : @atOf α = @atI α := rfl
theorem Reps.at {K : Fr} {A : Av} {H : Hp} {ps : List PV} {xs : List V} {i : Int} {p : PV} (r : Reps K A H ps xs) (e : atOf ps i = some p) : ∃ x, atI xs i = some x ∧ Rep K A H p x := by
  unfold atOf at e
  unfold atI
  rw [r.length]
  cases h : ixOf ps.length i with
  | none => rw [h] at e; cases e
  | some j =>
    rw [h] at e
    simp only [Option.bind_some] at e
    rw [← ixOf_eq, h]
    simp only [Option.bind_some]
    exact r.get' e
def rIxS2 (K : PySem.W.Frag) : R2 := fun x y H Q => rIxL K x y H Q ∨ rIxT K x y H Q
theorem j_ix : OpJ G (rIxS2 G.K) oIx := by
  intro A H a b c x y hl ra rb e Q q
  unfold oIx at e
  split at e
  · rename_i i
    cases es : seqOf a with
    | none => rw [es] at e; cases e
    | some ps =>
      rw [es] at e
      simp only [Option.bind_some] at e
      obtain ⟨l, xs, rfl, h1, h2⟩ := seqOf_some es ra
      have ey := rb.int
      subst ey
      obtain ⟨z, h3, h4⟩ := h2.at e
      rcases h1 with h1 | h1
      · exact .inl ⟨l, xs, i, z, rfl, rfl, h1, h3, q z H (Same.refl H) h4⟩
      · exact .inr ⟨l, xs, i, z, rfl, rfl, h1, h3, q z H (Same.refl H) h4⟩
  · cases e
theorem ix_S2 {X : Cx} : IxR X (rIxS2 X.K) := ix_list.or ix_tup
end
end Pv
end
section
set_option autoImplicit false
set_option Elab.async false
set_option linter.all false
set_option maxRecDepth 100000
namespace Pv
open PySem PySem.Spec PyProof.Rows L2
variable [TN]
section
variable {G : Gm} {ι : Type} {X : ι → Cx} {k : Nat} {W : WX} {e a b c : Expr} {pa pb pc : PX} {pos : Pos}

/-! ### one part -/
theorem one {ta : TE} {A : Av} {σ : St} {H : Hp} {env : Env} {Q : VK} {r : V → Hp → VK → Prop} {f : PV → Option PV} (ha : ∀ Q, XEnd G A W σ H (fun c x H' => BRep G.F A H' c x) Q (pa env) → ta σ H Q) (hl : ∀ a, A a → H a ≠ none)
    (hr : ∀ (A : Av) (H : Hp) (a c : PV) (x : V), (∀ a, A a → H a ≠ none) → BRep G.F A H a x → f a = some c → ∀ Q : VK, (∀ z H', Same H H' → Rep G.F A H' c z → Q z H') → r x H Q)
    (q : XEnd G A W σ H (fun c x H' => Rep G.F A H' c x) Q (p1 f pa env)) : ta σ H fun x H1 => r x H1 Q := by
  refine ha _ ?_
  unfold p1 at q
  cases ea : pa env with
  | bad => rw [ea] at q; exact q.elim
  | exc x => rw [ea] at q; exact q
  | ok u =>
    rw [ea] at q
    simp only [Rp.ok_bind] at q
    intro x H1 s1 r1
    cases ef : f u with
    | none => rw [ef] at q; exact q.elim
    | some c =>
      rw [ef] at q
      exact hr A H1 u c x (same_live s1 hl) r1 ef Q fun z H' s => q z H' (s1.trans s)
theorem x_neg (ha : XJ G X W BRep a pa) : XJ G X W Rep (.UnaryOp .USub a pos) (p1 oNeg pa) := by
  obtain ⟨ta, h1, h2⟩ := ha
  refine ⟨_, fun i => pe_un un_neg (h1 i), fun A σ H env Q S q => one (fun Q z => h2 A σ H env Q S z) S.live (fun A H a c x hl ra e Q q => ?_) q⟩
  unfold oNeg at e
  split at e
  · cases e
    rw [ra.int]
    exact ⟨_, rfl, q _ H (Same.refl H) (rInt _ _ _ _)⟩
  · cases e
theorem BRep.isNone {K : Fr} {A : Av} {H : Hp} {p : PV} {x : V} (h : BRep K A H p x) : decide (x = .non) = Pv.isNone p := by
  cases p with
  | none => rw [h.none]; rfl
  | bool _ => rw [h.bool]; rfl
  | int _ => rw [h.int]; rfl
  | str _ => rw [h.str]; rfl
  | list _ => obtain ⟨_, _, rfl, _⟩ := h.list; rfl
  | tuple _ => obtain ⟨_, _, rfl, _⟩ := h.tuple; rfl
  | dict _ _ =>
    rcases h with h | ⟨_, rfl, _⟩
    · rw [Rep] at h; obtain ⟨_, rfl, _⟩ := h; rfl
    · rfl
  | fn _ _ =>
    rcases h with h | ⟨_, rfl, h⟩
    · rename_i cs
      cases cs with
      | nil => rw [Rep] at h; obtain ⟨_, _, _, _, _, rfl, _⟩ := h; rfl
      | cons _ _ => rw [Rep] at h; obtain ⟨_, _, rfl, _⟩ := h; rfl
    · exact h.elim
theorem x_isN {j : Nat} {pos' : Pos} (ha : XJ G X W BRep a pa) : XJ G X W Rep (.Compare a [.Is] [.Constant .none j pos'] pos) (p1 oIsNone pa) := by
  obtain ⟨ta, h1, h2⟩ := ha
  refine ⟨_, fun i => pe_cmp (pc_isN (h1 i)), fun A σ H env Q S q => one (r := fun x H Q => Q (.bl (decide (x = .non))) H) (fun Q z => h2 A σ H env Q S z) S.live (fun A H a c x hl ra e Q q => ?_) q⟩
  cases e
  rw [ra.isNone]
  exact q _ H (Same.refl H) (rBool _ _ _ _)
theorem x_notN {j : Nat} {pos' : Pos} (ha : XJ G X W BRep a pa) : XJ G X W Rep (.Compare a [.IsNot] [.Constant .none j pos'] pos) (p1 oNotNone pa) := by
  obtain ⟨ta, h1, h2⟩ := ha
  refine ⟨_, fun i => pe_cmp (pc_notN (h1 i)), fun A σ H env Q S q => one (r := fun x H Q => Q (.bl (!decide (x = .non))) H) (fun Q z => h2 A σ H env Q S z) S.live (fun A H a c x hl ra e Q q => ?_) q⟩
  cases e
  show Q (.bl (!decide (x = .non))) H
  rw [ra.isNone]
  exact q _ H (Same.refl H) (rBool _ _ _ _)

/-! ### a[lo:hi] with written bounds -/
def rCutS (K : PySem.W.Frag) : V → Option Int → Option Int → Hp → VK → Prop := fun x lo hi H Q => rSlL K x lo hi H Q ∨ rSlT K x lo hi H Q
theorem cut_eq {α : Type} (xs : List V) (lo hi : Option Int) : cut xs lo hi = cutV xs lo hi := rfl
theorem Reps.cut {K : Fr} {A : Av} {H : Hp} {ps : List PV} {xs : List V} (r : Reps K A H ps xs) (lo hi : Option Int) : Reps K A H (Pv.cut ps lo hi) (cutV xs lo hi) := by
  unfold Pv.cut cutV
  rw [r.length]
  exact (r.drop _).take _
theorem cut_len {α : Type} (xs : List α) (lo hi : Option Int) : (cut xs lo hi).length ≤ xs.length := by
  unfold cut
  rw [List.length_take, List.length_drop]
  omega
theorem j_cut (lo hi : Option Int) (A : Av) (H : Hp) (p c : PV) (x : V) (hl : ∀ a, A a → H a ≠ none) (ra : BRep G.F A H p x) (e : oCut lo hi p = some c) (Q : VK) (q : ∀ z H', Same H H' → Rep G.F A H' c z → Q z H') : rCutS G.K x lo hi H Q := by
  unfold oCut at e
  split at e
  · cases e
    obtain ⟨l, xs, rfl, h1, h2⟩ := ra.list
    exact .inl ⟨l, xs, rfl, h1, fun p hp => q _ _ (same_new hp _) (rep_newL hl hp (h2.cut lo hi) (Nat.le_trans (cut_len _ _ _) ra.llen))⟩
  · split at e
    · cases e
    · rename_i hn
      cases e
      obtain ⟨l, xs, rfl, h1, h2⟩ := ra.tuple
      refine .inr ⟨l, xs, rfl, h1, ?_, fun p hp => q _ _ (same_new hp _) (rep_newT hl hp (h2.cut lo hi) (Nat.le_trans (cut_len _ _ _) ra.tlen))⟩
      rw [h2.length]
      exact hn
  · cases e
/-- a bound that is written -/
def PartJ (X : ι → Cx) (e : Option Expr) (v : Option Int) : Prop := ∃ t : TO, (∀ i, PO (X i) e t) ∧ ∀ (σ : St) (H : Hp) (Q : Option Int → Hp → Prop), Q v H → t σ H Q
theorem part_none : PartJ X none none := ⟨_, fun i => po_none, fun _ _ _ q => q⟩
theorem part_int {i : Int} {j : Nat} : PartJ X (some (.Constant (.int i) j pos)) (some i) := ⟨_, fun _ => po_some pe_int, fun _ _ _ q => ⟨i, rfl, q⟩⟩
theorem part_neg {i : Int} {j : Nat} {pos' : Pos} : PartJ X (some (.UnaryOp .USub (.Constant (.int i) j pos) pos')) (some (-i)) := ⟨_, fun _ => po_some (pe_un un_neg pe_int), fun _ _ _ q => ⟨i, rfl, -i, rfl, q⟩⟩
theorem x_cut {lo hi : Option Expr} {vl vh : Option Int} {p2 : Pos} (S : Sits G X k W) (ha : XJ G X W BRep a pa) (hlo : PartJ X lo vl) (hhi : PartJ X hi vh) : XJ G X W Rep (.Subscript a (.Slice lo hi none p2) pos) (p1 (oCut vl vh) pa) := by
  obtain ⟨ta, h1, h2⟩ := ha
  obtain ⟨tl, h3, h4⟩ := hlo
  obtain ⟨th, h5, h6⟩ := hhi
  refine ⟨_, fun i => pe_slice (r := rCutS G.K) ?_ (h1 i) (h3 i) (h5 i), fun A σ H env Q S q => ?_⟩
  · have := sl_list.or sl_tup (X := X i)
    rw [S.K i] at this
    exact this
  · refine one (r := fun x H Q => tl σ H fun l H2 => th σ H2 fun u H3 => rCutS G.K x l u H3 Q) (fun Q z => h2 A σ H env Q S z) S.live (fun A H a c x hl ra e Q q => ?_) q
    exact h4 _ _ _ (h6 _ _ _ (j_cut vl vh A H a c x hl ra e Q q))

/-! ### and, or, not, if -/
theorem asBool_ok {p : PV} {b : Bool} (h : asBool p = .ok b) : p = .bool b := by
  cases p <;> simp [asBool] at h
  rw [h]
theorem x_one {op : BoolOp} (ha : XJ G X W Rep a pa) : XJ G X W Rep (.BoolOp op [a] pos) pa := by
  obtain ⟨ta, h1, h2⟩ := ha
  exact ⟨ta, fun i => pe_one (h1 i), h2⟩
theorem asBool_cases (p : PV) : (∃ b, p = .bool b ∧ asBool p = .ok b) ∨ asBool p = .bad := by cases p <;> first | exact .inl ⟨_, rfl, rfl⟩ | exact .inr rfl
theorem x_and {rest : List Expr} (ha : XJ G X W Rep a pa) (hb : XJ G X W Rep (.BoolOp .And (b :: rest) pos) pb) : XJ G X W Rep (.BoolOp .And (a :: b :: rest) pos) (pAnd pa pb) := by
  obtain ⟨ta, h1, h2⟩ := ha
  obtain ⟨tb, h3, h4⟩ := hb
  refine ⟨_, fun i => pe_and (h1 i) (h3 i), fun A σ H env Q S q => h2 A σ H env _ S ?_⟩
  unfold pAnd at q
  cases ea : pa env with
  | bad => rw [ea] at q; exact q.elim
  | exc x => rw [ea] at q; exact q
  | ok u =>
    rw [ea] at q
    intro x H1 s1 r1
    rcases asBool_cases u with ⟨b, rfl, eb⟩ | eb
    · simp only [Rp.ok_bind, asBool] at q
      rw [Rep] at r1
      refine ⟨b, r1, ?_⟩
      cases b with
      | true =>
        refine h4 A σ H1 env Q (S.same s1) ?_
        revert q
        simp only [if_true]
        cases pb env with
        | ok c => exact fun q y H' s => q y H' (s1.trans s)
        | exc x => exact fun q d H' s => q d H' (s1.trans s)
        | bad => exact fun q => q
      | false => exact q _ H1 s1 (rBool _ _ _ _)
    · simp only [Rp.ok_bind, eb] at q
      exact q.elim
theorem x_or {rest : List Expr} (ha : XJ G X W Rep a pa) (hb : XJ G X W Rep (.BoolOp .Or (b :: rest) pos) pb) : XJ G X W Rep (.BoolOp .Or (a :: b :: rest) pos) (pOr pa pb) := by
  obtain ⟨ta, h1, h2⟩ := ha
  obtain ⟨tb, h3, h4⟩ := hb
  refine ⟨_, fun i => pe_or (h1 i) (h3 i), fun A σ H env Q S q => h2 A σ H env _ S ?_⟩
  unfold pOr at q
  cases ea : pa env with
  | bad => rw [ea] at q; exact q.elim
  | exc x => rw [ea] at q; exact q
  | ok u =>
    rw [ea] at q
    intro x H1 s1 r1
    rcases asBool_cases u with ⟨b, rfl, eb⟩ | eb
    · simp only [Rp.ok_bind, asBool] at q
      rw [Rep] at r1
      refine ⟨b, r1, ?_⟩
      cases b with
      | false =>
        refine h4 A σ H1 env Q (S.same s1) ?_
        revert q
        simp only [Bool.false_eq_true, if_false]
        cases pb env with
        | ok c => exact fun q y H' s => q y H' (s1.trans s)
        | exc x => exact fun q d H' s => q d H' (s1.trans s)
        | bad => exact fun q => q
      | true => exact q _ H1 s1 (rBool _ _ _ _)
    · simp only [Rp.ok_bind, eb] at q
      exact q.elim
theorem x_not (ha : XJ G X W Rep a pa) : XJ G X W Rep (.UnaryOp .Not a pos) (pNot pa) := by
  obtain ⟨ta, h1, h2⟩ := ha
  refine ⟨_, fun i => pe_not (h1 i), fun A σ H env Q S q => h2 A σ H env _ S ?_⟩
  unfold pNot at q
  cases ea : pa env with
  | bad => rw [ea] at q; exact q.elim
  | exc x => rw [ea] at q; exact q
  | ok u =>
    rw [ea] at q
    intro x H1 s1 r1
    rcases asBool_cases u with ⟨b, rfl, eb⟩ | eb
    · simp only [Rp.ok_bind, asBool] at q
      rw [Rep] at r1
      exact ⟨b, r1, q _ H1 s1 (rBool _ _ _ _)⟩
    · simp only [Rp.ok_bind, eb] at q
      exact q.elim
theorem XEnd.later {A : Av} {σ : St} {H H1 : Hp} {R : PV → V → Hp → Prop} {Q : VK} {r : Rp PV} (s : Same H H1) (q : XEnd G A W σ H R Q r) : XEnd G A W σ H1 R Q r := by
  cases r with
  | ok c => exact fun y H' s' => q y H' (s.trans s')
  | exc x => exact fun d H' s' => q d H' (s.trans s')
  | bad => exact q
theorem TEnd.later {A : Av} {σ : St} {H H1 : Hp} {Q : Bool → Hp → Prop} {r : Rp Bool} (s : Same H H1) (q : TEnd G A W σ H Q r) : TEnd G A W σ H1 Q r := by
  cases r with
  | ok c => exact fun H' s' => q H' (s.trans s')
  | exc x => exact fun d H' s' => q d H' (s.trans s')
  | bad => exact q
theorem LEnd.later {A : Av} {σ : St} {H H1 : Hp} {R : PV → V → Hp → Prop} {Q : List V → Hp → Prop} {r : Rp (List PV)} (s : Same H H1) (q : LEnd G A W σ H R Q r) : LEnd G A W σ H1 R Q r := by
  cases r with
  | ok c => exact fun y H' s' => q y H' (s.trans s')
  | exc x => exact fun d H' s' => q d H' (s.trans s')
  | bad => exact q
theorem x_if {R : Fr → Av → Hp → PV → V → Prop} {tc : TX} (hc : TJ G X W c tc) (ha : XJ G X W R a pa) (hb : XJ G X W R b pb) : XJ G X W R (.IfExp c a b pos) (pIf tc pa pb) := by
  obtain ⟨t, h0, h00⟩ := hc
  obtain ⟨ta, h1, h2⟩ := ha
  obtain ⟨tb, h3, h4⟩ := hb
  refine ⟨_, fun i => pe_ifExp (h0 i) (h1 i) (h3 i), fun A σ H env Q S q => h00 A σ H env _ S ?_⟩
  unfold pIf at q
  cases ec : tc env with
  | bad => rw [ec] at q; exact q.elim
  | exc x => rw [ec] at q; exact q
  | ok u =>
    rw [ec] at q
    simp only [Rp.ok_bind] at q
    intro H1 s1
    cases u with
    | true => exact h2 A σ H1 env Q (S.same s1) (q.later s1)
    | false => exact h4 A σ H1 env Q (S.same s1) (q.later s1)
/-- a < b < c -/
theorem chain_sim {r r' : R2} {f g : PV → PV → Option PV} {ta tb tc : TE} (hr : OpJ G r f) (hr' : OpJ G r' g)
    (h2 : ∀ A σ H env Q, SRep G.F A σ H env → XEnd G A W σ H (fun c x H' => BRep G.F A H' c x) Q (pa env) → ta σ H Q) (h4 : ∀ A σ H env Q, SRep G.F A σ H env → XEnd G A W σ H (fun c x H' => BRep G.F A H' c x) Q (pb env) → tb σ H Q)
    (h6 : ∀ A σ H env Q, SRep G.F A σ H env → XEnd G A W σ H (fun c x H' => BRep G.F A H' c x) Q (pc env) → tc σ H Q) (A : Av) (σ : St) (H : Hp) (env : Env) (Q : VK) (S : SRep G.F A σ H env) (q : XEnd G A W σ H (fun c x H' => Rep G.F A H' c x) Q (pChain f g pa pb pc env)) : tChain r r' ta tb tc σ H Q := by
  unfold pChain at q
  refine h2 A σ H env _ S ?_
  cases ea : pa env with
  | bad => rw [ea] at q; exact q.elim
  | exc x => rw [ea] at q; exact q
  | ok u =>
    rw [ea] at q
    simp only [Rp.ok_bind] at q
    intro x H1 s1 r1
    refine h4 A σ H1 env _ (S.same s1) ?_
    cases eb : pb env with
    | bad => rw [eb] at q; exact q.elim
    | exc x => rw [eb] at q; exact fun d H' s => q d H' (s1.trans s)
    | ok v =>
      rw [eb] at q
      simp only [Rp.ok_bind] at q
      intro y H2 s2 r2
      cases ef : f u v with
      | none => rw [ef] at q; exact q.elim
      | some m =>
        rw [ef] at q
        simp only [ofOpt_some, Rp.ok_bind] at q
        rcases asBool_cases m with ⟨bb, rfl, em⟩ | em
        · simp only [asBool, Rp.ok_bind] at q
          refine hr A H2 u v (.bool bb) x y (same_live (s1.trans s2) S.live) (r1.same s2) r2 ef _ fun z H3 s3 r3 => ?_
          rw [Rep] at r3
          refine ⟨bb, r3, ?_⟩
          cases bb with
          | false => exact q _ H3 (s1.trans (s2.trans s3)) (rBool _ _ _ _)
          | true =>
            simp only [if_true] at q ⊢
            refine h6 A σ H3 env _ (S.same (s1.trans (s2.trans s3))) ?_
            cases ec : pc env with
            | bad => rw [ec] at q; exact q.elim
            | exc x => rw [ec] at q; exact fun d H' s => q d H' (s1.trans (s2.trans (s3.trans s)))
            | ok w' =>
              rw [ec] at q
              simp only [Rp.ok_bind] at q
              intro zz H4 s4 r4
              cases eg : g v w' with
              | none => rw [eg] at q; exact q.elim
              | some n =>
                rw [eg] at q
                exact hr' A H4 v w' n y zz (same_live (s1.trans (s2.trans (s3.trans s4))) S.live) (r2.same (s3.trans s4)) r4 eg Q fun z5 H5 s5 => q z5 H5 (s1.trans (s2.trans (s3.trans (s4.trans s5))))
        · simp only [em] at q
          exact q.elim

theorem x_chain {op op' : CmpOp} {r r' : R2} {f g : PV → PV → Option PV} (hr : OpJ G r f) (hr' : OpJ G r' g) (ho : ∀ i, OpR (X i) (compareOp op) r) (ho' : ∀ i, OpR (X i) (compareOp op') r') (ha : XJ G X W BRep a pa) (hb : XJ G X W BRep b pb) (hc : XJ G X W BRep c pc)
    (hpe : ∀ i ta tb tc, PE (X i) a ta → PE (X i) b tb → PE (X i) c tc → PE (X i) (.Compare a [op, op'] [b, c] pos) (tChain r r' ta tb tc)) : XJ G X W Rep (.Compare a [op, op'] [b, c] pos) (pChain f g pa pb pc) := by
  obtain ⟨ta, h1, h2⟩ := ha
  obtain ⟨tb, h3, h4⟩ := hb
  obtain ⟨tc, h5, h6⟩ := hc
  exact ⟨_, fun i => hpe i ta tb tc (h1 i) (h3 i) (h5 i), chain_sim hr hr' h2 h4 h6⟩

/-! ### tests -/
/-- a test by its value: p's outcome is a bool -/
theorem test_of {t : TE} {A : Av} {σ : St} {H : Hp} {env : Env} {Q : Bool → Hp → Prop} {p : PX} (h : ∀ Q, XEnd G A W σ H (fun c x H' => Rep G.F A H' c x) Q (p env) → t σ H Q) (q : TEnd G A W σ H Q (tBool p env)) : tTest t σ H Q := by
  refine h _ ?_
  unfold tBool at q
  cases ea : p env with
  | bad => rw [ea] at q; exact q.elim
  | exc x => rw [ea] at q; exact q
  | ok u =>
    rw [ea] at q
    simp only [Rp.ok_bind] at q
    intro x H1 s1 r1
    rcases asBool_cases u with ⟨b, rfl, eb⟩ | eb
    · rw [Rep] at r1
      exact ⟨b, r1, q H1 s1⟩
    · rw [eb] at q
      exact q.elim
theorem t_cmp {op : CmpOp} {r : R2} {f : PV → PV → Option PV} (hr : OpJ G r f) (ho : ∀ i, OpR (X i) (compareOp op) r) (ha : XJ G X W BRep a pa) (hb : XJ G X W BRep b pb) (hm : behindInMarks op b = false) : TJ G X W (.Compare a [op] [b] pos) (tBool (p2 f pa pb)) := by
  obtain ⟨ta, h1, h2⟩ := ha
  obtain ⟨tb, h3, h4⟩ := hb
  exact ⟨_, fun i => pt_cmpR (ho i) (h1 i) (h3 i) hm, fun A σ H env Q S q => test_of (fun Q z => two (fun Q z => h2 A σ H env Q S z) (fun H1 s Q z => h4 A σ H1 env Q (S.same s) z) S.live hr z) q⟩
theorem t_isN {j : Nat} {pos' : Pos} (ha : XJ G X W BRep a pa) : TJ G X W (.Compare a [.Is] [.Constant .none j pos'] pos) (tBool (p1 oIsNone pa)) := by
  obtain ⟨ta, h1, h2⟩ := ha
  refine ⟨_, fun i => pt_cmp (pc_isN (h1 i)), fun A σ H env Q S q => test_of (t := tIsN ta) (fun Q z => one (r := fun x H Q => Q (.bl (decide (x = .non))) H) (fun Q z => h2 A σ H env Q S z) S.live (fun A H a c x hl ra e Q q => ?_) z) q⟩
  cases e
  rw [ra.isNone]
  exact q _ H (Same.refl H) (rBool _ _ _ _)
theorem t_notN {j : Nat} {pos' : Pos} (ha : XJ G X W BRep a pa) : TJ G X W (.Compare a [.IsNot] [.Constant .none j pos'] pos) (tBool (p1 oNotNone pa)) := by
  obtain ⟨ta, h1, h2⟩ := ha
  refine ⟨_, fun i => pt_cmp (pc_notN (h1 i)), fun A σ H env Q S q => test_of (t := tNotN ta) (fun Q z => one (r := fun x H Q => Q (.bl (!decide (x = .non))) H) (fun Q z => h2 A σ H env Q S z) S.live (fun A H a c x hl ra e Q q => ?_) z) q⟩
  cases e
  rw [ra.isNone]
  exact q _ H (Same.refl H) (rBool _ _ _ _)
theorem t_chain {op op' : CmpOp} {r r' : R2} {f g : PV → PV → Option PV} (hr : OpJ G r f) (hr' : OpJ G r' g) (ho : ∀ i, OpR (X i) (compareOp op) r) (ho' : ∀ i, OpR (X i) (compareOp op') r') (ha : XJ G X W BRep a pa) (hb : XJ G X W BRep b pb) (hc : XJ G X W BRep c pc)
    (hpt : ∀ i ta tb tc, PE (X i) a ta → PE (X i) b tb → PE (X i) c tc → PT (X i) (.Compare a [op, op'] [b, c] pos) (tTest (tChain r r' ta tb tc))) : TJ G X W (.Compare a [op, op'] [b, c] pos) (tBool (pChain f g pa pb pc)) := by
  obtain ⟨ta, h1, h2⟩ := ha
  obtain ⟨tb, h3, h4⟩ := hb
  obtain ⟨tc, h5, h6⟩ := hc
  exact ⟨_, fun i => hpt i ta tb tc (h1 i) (h3 i) (h5 i), fun A σ H env Q S q => test_of (fun Q z => chain_sim hr hr' h2 h4 h6 A σ H env Q S z) q⟩
/-- any other expression, by its truth -/
theorem t_truth (S : Sits G X k W) (ha : XJ G X W BRep a pa) (he : ∀ i whole, isTrue a (X i).env whole = (do let v ← whole; standAt a.pos; holding [v] (truthy v))) : TJ G X W a (tTruth pa) := by
  obtain ⟨ta, h1, h2⟩ := ha
  refine ⟨fun σ H Q => ta σ H fun x H' => ∃ k, TruV G.K x H' k ∧ Q k H', fun i => ?_, fun A σ H env Q SS q => h2 A σ H env _ SS ?_⟩
  · have := pt_truth (h1 i) (he i)
    rw [S.K i] at this
    exact this
  unfold tTruth at q
  cases ea : pa env with
  | bad => rw [ea] at q; exact q.elim
  | exc x => rw [ea] at q; exact q
  | ok u =>
    rw [ea] at q
    simp only [Rp.ok_bind] at q
    intro x H1 s1 r1
    cases u with
    | none => rw [r1.none]; exact ⟨_, rfl, q H1 s1⟩
    | bool b => rw [r1.bool]; exact ⟨_, rfl, q H1 s1⟩
    | int i => rw [r1.int]; exact ⟨_, rfl, q H1 s1⟩
    | list ps =>
      obtain ⟨l, xs, rfl, h3, h4⟩ := r1.list
      refine ⟨!ps.isEmpty, .inl ⟨xs, h3, ?_⟩, q H1 s1⟩
      have := h4.length
      cases xs <;> cases ps <;> simp at this <;> rfl
    | tuple ps =>
      obtain ⟨l, xs, rfl, h3, h4⟩ := r1.tuple
      refine ⟨!ps.isEmpty, .inr (.inl ⟨xs, h3, ?_⟩), q H1 s1⟩
      have := h4.length
      cases xs <;> cases ps <;> simp at this <;> rfl
    | str _ => exact q.elim
    | dict _ _ => exact q.elim
    | fn _ _ => exact q.elim
theorem t_not {tc : TX} (h : TJ G X W c tc) : TJ G X W (.UnaryOp .Not c pos) (tNot tc) := by
  obtain ⟨t, h1, h2⟩ := h
  refine ⟨_, fun i => pt_not (h1 i), fun A σ H env Q S q => h2 A σ H env _ S ?_⟩
  unfold tNot at q
  cases ec : tc env with
  | bad => rw [ec] at q; exact q.elim
  | exc x => rw [ec] at q; exact q
  | ok u => rw [ec] at q; exact fun H' s => q H' s
/-- a test whatever its whole is -/
def WhJ (G : Gm) {ι : Type} (X : ι → Cx) (W : WX) (e : Expr) (p : TX) : Prop :=
  ∃ t : TT, (∀ i, PW (X i) e t) ∧ ∀ A σ H env Q, SRep G.F A σ H env → TEnd G A W σ H Q (p env) → t σ H Q
theorem WhJ.t {p : TX} (h : WhJ G X W e p) : TJ G X W e p := let ⟨t, h1, h2⟩ := h; ⟨t, fun i => (h1 i).pt, h2⟩
theorem w_and1 {tc : TX} (h : TJ G X W a tc) : WhJ G X W (.BoolOp .And [a] pos) tc := let ⟨t, h1, h2⟩ := h; ⟨t, fun i => pw_and1 (h1 i), h2⟩
theorem w_or1 {tc : TX} (h : TJ G X W a tc) : WhJ G X W (.BoolOp .Or [a] pos) tc := let ⟨t, h1, h2⟩ := h; ⟨t, fun i => pw_or1 (h1 i), h2⟩
theorem w_and {tc td : TX} {rest : List Expr} (ha : TJ G X W a tc) (hb : WhJ G X W (.BoolOp .And (b :: rest) pos) td) : WhJ G X W (.BoolOp .And (a :: b :: rest) pos) (tAnd tc td) := by
  obtain ⟨t, h1, h2⟩ := ha
  obtain ⟨u, h3, h4⟩ := hb
  refine ⟨_, fun i => pw_and (h1 i) (h3 i), fun A σ H env Q S q => h2 A σ H env _ S ?_⟩
  unfold tAnd at q
  cases ec : tc env with
  | bad => rw [ec] at q; exact q.elim
  | exc x => rw [ec] at q; exact q
  | ok v =>
    rw [ec] at q
    simp only [Rp.ok_bind] at q
    intro H1 s1
    cases v with
    | true => exact h4 A σ H1 env Q (S.same s1) (q.later s1)
    | false => exact q H1 s1
theorem w_or {tc td : TX} {rest : List Expr} (ha : TJ G X W a tc) (hb : WhJ G X W (.BoolOp .Or (b :: rest) pos) td) : WhJ G X W (.BoolOp .Or (a :: b :: rest) pos) (tOr tc td) := by
  obtain ⟨t, h1, h2⟩ := ha
  obtain ⟨u, h3, h4⟩ := hb
  refine ⟨_, fun i => pw_or (h1 i) (h3 i), fun A σ H env Q S q => h2 A σ H env _ S ?_⟩
  unfold tOr at q
  cases ec : tc env with
  | bad => rw [ec] at q; exact q.elim
  | exc x => rw [ec] at q; exact q
  | ok v =>
    rw [ec] at q
    simp only [Rp.ok_bind] at q
    intro H1 s1
    cases v with
    | false => exact h4 A σ H1 env Q (S.same s1) (q.later s1)
    | true => exact q H1 s1

/-! ### arguments, displays -/
variable {R : Fr → Av → Hp → PV → V → Prop} {es : List Expr} {l : LX}
theorem AllR.imp {R R' : PV → V → Prop} (h : ∀ p x, R p x → R' p x) : ∀ {ps : List PV} {xs : List V}, AllR R ps xs → AllR R' ps xs
  | [], xs, r => r
  | p :: ps, xs, ⟨x, s, e, r1, r2⟩ => ⟨x, s, e, h p x r1, AllR.imp h r2⟩
theorem a_nil : AJ G X W R [] pNil := ⟨_, fun i => pa_nil, fun A σ H env Q S q => q [] H (Same.refl H) rfl⟩
/-- what a relation of values must bear -/
class Stays (R : Fr → Av → Hp → PV → V → Prop) : Prop where
  same : ∀ {K A H H' p x}, R K A H p x → Same H H' → R K A H' p x
instance : Stays Rep := ⟨fun h s => h.same s⟩
instance : Stays BRep := ⟨fun h s => h.same s⟩
theorem a_cons [Stays R] (ha : XJ G X W R a pa) (hr : AJ G X W R es l) (hs : ∀ i, starEach (a :: es) (X i).env = (false, eval a (X i).env) :: starEach es (X i).env := by intro _; rfl) : AJ G X W R (a :: es) (pCons pa l) := by
  obtain ⟨ta, h1, h2⟩ := ha
  obtain ⟨tr, h3, h4⟩ := hr
  refine ⟨_, fun i => pa_cons (h1 i) (h3 i) (hs i), fun A σ H env Q S q => h2 A σ H env _ S ?_⟩
  unfold pCons at q
  cases ea : pa env with
  | bad => rw [ea] at q; exact q.elim
  | exc x => rw [ea] at q; exact q
  | ok u =>
    rw [ea] at q
    simp only [Rp.ok_bind] at q
    intro x H1 s1 r1
    refine h4 A σ H1 env _ (S.same s1) ?_
    cases el : l env with
    | bad => rw [el] at q; exact q.elim
    | exc x => rw [el] at q; exact fun d H' s => q d H' (s1.trans s)
    | ok us =>
      rw [el] at q
      simp only [Rp.ok_bind] at q
      exact fun xs H2 s2 r2 => q (x :: xs) H2 (s1.trans s2) ⟨x, xs, rfl, Stays.same r1 s2, r2⟩
theorem AllR.reps {K : Fr} {A : Av} {H : Hp} : ∀ {ps : List PV} {xs : List V}, AllR (Rep K A H) ps xs → Reps K A H ps xs
  | [], xs, r => by rw [Reps]; exact r
  | p :: ps, xs, ⟨x, s, e, r1, r2⟩ => by rw [Reps]; exact ⟨x, s, e, r1, AllR.reps r2⟩
theorem AllR.length {R : PV → V → Prop} : ∀ {ps : List PV} {xs : List V}, AllR R ps xs → xs.length = ps.length
  | [], xs, r => by rw [show xs = [] from r]; rfl
  | p :: ps, xs, ⟨x, s, e, r1, r2⟩ => by rw [e]; simp [AllR.length r2]
theorem x_tup {x1 : Nat} (h : AJ G X W Rep es l) (hz : ∀ env us, l env = .ok us → us.length ≤ sizeLine) : XJ G X W Rep (.Tuple es x1 pos) (pTup l) := by
  obtain ⟨t, h1, h2⟩ := h
  refine ⟨_, fun i => pe_tup (h1 i), fun A σ H env Q S q => h2 A σ H env _ S ?_⟩
  unfold pTup at q
  cases el : l env with
  | bad => rw [el] at q; exact q.elim
  | exc x => rw [el] at q; exact q
  | ok us =>
    rw [el] at q
    intro xs H1 s1 r1
    exact ⟨by rw [AllR.length r1]; exact hz env us el, fun p hp => q _ _ (s1.trans (same_new hp _)) (rep_newT (same_live s1 S.live) hp (AllR.reps r1) (by rw [line_eq]; exact hz env us el))⟩
theorem x_lst (h : AJ G X W Rep es l) (hz : ∀ env us, l env = .ok us → us.length ≤ sizeLine) : XJ G X W Rep (.List es pos) (pLst l) := by
  obtain ⟨t, h1, h2⟩ := h
  refine ⟨_, fun i => pe_lst (h1 i), fun A σ H env Q S q => h2 A σ H env _ S ?_⟩
  unfold pLst at q
  cases el : l env with
  | bad => rw [el] at q; exact q.elim
  | exc x => rw [el] at q; exact q
  | ok us =>
    rw [el] at q
    intro xs H1 s1 r1
    exact ⟨by rw [AllR.length r1]; exact hz env us el, fun p hp => q _ _ (s1.trans (same_new hp _)) (rep_newL (same_live s1 S.live) hp (AllR.reps r1) (by rw [line_eq]; exact hz env us el))⟩
/-- so many written items -/
def Many (n : Nat) (l : LX) : Prop := ∀ env us, l env = .ok us → us.length = n
theorem many_nil : Many 0 pNil := fun env us e => by cases e; rfl
theorem many_cons {n : Nat} {pa : PX} {l : LX} (h : Many n l) : Many (n + 1) (pCons pa l) := fun env us e => by
  unfold pCons at e
  cases ea : pa env with
  | bad => rw [ea] at e; cases e
  | exc x => rw [ea] at e; cases e
  | ok u =>
    rw [ea] at e
    simp only [Rp.ok_bind] at e
    cases el : l env with
    | bad => rw [el] at e; cases e
    | exc x => rw [el] at e; cases e
    | ok vs =>
      rw [el] at e
      cases e
      simp [h env vs el]
theorem Many.le {n : Nat} {l : LX} (h : Many n l) (hn : n ≤ 1000 := by decide) : ∀ env us, l env = .ok us → us.length ≤ sizeLine := fun env us e => by rw [h env us e]; exact Nat.le_of_lt (small1000 hn)

/-! ### calls of built-in functions -/
def FnJ (G : Gm) (r : List V → Hp → VK → Prop) (f : List PV → Option PV) : Prop := ∀ (A : Av) (H : Hp) (as : List PV) (c : PV) (xs : List V), (∀ a, A a → H a ≠ none) → AllR (BRep G.F A H) as xs → f as = some c → ∀ Q : VK, (∀ z H', Same H H' → Rep G.F A H' c z → Q z H') → r xs H Q
theorem callB {t : TA} {r : List V → Hp → VK → Prop} {f : List PV → Option PV} {A : Av} {σ : St} {H : Hp} {env : Env} {Q : VK} (hr : FnJ G r f) (S : SRep G.F A σ H env) (h : ∀ Q, LEnd G A W σ H (fun c x H' => BRep G.F A H' c x) Q (l env) → t σ H Q)
    (q : XEnd G A W σ H (fun c x H' => Rep G.F A H' c x) Q (pB f l env)) : t σ H fun vs H1 => r vs H1 Q := by
  refine h _ ?_
  unfold pB at q
  cases el : l env with
  | bad => rw [el] at q; exact q.elim
  | exc x => rw [el] at q; exact q
  | ok us =>
    rw [el] at q
    simp only [Rp.ok_bind] at q
    intro xs H1 s1 r1
    cases ef : f us with
    | none => rw [ef] at q; exact q.elim
    | some c =>
      rw [ef] at q
      exact hr A H1 us c xs (same_live s1 S.live) r1 ef Q fun z H' s => q z H' (s1.trans s)
theorem x_callB {r : List V → Hp → VK → Prop} {f : List PV → Option PV} {id : String} {x : Str} {p : Pos} (hr : FnJ G r f) (hc : ∀ i, CallR (X i) (.builtin id) r) (S : Sits G X k W) (hg : ∀ i, Gl (X i) x) (hm : G.mg x = none) (hv : bootBuiltins x = some (.builtin id)) (ha : AJ G X W BRep (e :: es) l)
    (hn : x ≠ "__name__" := by decide) (hdb : (x == ("__debug__" : Str)) = false := by decide) (he : ∀ i, starEach (e :: es) (X i).env = (false, eval e (X i).env) :: starEach es (X i).env := by intro _; rfl) (hpl : ∀ i, (backTo pos (starEach es (X i).env)).any (·.1) = false := by intro _; rfl) :
    XJ G X W Rep (.Call (.Name x p) (e :: es) [] pos) (pB f l) := by
  obtain ⟨t, h1, h2⟩ := ha
  exact ⟨_, fun i => pe_callB (hc i) (hg i) (by rw [S.mg i]; exact hm) hv (h1 i) hn hdb (he i) (hpl i), fun A σ H env Q S q => callB hr S (fun Q z => h2 A σ H env Q S z) q⟩
theorem x_callTy {r : List V → Hp → VK → Prop} {f : List PV → Option PV} {T : String} {x : Str} {p : Pos} (hr : FnJ G r f) (hc : ∀ i, CallR (X i) (.type T) r) (S : Sits G X k W) (hg : ∀ i, Gl (X i) x) (hm : G.mg x = none) (hv : bootBuiltins x = some (.type T)) (ha : AJ G X W BRep (e :: es) l)
    (hn : x ≠ "__name__" := by decide) (hdb : (x == ("__debug__" : Str)) = false := by decide) (he : ∀ i, starEach (e :: es) (X i).env = (false, eval e (X i).env) :: starEach es (X i).env := by intro _; rfl) (hpl : ∀ i, (backTo pos (starEach es (X i).env)).any (·.1) = false := by intro _; rfl) :
    XJ G X W Rep (.Call (.Name x p) (e :: es) [] pos) (pB f l) := by
  obtain ⟨t, h1, h2⟩ := ha
  exact ⟨_, fun i => pe_callTy (hc i) (hg i) (by rw [S.mg i]; exact hm) hv (h1 i) hn hdb (he i) (hpl i), fun A σ H env Q S q => callB hr S (fun Q z => h2 A σ H env Q S z) q⟩
theorem allR1 {R : PV → V → Prop} {p : PV} {xs : List V} (h : AllR R [p] xs) : ∃ x, xs = [x] ∧ R p x := by
  obtain ⟨x, r, e, h1, h2⟩ := h
  exact ⟨x, by rw [e, show r = [] from h2], h1⟩
theorem j_len : FnJ G (fun xs H Q => ∃ p ys, xs = [.ref p] ∧ (SqL G.K H p ys ∨ SqT G.K H p ys) ∧ Q (.int ys.length) H) fLen := by
  intro A H as c xs hl ra e Q q
  unfold fLen at e
  split at e
  · rename_i a
    cases es : seqOf a with
    | none => rw [es] at e; cases e
    | some ps =>
      rw [es] at e
      cases e
      obtain ⟨x, rfl, r⟩ := allR1 ra
      obtain ⟨l, ys, rfl, h1, h2⟩ := seqOf_some es r
      refine ⟨l, ys, rfl, h1, ?_⟩
      rw [h2.length]
      exact q _ H (Same.refl H) (rInt _ _ _ _)
  · cases e
theorem j_tuple : FnJ G (fun xs H Q => ∃ p ys, xs = [.ref p] ∧ ((SqL G.K H p ys ∧ ∀ l, H l = none → Q (.ref l) (upd H l (.tup ys))) ∨ (SqT G.K H p ys ∧ Q (.ref p) H))) fTuple := by
  intro A H as c xs hl ra e Q q
  unfold fTuple at e
  split at e
  · rename_i a
    obtain ⟨x, rfl, r⟩ := allR1 ra
    cases a <;> simp [seqOf] at e
    · subst e
      have r' := r
      obtain ⟨l, ys, rfl, h1, h2⟩ := r.list
      exact ⟨l, ys, rfl, .inl ⟨h1, fun p hp => q _ _ (same_new hp _) (rep_newT hl hp h2 r'.llen)⟩⟩
    · subst e
      have r' := r
      obtain ⟨l, ys, rfl, h1, h2⟩ := r.tuple
      exact ⟨l, ys, rfl, .inr ⟨h1, q _ H (Same.refl H) (r'.elim id fun ⟨_, _, z⟩ => z.elim)⟩⟩
  · cases e
theorem seqOf_len {K : Fr} {A : Av} {H : Hp} {p : PV} {x : V} {ps : List PV} (e : seqOf p = some ps) (h : BRep K A H p x) : ps.length ≤ line := by
  cases p <;> simp [seqOf] at e
  · subst e; exact h.llen
  · subst e; exact h.tlen
theorem j_list : FnJ G (fun xs H Q => ∃ p ys, xs = [.ref p] ∧ (SqL G.K H p ys ∨ SqT G.K H p ys) ∧ ∀ l, H l = none → Q (.ref l) (upd H l (.lst ys))) fList := by
  intro A H as c xs hl ra e Q q
  unfold fList at e
  split at e
  · rename_i a
    cases es : seqOf a with
    | none => rw [es] at e; cases e
    | some ps =>
      rw [es] at e
      cases e
      obtain ⟨x, rfl, r⟩ := allR1 ra
      have r' := r
      obtain ⟨l, ys, rfl, h1, h2⟩ := seqOf_some es r
      exact ⟨l, ys, rfl, h1, fun p hp => q _ _ (same_new hp _) (rep_newL hl hp h2 (seqOf_len es r'))⟩
  · cases e
theorem j_intF : FnJ G (fun xs H Q => (∃ i, xs = [.int i] ∧ Q (.int i) H) ∨ ∃ k, xs = [.bl k] ∧ Q (.int (if k then 1 else 0)) H) fInt := by
  intro A H as c xs hl ra e Q q
  unfold fInt at e
  split at e
  · cases e
    obtain ⟨x, rfl, r⟩ := allR1 ra
    exact .inl ⟨_, by rw [r.int], q _ H (Same.refl H) (rInt _ _ _ _)⟩
  · cases e
    obtain ⟨x, rfl, r⟩ := allR1 ra
    exact .inr ⟨_, by rw [r.bool], q _ H (Same.refl H) (rInt _ _ _ _)⟩
  · cases e
theorem bools_rep {K : Fr} {A : Av} {H : Hp} : ∀ {ps : List PV} {xs : List V} {bs : List Bool}, boolsOf ps = some bs → Reps K A H ps xs → xs = bs.map V.bl
  | [], xs, bs, e, r => by cases e; rw [Reps] at r; exact r
  | p :: ps, xs, bs, e, r => by
    cases p <;> simp [boolsOf] at e
    obtain ⟨cs, e1, rfl⟩ := e
    rw [Reps] at r
    obtain ⟨x, s, rfl, r1, r2⟩ := r
    rw [Rep] at r1
    rw [r1, bools_rep e1 r2]
    rfl
theorem ints_rep {K : Fr} {A : Av} {H : Hp} : ∀ {ps : List PV} {xs : List V} {bs : List Int}, intsOf ps = some bs → Reps K A H ps xs → xs = bs.map V.int
  | [], xs, bs, e, r => by cases e; rw [Reps] at r; exact r
  | p :: ps, xs, bs, e, r => by
    cases p <;> simp [intsOf] at e
    obtain ⟨cs, e1, rfl⟩ := e
    rw [Reps] at r
    obtain ⟨x, s, rfl, r1, r2⟩ := r
    rw [Rep] at r1
    rw [r1, ints_rep e1 r2]
    rfl
theorem j_all : FnJ G (rAll G.K) fAll := by
  intro A H as c xs hl ra e Q q
  unfold fAll at e
  split at e
  · rename_i ps
    cases eb : boolsOf ps with
    | none => rw [eb] at e; cases e
    | some bs =>
      rw [eb] at e
      cases e
      obtain ⟨x, rfl, r⟩ := allR1 ra
      obtain ⟨l, ys, rfl, h1, h2⟩ := r.list
      rw [bools_rep eb h2] at h1
      exact ⟨l, bs, rfl, h1, q _ H (Same.refl H) (rBool _ _ _ _)⟩
  · cases e
theorem j_any : FnJ G (rAny G.K) fAny := by
  intro A H as c xs hl ra e Q q
  unfold fAny at e
  split at e
  · rename_i ps
    cases eb : boolsOf ps with
    | none => rw [eb] at e; cases e
    | some bs =>
      rw [eb] at e
      cases e
      obtain ⟨x, rfl, r⟩ := allR1 ra
      obtain ⟨l, ys, rfl, h1, h2⟩ := r.list
      rw [bools_rep eb h2] at h1
      exact ⟨l, bs, rfl, h1, q _ H (Same.refl H) (rBool _ _ _ _)⟩
  · cases e
/-! #### sorted of numbers -/
theorem insI_perm (a : Int) : ∀ xs : List Int, (insI a xs).Perm (a :: xs)
  | [] => .refl _
  | b :: r => by
    unfold insI
    split
    · exact .refl _
    · exact ((insI_perm a r).cons b).trans (.swap a b r)
theorem sortI_perm : ∀ xs : List Int, (sortI xs).Perm xs
  | [] => .refl _
  | a :: r => (insI_perm a (sortI r)).trans ((sortI_perm r).cons a)
theorem insI_sorted (a : Int) : ∀ {xs : List Int}, xs.Pairwise (· ≤ ·) → (insI a xs).Pairwise (· ≤ ·)
  | [], _ => List.pairwise_singleton _ _
  | b :: r, h => by
    unfold insI
    split
    · rename_i hab
      refine List.Pairwise.cons (fun x hx => ?_) h
      rcases List.mem_cons.mp hx with rfl | hx
      · exact hab
      · exact Int.le_trans hab (List.rel_of_pairwise_cons h hx)
    · rename_i hab
      refine List.Pairwise.cons (fun x hx => ?_) (insI_sorted a h.of_cons)
      rcases List.mem_cons.mp ((insI_perm a r).mem_iff.mp hx) with rfl | hx
      · omega
      · exact List.rel_of_pairwise_cons h hx
theorem sortI_sorted : ∀ xs : List Int, (sortI xs).Pairwise (· ≤ ·)
  | [] => .nil
  | a :: r => insI_sorted a (sortI_sorted r)
theorem sortI_uniq {xs ys : List Int} (h : ys.Perm xs) (s : ys.Pairwise (· ≤ ·)) : ys = sortI xs :=
  List.Perm.eq_of_pairwise (fun a b _ _ h1 h2 => Int.le_antisymm h1 h2) s (sortI_sorted xs) (h.trans (sortI_perm xs).symm)
theorem j_sorted : FnJ G (rSorted G.K) fSorted := by
  intro A H as c xs hl ra e Q q
  unfold fSorted at e
  split at e
  · rename_i ps
    cases eb : intsOf ps with
    | none => rw [eb] at e; cases e
    | some ns =>
      rw [eb] at e
      simp only [Option.bind_some] at e
      split at e
      · rename_i h64
        cases e
        obtain ⟨x, rfl, r⟩ := allR1 ra
        obtain ⟨l, ys, rfl, h1, h2⟩ := r.list
        rw [ints_rep eb h2] at h1
        refine ⟨l, ns, rfl, h1, h64, fun ns' p hp hs hn => ?_⟩
        rw [sortI_uniq hp hs]
        refine q _ _ (same_new hn _) (rep_newL hl hn ?_ (by rw [List.length_map, (sortI_perm ns).length_eq]; exact Nat.le_of_lt (Nat.lt_trans h64 (by decide))))
        generalize sortI ns = ms
        clear hp hs
        induction ms with
        | nil => exact .nil
        | cons m ms ih => exact .cons (rInt _ _ _ _) ih
      · cases e
  · cases e
end
end Pv
end
section
set_option autoImplicit false
set_option Elab.async false
set_option linter.all false
set_option maxRecDepth 100000
namespace Pv
open PySem PySem.Spec PyProof.Rows L2
variable [TN]
section
variable {G : Gm} {ι : Type} {X : ι → Cx} {k : Nat} {W : WX} {e a b c : Expr} {pa pb pc : PX} {pos : Pos} {es : List Expr} {l : LX}

/-! ### calls of the text's own functions -/
/-- a function that changes nothing: what it makes of n values -/
def spP (G : Gm) (n : Nat) (F : List PV → Rp PV) : Sp := fun vs H Q E => vs.length = n ∧ ∃ A args, (∀ a, A a → H a ≠ none) ∧ TbOk A H ∧ Reps G.F A H args vs ∧ match F args with
  | .ok c => ∀ x H', Same H H' → Rep G.F A H' c x → Q x H'
  | .exc e => ∀ d H', Same H H' → ExcRep G.F A H' d e.flds → E (G.cls e.cls) d H'
  | .bad => False
/-- a function of the text stands: its place, its data, its promise at level k -/
structure FnAt (G : Gm) (k : Nat) (x : Str) (f : Addr) (fd : FuncData) (ps : List Str) (sp : Sp) : Prop where
  ok : FnOk G.P G.w G.K G.mg G.base (L2.CX G.P G.w) k f fd ps sp
  mg : G.mg x = some (.ref f)
  kp : PySem.W.keepIn G.K (.ref f) = true
  bd : Binds G.K fd ps []
theorem x_call {x : Str} {p : Pos} {f : Addr} {fd : FuncData} {ps : List Str} {n : Nat} {F : List PV → Rp PV} (S : Sits G X k W) (hf : FnAt G k x f fd ps (spP G n F)) (hg : ∀ i, Gl (X i) x) (ha : AJ G X W Rep (e :: es) l) (hm : Many n l)
    (hdb : (x == ("__debug__" : Str)) = false := by decide) (he : ∀ i, starEach (e :: es) (X i).env = (false, eval e (X i).env) :: starEach es (X i).env := by intro _; rfl) (hpl : ∀ i, (backTo pos (starEach es (X i).env)).any (·.1) = false := by intro _; rfl) :
    XJ G X W Rep (.Call (.Name x p) (e :: es) [] pos) (pCall F l) := by
  obtain ⟨t, h1, h2⟩ := ha
  refine ⟨tCallS (spP G n F) (WE W) t, fun i => ?_, fun A σ H env Q SS q => h2 A σ H env _ SS ?_⟩
  · refine pe_callS (CX := L2.CX (X i).prog (X i).w) (k := k) (f := f) (fd := fd) (ps := ps) ?_ (S.room i) (hg i) (by rw [S.mg i]; exact hf.mg) (by rw [S.K i]; exact hf.kp) (by rw [S.K i]; exact hf.bd) (fun σ => passAt (S.takes i) σ) (h1 i) hdb (he i) (hpl i)
    rw [S.P i, S.w i, S.K i, S.mg i, S.base i]
    exact hf.ok
  · unfold pCall at q
    cases el : l env with
    | bad => rw [el] at q; exact q.elim
    | exc x => rw [el] at q; exact q
    | ok us =>
      rw [el] at q
      simp only [Rp.ok_bind] at q
      intro xs H1 s1 r1
      refine ⟨by rw [AllR.length r1]; exact hm env us el, A, us, same_live s1 SS.live, SS.tabs.same SS.live s1, AllR.reps r1, ?_⟩
      cases ef : F us with
      | bad => rw [ef] at q; exact q.elim
      | exc x => rw [ef] at q; exact fun d H' s => q d H' (s1.trans s)
      | ok c => rw [ef] at q; exact fun z H' s => q z H' (s1.trans s)

/-! ### walks -/
def Keep (A : Av) (H H' : Hp) : Prop := ∀ a o, H a = some o → ¬ A a → Stay H H' a o
/-- strong: what the frame holds alone may change from turn to turn -/
def Goes (b : Bool) (A : Av) (H H' : Hp) : Prop := if b = true then Keep A H H' else Same H H'
theorem Goes.keep {b : Bool} {A : Av} {H H' : Hp} (g : Goes b A H H') : Keep A H H' := by
  unfold Goes at g
  split at g
  · exact g
  · exact fun a o h _ => g a o h
theorem Goes.of {b : Bool} {A : Av} {H H' : Hp} (g : Same H H') : Goes b A H H' := by
  unfold Goes
  split
  · exact fun a o h _ => g a o h
  · exact g
theorem Keep.ext {A : Av} {H H' : Hp} (g : Keep A H H') : Ext A A H H' := ⟨fun _ h => .inl h, g⟩
theorem Keep.ext' {A A' : Av} {H H' : Hp} (g : Keep A H H') (h : ∀ a, A' a → A a ∨ H a = none) : Ext A A' H H' := ⟨h, g⟩
structure WalkOk (K : Fr) (A : Av) (b : Bool) (H : Hp) (ps : List PV) (J : It) (Gd : Hp → Prop) (Y : Nat → Hp → V → Hp → Prop) : Prop where
  size : ps.length ≤ line
  walk : Walk J ps.length Gd Y
  good : ∀ H', Goes b A H H' → Gd H'
  item : ∀ i x H1 H2 A', i < ps.length → Goes b A H H1 → (∀ a, A' a → A a ∨ H a = none) → (∀ a, A' a → H1 a ≠ none) → Y i H1 x H2 → Same H1 H2 ∧ ∃ p, ps[i]? = some p ∧ Rep K A' H2 p x
def WEnd (G : Gm) (A : Av) (W : WX) (σ : St) (H : Hp) (b : Bool) (R : It → Hp → Prop) : Rp (List PV) → Prop
  | .ok ps => ∀ J H' Gd Y, Same H H' → WalkOk G.F A b H' ps J Gd Y → R J H'
  | .exc e => ∀ d H', Same H H' → ExcRep G.F A H' d e.flds → W (G.cls e.cls) d σ H'
  | .bad => False
/-- something that is walked -/
def WlJ (G : Gm) {ι : Type} (X : ι → Cx) (W : WX) (b : Bool) (tg iter : Expr) (p : LX) : Prop :=
  ∃ wi : TI, (∀ i, PI (X i) tg iter wi) ∧ ∀ A σ H env R, SRep G.F A σ H env → WEnd G A W σ H b R (p env) → wi σ H R
theorem pi_or {X : Cx} {tg iter : Expr} {w w' : TI} (h : PI X tg iter w) (h' : PI X tg iter w') : PI X tg iter (fun σ H R => w σ H R ∨ w' σ H R) :=
  ⟨fun pins s σ H R I q => q.elim (h.run pins s σ H R I) (h'.run pins s σ H R I)⟩
variable {tg iter : Expr}
theorem walk_seqL {K : Fr} {A : Av} {H : Hp} {ps : List PV} {xs : List V} {a : Addr} (h : LsA K A H a xs) (r : Reps K A H ps xs) (hz : ps.length ≤ line) : WalkOk K A true H ps (Itl K a) (fun H => SqL K H a xs) (YAt xs) := by
  have hl := r.length
  refine ⟨hz, by rw [← hl]; exact walk_list, fun H' g => (h.ext g.keep.ext).sq, fun i x H1 H2 A' hi g ha _ y => ?_⟩
  obtain ⟨rfl, y⟩ := y
  obtain ⟨p, h1, h2⟩ := r.get y
  exact ⟨Same.refl _, p, h1, h2.ext (g.keep.ext' ha)⟩
theorem walk_seqT {K : Fr} {A : Av} {H : Hp} {ps : List PV} {xs : List V} {a : Addr} (h : TpA K A H a xs) (r : Reps K A H ps xs) (hz : ps.length ≤ line) : WalkOk K A true H ps (Itt K a) (fun H => SqT K H a xs) (YAt xs) := by
  have hl := r.length
  refine ⟨hz, by rw [← hl]; exact walk_tup, fun H' g => (h.ext g.keep.ext).sq, fun i x H1 H2 A' hi g ha _ y => ?_⟩
  obtain ⟨rfl, y⟩ := y
  obtain ⟨p, h1, h2⟩ := r.get y
  exact ⟨Same.refl _, p, h1, h2.ext (g.keep.ext' ha)⟩
theorem goes_false {A : Av} {H H' : Hp} (g : Goes false A H H') : Same H H' := by unfold Goes at g; simpa using g
theorem goes_up {A : Av} {H H' : Hp} (g : Goes false A H H') : Goes true A H H' := .of (goes_false g)
theorem WalkOk.weak {K : Fr} {A : Av} {H : Hp} {ps : List PV} {J : It} {Gd : Hp → Prop} {Y : Nat → Hp → V → Hp → Prop} (h : WalkOk K A true H ps J Gd Y) : WalkOk K A false H ps J Gd Y :=
  ⟨h.size, h.walk, fun H' g => h.good H' (goes_up g), fun i x H1 H2 A' hi g => h.item i x H1 H2 A' hi (goes_up g)⟩
/-- a list or tuple that is looked at -/
theorem walk_look {K : Fr} {A : Av} {H : Hp} {p : PV} {ps : List PV} {x : V} (e : seqOf p = some ps) (h : BRep K A H p x) : ∃ a, x = .ref a ∧
    ((∃ xs, SqL K H a xs ∧ WalkOk K A false H ps (Itl K a) (fun H => SqL K H a xs) (YAt xs)) ∨ ∃ xs, SqT K H a xs ∧ WalkOk K A false H ps (Itt K a) (fun H => SqT K H a xs) (YAt xs)) := by
  cases p <;> simp [seqOf] at e
  · subst e
    have hz := h.llen
    obtain ⟨a, xs, rfl, h1, h2⟩ := h.list
    refine ⟨a, rfl, .inl ⟨xs, h1, hz, by rw [← h2.length]; exact walk_list, fun H' g => (goes_false g).seq h1, fun i x H1 H2 A' hi g ha _ y => ?_⟩⟩
    obtain ⟨rfl, y⟩ := y
    obtain ⟨p, h3, h4⟩ := h2.get y
    exact ⟨Same.refl _, p, h3, h4.ext (g.keep.ext' ha)⟩
  · subst e
    rcases h with h | ⟨_, _, h⟩
    · rw [Rep] at h
      obtain ⟨a, xs, rfl, h1, h2, hz⟩ := h
      exact ⟨a, rfl, .inr ⟨xs, h1.sq, (walk_seqT h1 h2 hz).weak⟩⟩
    · exact h.elim
theorem wl_look (S : Sits G X k W) (ha : XJ G X W BRep iter pa) : WlJ G X W false tg iter (wSeq pa) := by
  obtain ⟨t, h1, h2⟩ := ha
  refine ⟨fun σ H R => iList G.K t σ H R ∨ iTup G.K t σ H R, fun i => ?_, fun A σ H env R SS q => ?_⟩
  · have := pi_or (pi_list (tg := tg) (h1 i)) (pi_tup (h1 i))
    rw [S.K i] at this
    exact this
  unfold wSeq at q
  cases ea : pa env with
  | bad => rw [ea] at q; exact q.elim
  | exc x => rw [ea] at q; exact .inl (h2 A σ H env _ SS (by rw [ea]; exact q))
  | ok u =>
    rw [ea] at q
    simp only [Rp.ok_bind] at q
    cases es : seqOf u with
    | none => rw [es] at q; exact q.elim
    | some ps =>
      rw [es] at q
      cases u <;> simp [seqOf] at es
      · subst es
        refine .inl (h2 A σ H env _ SS ?_)
        rw [ea]
        intro x H1 s1 r1
        obtain ⟨a, rfl, ⟨xs, h3, h4⟩ | ⟨xs, h3, h4⟩⟩ := walk_look rfl r1
        · exact ⟨a, rfl, ⟨xs, h3⟩, q _ H1 _ _ s1 h4⟩
        · obtain ⟨b, ys, e1, h5, h6⟩ := r1.list
          cases e1
          refine ⟨a, rfl, ⟨ys, h5⟩, q _ H1 (fun H => SqL G.K H a ys) (YAt ys) s1 ⟨r1.llen, by rw [← h6.length]; exact walk_list, fun H' g => (goes_false g).seq h5, fun i x H1 H2 A' hi g ha _ y => ?_⟩⟩
          obtain ⟨rfl, y⟩ := y
          obtain ⟨p, h7, h8⟩ := h6.get y
          exact ⟨Same.refl _, p, h7, h8.ext (g.keep.ext' ha)⟩
      · subst es
        refine .inr (h2 A σ H env _ SS ?_)
        rw [ea]
        intro x H1 s1 r1
        rcases r1 with r1 | ⟨_, _, z⟩
        · rw [Rep] at r1
          obtain ⟨a, xs, rfl, h3, h4, hz⟩ := r1
          exact ⟨a, rfl, ⟨xs, h3.sq⟩, q _ H1 _ _ s1 (walk_seqT h3 h4 hz).weak⟩
        · exact z.elim
theorem wl_seq (S : Sits G X k W) (ha : XJ G X W Rep iter pa) : WlJ G X W true tg iter (wSeq pa) := by
  obtain ⟨t, h1, h2⟩ := ha
  refine ⟨fun σ H R => iList G.K t σ H R ∨ iTup G.K t σ H R, fun i => ?_, fun A σ H env R SS q => ?_⟩
  · have := pi_or (pi_list (tg := tg) (h1 i)) (pi_tup (h1 i))
    rw [S.K i] at this
    exact this
  unfold wSeq at q
  cases ea : pa env with
  | bad => rw [ea] at q; exact q.elim
  | exc x => rw [ea] at q; exact .inl (h2 A σ H env _ SS (by rw [ea]; exact q))
  | ok u =>
    rw [ea] at q
    simp only [Rp.ok_bind] at q
    cases es : seqOf u with
    | none => rw [es] at q; exact q.elim
    | some ps =>
      rw [es] at q
      cases u <;> simp [seqOf] at es
      · subst es
        refine .inl (h2 A σ H env _ SS ?_)
        rw [ea]
        intro x H1 s1 r1
        rw [Rep] at r1
        obtain ⟨a, xs, rfl, h3, h4, hz⟩ := r1
        exact ⟨a, rfl, ⟨xs, h3.sq⟩, q _ H1 _ _ s1 (walk_seqL h3 h4 hz)⟩
      · subst es
        refine .inr (h2 A σ H env _ SS ?_)
        rw [ea]
        intro x H1 s1 r1
        rw [Rep] at r1
        obtain ⟨a, xs, rfl, h3, h4, hz⟩ := r1
        exact ⟨a, rfl, ⟨xs, h3.sq⟩, q _ H1 _ _ s1 (walk_seqT h3 h4 hz)⟩
theorem WlJ.weak {p : LX} (h : WlJ G X W true tg iter p) : WlJ G X W false tg iter p := by
  obtain ⟨t, h1, h2⟩ := h
  refine ⟨t, h1, fun A σ H env R SS q => h2 A σ H env R SS ?_⟩
  revert q
  cases p env with
  | ok ps => exact fun q J H' Gd Y s w => q J H' Gd Y s w.weak
  | exc x => exact fun q => q
  | bad => exact fun q => q
/-- range -/
theorem intsF_get {lo : Int} {n i : Nat} (h : i < n) : (intsFrom lo n)[i]? = some (.int (lo + (i : Int))) := by
  unfold intsFrom
  rw [List.getElem?_map, List.getElem?_range h]
  rfl
theorem intsF_len (lo : Int) (n : Nat) : (intsFrom lo n).length = n := by unfold intsFrom; simp
theorem walk_intsF {K : Fr} {A : Av} {H : Hp} (lo : Int) (n : Nat) (hz : n ≤ line) : WalkOk K A true H (intsFrom lo n) (Itr lo n) (fun _ => True) (YFn fun i => .int (lo + i)) := by
  refine ⟨by rw [intsF_len]; exact hz, by rw [intsF_len]; exact walk_range, fun _ _ => True.intro, fun i x H1 H2 A' hi g ha _ y => ?_⟩
  obtain ⟨rfl, rfl⟩ := y
  rw [intsF_len] at hi
  exact ⟨Same.refl _, _, intsF_get hi, rInt _ _ _ _⟩
theorem wl_range1 {p : Pos} (S : Sits G X k W) (hg : ∀ i, Gl (X i) "range") (hm : G.mg "range" = none) (ha : AJ G X W BRep [a] l) (h1 : Many 1 l) (hs : ∀ i, starEach [a] (X i).env = [(false, eval a (X i).env)] := by intro _; rfl) :
    WlJ G X W true tg (.Call (.Name "range" p) [a] [] pos) (wRange l) := by
  obtain ⟨t, h2, h3⟩ := ha
  refine ⟨_, fun i => pi_range1 (hg i) (by rw [S.mg i]; exact hm) (h2 i) (hs i), fun A σ H env R SS q => h3 A σ H env _ SS ?_⟩
  unfold wRange at q
  cases el : l env with
  | bad => rw [el] at q; exact q.elim
  | exc x => rw [el] at q; exact q
  | ok us =>
    rw [el] at q
    simp only [Rp.ok_bind] at q
    intro xs H1 s1 r1
    have hn := h1 env us el
    match us, hn with
    | [u], _ =>
      obtain ⟨x, rfl, r⟩ := allR1 r1
      cases u with
      | int j =>
        simp only [rangeOf] at q
        split at q
        · rename_i hj
          rw [r.int]
          exact ⟨j, rfl, hj.1, by omega, q _ H1 _ _ s1 (walk_intsF 0 j.toNat (by unfold line; omega))⟩
        · exact q.elim
      | _ => exact q.elim
theorem wl_range2 {p : Pos} (S : Sits G X k W) (hg : ∀ i, Gl (X i) "range") (hm : G.mg "range" = none) (ha : AJ G X W BRep [a, b] l) (h1 : Many 2 l) (hs : ∀ i, starEach [a, b] (X i).env = [(false, eval a (X i).env), (false, eval b (X i).env)] := by intro _; rfl)
    (hs2 : ∀ i, starEach [b] (X i).env = [(false, eval b (X i).env)] := by intro _; rfl) : WlJ G X W true tg (.Call (.Name "range" p) [a, b] [] pos) (wRange l) := by
  obtain ⟨t, h2, h3⟩ := ha
  refine ⟨_, fun i => pi_range2 (hg i) (by rw [S.mg i]; exact hm) (h2 i) (hs i) (hs2 i), fun A σ H env R SS q => h3 A σ H env _ SS ?_⟩
  unfold wRange at q
  cases el : l env with
  | bad => rw [el] at q; exact q.elim
  | exc x => rw [el] at q; exact q
  | ok us =>
    rw [el] at q
    simp only [Rp.ok_bind] at q
    intro xs H1 s1 r1
    have hn := h1 env us el
    match us, hn with
    | [u, v], _ =>
      obtain ⟨x, r, rfl, ra, rb0⟩ := r1
      obtain ⟨y, rfl, rb⟩ := allR1 rb0
      clear rb0
      cases u with
      | int i =>
        cases v with
        | int j =>
          simp only [rangeOf] at q
          split at q
          · rename_i hj
            rw [ra.int, rb.int]
            exact ⟨i, j, rfl, ⟨hj.1, hj.2.1, hj.2.2.2.1, hj.2.2.1⟩, q _ H1 _ _ s1 (walk_intsF i (j - i).toNat (by unfold line; omega))⟩
          · exact q.elim
        | _ => exact q.elim
      | _ => exact q.elim
/-- zip -/
theorem paired_get {ps qs : List PV} {i : Nat} {p q : PV} (h : ps[i]? = some p) (g : qs[i]? = some q) : (paired ps qs)[i]? = some (.tuple [p, q]) := by
  unfold paired
  rw [List.getElem?_zipWith, h, g]
theorem paired_len (ps qs : List PV) : (paired ps qs).length = min ps.length qs.length := by unfold paired; rw [List.length_zipWith]
theorem rep_pair {K : Fr} {A : Av} {H : Hp} (hl : ∀ a, A a → H a ≠ none) {T : Addr} (hT : H T = none) {p q : PV} {x y : V} (h : Rep K A H p x) (g : Rep K A H q y) : Rep K A (upd H T (.tup [x, y])) (.tuple [p, q]) (.ref T) :=
  rep_newT hl hT (.cons h (.one g)) (by show 2 ≤ 16777216; decide)
theorem walk_zipT {K : PySem.W.Frag} {a b : Addr} {xs ys : List V} {n : Nat} (hn : n = min xs.length ys.length) : Walk (RZ.ItzT K a b) n (fun H => SqT K H a xs ∧ SqT K H b ys) (YPair (fun i => xs[i]?) (fun i => ys[i]?)) := by
  subst hn
  refine ⟨fun i _ hi q => ?_, fun _ q => ⟨xs, ys, q.1, q.2, by omega⟩, fun i H v H' _ q y => ?_⟩
  · have h1 : i < xs.length := by omega
    have h2 : i < ys.length := by omega
    exact ⟨xs, ys, xs[i], ys[i], q.1, q.2, by simp [h1], by simp [h2]⟩
  · obtain ⟨T, x, z, h1, h2, h3, h4, h5⟩ := y
    exact ⟨T, x, z, h1, h2, h3, h4 xs q.1, h5 ys q.2⟩
theorem wl_zip {p tpos : Pos} {elts : List Expr} {kk : Nat} (S : Sits G X k W) (hg : ∀ i, Gl (X i) "zip") (hm : G.mg "zip" = none) (ha : XJ G X W Rep a pa) (hb : XJ G X W Rep b pb)
    (hs : ∀ i, starEach [a, b] (X i).env = (false, eval a (X i).env) :: starEach [b] (X i).env := by intro _; rfl) (hs2 : ∀ i, starEach [b] (X i).env = (false, eval b (X i).env) :: starEach [] (X i).env := by intro _; rfl) (hpl : ∀ i, (backTo pos (starEach [b] (X i).env)).any (·.1) = false := by intro _; rfl) :
    WlJ G X W true (.Tuple elts kk tpos) (.Call (.Name "zip" p) [a, b] [] pos) (wZip pa pb) := by
  have hl : AJ G X W Rep [a, b] (pCons pa (pCons pb pNil)) := a_cons ha (a_cons hb a_nil hs2) hs
  obtain ⟨t, h2, h3⟩ := hl
  refine ⟨RZ.iZipA G.K t, fun i => ?_, fun A σ H env R SS q => h3 A σ H env _ SS ?_⟩
  · have := RZ.pi_zipA (elts := elts) (kk := kk) (tpos := tpos) (p := p) (pos := pos) (hg i) (by rw [S.mg i]; exact hm) (h2 i) (hs i) (hpl i)
    rw [S.K i] at this
    exact this
  unfold wZip at q
  unfold pCons pNil
  cases ea : pa env with
  | bad => rw [ea] at q; exact q.elim
  | exc x => rw [ea] at q; exact q
  | ok u =>
    rw [ea] at q
    simp only [Rp.ok_bind] at q ⊢
    cases eb : pb env with
    | bad => rw [eb] at q; exact q.elim
    | exc x => rw [eb] at q; exact q
    | ok v =>
      rw [eb] at q
      simp only [Rp.ok_bind] at q ⊢
      intro xs H1 s1 r1
      obtain ⟨x, r, rfl, ra, rb0⟩ := r1
      obtain ⟨y, rfl, rb⟩ := allR1 rb0
      clear rb0
      cases u with
      | list ps =>
        cases v with
        | list qs =>
          rw [Rep] at ra rb
          obtain ⟨a1, xs, rfl, h4, h5, hz1⟩ := ra
          obtain ⟨b1, ys, rfl, h6, h7, hz2⟩ := rb
          refine ⟨a1, b1, xs, ys, rfl, .inl ⟨h4.sq, h6.sq, q _ H1 (fun H => SqL G.K H a1 xs ∧ SqL G.K H b1 ys) (YPair (fun i => xs[i]?) (fun i => ys[i]?)) s1 ⟨by rw [paired_len]; omega, ?_, ?_, ?_⟩⟩⟩
          · exact walk_zip (by rw [paired_len, h5.length, h7.length])
          · exact fun H' g => ⟨(h4.ext g.keep.ext).sq, (h6.ext g.keep.ext).sq⟩
          · intro i z H2 H3 A' hi g ha hl y
            obtain ⟨T, x1, x2, rfl, hT, rfl, e1, e2⟩ := y
            obtain ⟨p1, f1, f2⟩ := h5.get e1
            obtain ⟨p2, f3, f4⟩ := h7.get e2
            exact ⟨same_new hT _, _, paired_get f1 f3, rep_pair hl hT (f2.ext (g.keep.ext' ha)) (f4.ext (g.keep.ext' ha))⟩
        | _ => exact q.elim
      | tuple ps =>
        cases v with
        | tuple qs =>
          rw [Rep] at ra rb
          obtain ⟨a1, xs, rfl, h4, h5, hz1⟩ := ra
          obtain ⟨b1, ys, rfl, h6, h7, hz2⟩ := rb
          refine ⟨a1, b1, xs, ys, rfl, .inr ⟨h4.sq, h6.sq, q _ H1 (fun H => SqT G.K H a1 xs ∧ SqT G.K H b1 ys) (YPair (fun i => xs[i]?) (fun i => ys[i]?)) s1 ⟨by rw [paired_len]; omega, ?_, ?_, ?_⟩⟩⟩
          · exact walk_zipT (by rw [paired_len, h5.length, h7.length])
          · exact fun H' g => ⟨(h4.ext g.keep.ext).sq, (h6.ext g.keep.ext).sq⟩
          · intro i z H2 H3 A' hi g ha hl y
            obtain ⟨T, x1, x2, rfl, hT, rfl, e1, e2⟩ := y
            obtain ⟨p1, f1, f2⟩ := h5.get e1
            obtain ⟨p2, f3, f4⟩ := h7.get e2
            exact ⟨same_new hT _, _, paired_get f1 f3, rep_pair hl hT (f2.ext (g.keep.ext' ha)) (f4.ext (g.keep.ext' ha))⟩
        | _ => exact q.elim
      | _ => exact q.elim
end
end Pv
end
section
set_option autoImplicit false
set_option Elab.async false
set_option linter.all false
set_option maxRecDepth 100000
namespace Pv
open PySem PySem.Spec PyProof.Rows L2
variable [TN]
section
variable {G : Gm} {ι : Type} {X : ι → Cx} {k : Nat} {W : WX} {e a b c : Expr} {pa pb pc : PX} {pos : Pos} {es : List Expr} {l : LX} {tg iter : Expr}

/-! ### targets -/
def setV (σ : St) : List (Nat × V) → St
  | [] => σ
  | (i, v) :: r => setV (σ.set i (some v)) r
/-- the stores of a target: slots with values -/
def Stores (K : Fr) (A : Av) (H : Hp) : List (Nat × PV) → List (Nat × V) → Prop
  | [], ys => ys = []
  | (i, p) :: r, ys => ∃ x s, ys = (i, x) :: s ∧ Rep K A H p x ∧ Stores K A H r s
theorem Stores.append {K : Fr} {A : Av} {H : Hp} : ∀ {l m : List (Nat × PV)} {l' m' : List (Nat × V)}, Stores K A H l l' → Stores K A H m m' → Stores K A H (l ++ m) (l' ++ m')
  | [], m, l', m', h, g => by rw [show l' = [] from h]; exact g
  | (i, p) :: r, m, l', m', ⟨x, s, e, h1, h2⟩, g => by rw [e]; exact ⟨x, s ++ m', rfl, h1, Stores.append h2 g⟩
theorem setV_append (σ : St) : ∀ (l m : List (Nat × V)), setV σ (l ++ m) = setV (setV σ l) m
  | [], m => rfl
  | (i, v) :: r, m => by show setV (σ.set i (some v)) (r ++ m) = _; rw [setV_append]; rfl
def GJ (G : Gm) {ι : Type} (X : ι → Cx) (tg : Expr) (g : GX) (ts : List Nat) : Prop :=
  ∃ t : TG, (∀ i, PG (X i) tg t) ∧ ∀ A H p x l, Rep G.F A H p x → g p = some l → l.map (·.1) = ts ∧ ∃ l', Stores G.F A H l l' ∧ ∀ σ Q, Q (setV σ l') H → t x σ H Q
theorem g_name {i : Nat} {x : Str} (S : Sits G X k W) (hi : ∀ j, (X j).N[i]? = some x) (hx : ∀ j, Loc (X j).env.scope x) (hf : ∀ j, (X j).fn x = true ∨ (X j).env.scope.names.lookup x = some .local) : GJ G X (.Name x pos) (gSet i) [i] := by
  refine ⟨_, fun j => pg_name (S.nd j) (hi j) (hx j) (hf j), fun A H p x l r e => ?_⟩
  cases e
  exact ⟨rfl, [(i, x)], ⟨x, [], rfl, r, rfl⟩, fun σ Q q => q⟩
def GsJ (G : Gm) {ι : Type} (X : ι → Cx) (tgs : List Expr) (g : GXs) (ts : List Nat) : Prop :=
  ∃ t : TGs, (∀ i, PGs (X i) tgs t) ∧ ∀ A H ps xs l, Reps G.F A H ps xs → g ps = some l → ps.length = tgs.length ∧ l.map (·.1) = ts ∧ ∃ l', Stores G.F A H l l' ∧ ∀ σ Q, Q (setV σ l') H → t xs σ H Q
theorem gs_nil : GsJ G X [] gNil [] := by
  refine ⟨_, fun i => pgs_nil, fun A H ps xs l r e => ?_⟩
  cases ps with
  | nil => cases e; rw [Reps] at r; subst r; exact ⟨rfl, rfl, [], rfl, fun σ Q q => ⟨rfl, q⟩⟩
  | cons _ _ => cases e
theorem gs_cons {g : GX} {gs : GXs} {t1 t2 : List Nat} {tgs : List Expr} (h : GJ G X tg g t1) (h' : GsJ G X tgs gs t2) (hs : ∀ i, (assignEach (tg :: tgs) (X i).env).map (·.2) = assign tg (X i).env :: (assignEach tgs (X i).env).map (·.2) := by intro _; rfl) :
    GsJ G X (tg :: tgs) (gCons g gs) (t1 ++ t2) := by
  obtain ⟨t, h1, h2⟩ := h
  obtain ⟨u, h3, h4⟩ := h'
  refine ⟨_, fun i => pgs_cons (h1 i) (h3 i) (hs i), fun A H ps xs l r e => ?_⟩
  cases ps with
  | nil => cases e
  | cons p ps =>
    rw [Reps] at r
    obtain ⟨x, s, rfl, r1, r2⟩ := r
    simp only [gCons] at e
    cases eg : g p with
    | none => rw [eg] at e; cases e
    | some l1 =>
      rw [eg] at e
      simp only [Option.bind_some] at e
      cases er : gs ps with
      | none => rw [er] at e; cases e
      | some l2 =>
        rw [er] at e
        cases e
        obtain ⟨q1, l1', q2, q3⟩ := h2 A H p x l1 r1 eg
        obtain ⟨q0, q4, l2', q5, q6⟩ := h4 A H ps s l2 r2 er
        refine ⟨by simp [q0], by rw [List.map_append, q1, q4], l1' ++ l2', q2.append q5, fun σ Q q => ⟨x, s, rfl, q3 _ _ (q6 _ _ ?_)⟩⟩
        rw [← setV_append]
        exact q
theorem g_tup {gs : GXs} {ts : List Nat} {tgs : List Expr} {kk : Nat} (S : Sits G X k W) (h : GsJ G X tgs gs ts) (hn : ∀ i, (assignEach tgs (X i).env).length = tgs.length := by intro _; rfl) (hst : ∀ i, (assignEach tgs (X i).env).findIdx? (·.1) = none := by intro _; rfl) :
    GJ G X (.Tuple tgs kk pos) (gTuple gs) ts := by
  obtain ⟨t, h1, h2⟩ := h
  refine ⟨gTup G.K tgs.length t, fun i => ?_, fun A H p x l r e => ?_⟩
  · have := pg_tup (k := kk) (pos := pos) (S.calm i) (h1 i) (hn i) (hst i)
    rw [S.K i] at this
    exact this
  · cases p with
    | tuple ps =>
      rw [Rep] at r
      obtain ⟨a, xs, rfl, h3, h4, _⟩ := r
      obtain ⟨q0, q1, l', q2, q3⟩ := h2 A H ps xs l h4 e
      exact ⟨q1, l', q2, fun σ Q q => ⟨a, xs, rfl, h3.sq, by rw [h4.length]; exact q0, q3 σ Q q⟩⟩
    | _ => cases e
theorem SRep.put {A : Av} {σ : St} {H : Hp} {env : Env} {i : Nat} {p : PV} {x : V} (S : SRep G.F A σ H env) (r : Rep G.F A H p x) : SRep G.F A (σ.set i (some x)) H (env.set i (.v p)) := by
  refine ⟨S.live, by simp [S.len], fun j q e => ?_, fun j b q e => ?_, S.tabs⟩
  · by_cases hj : i = j
    · subst hj
      by_cases hi : i < env.length
      · rw [List.getElem?_set_self hi] at e
        cases e
        exact ⟨x, by rw [List.getElem?_set_self (by rw [S.len]; exact hi)], r⟩
      · rw [List.getElem?_eq_none (by simpa using hi)] at e
        cases e
    · rw [List.getElem?_set_ne hj] at e ⊢
      exact S.slot j q e
  · by_cases hj : i = j
    · subst hj
      by_cases hi : i < env.length
      · rw [List.getElem?_set_self hi] at e
        cases e
      · rw [List.getElem?_eq_none (by simpa using hi)] at e
        cases e
    · rw [List.getElem?_set_ne hj] at e ⊢
      exact S.own j b q e
theorem SRep.puts {A : Av} {H : Hp} : ∀ {l : List (Nat × PV)} {l' : List (Nat × V)} {σ : St} {env : Env}, SRep G.F A σ H env → Stores G.F A H l l' → SRep G.F A (setV σ l') H (Pv.puts env l)
  | [], l', σ, env, S, h => by rw [show l' = [] from h]; exact S
  | (i, p) :: r, l', σ, env, S, ⟨x, s, e, h1, h2⟩ => by
    rw [e]
    show SRep G.F A (setV (σ.set i (some x)) s) H (Pv.puts (env.set i (.v p)) r)
    exact SRep.puts (S.put h1) h2
theorem SRep.unset {A : Av} {σ : St} {H : Hp} {env : Env} {i : Nat} (S : SRep G.F A σ H env) : SRep G.F A (σ.set i none) H (env.set i .no) := by
  refine ⟨S.live, by simp [S.len], fun j q e => ?_, fun j b q e => ?_, S.tabs⟩
  all_goals
    by_cases hj : i = j
    · subst hj
      by_cases hi : i < env.length
      · rw [List.getElem?_set_self hi] at e
        cases e
      · rw [List.getElem?_eq_none (by simpa using hi)] at e
        cases e
    · rw [List.getElem?_set_ne hj] at e ⊢
      first | exact S.slot j q e | exact S.own j b q e
theorem SRep.wipes {A : Av} {σ : St} {H : Hp} {env : Env} (S : SRep G.F A σ H env) : ∀ vs : List Nat, SRep G.F A (wipe σ vs) H (Pv.wipes env vs)
  | [] => S
  | v :: vs => (S.wipes vs).unset
theorem wipe_set {σ : St} {i : Nat} {x : Option V} : ∀ {vs : List Nat}, i ∈ vs → wipe (σ.set i x) vs = wipe σ vs
  | v :: vs, h => by
    unfold wipe
    by_cases hv : i ∈ vs
    · rw [wipe_set hv]
    · have e : i = v := by
        rcases List.mem_cons.mp h with e | h
        · exact e
        · exact absurd h hv
      subst e
      apply List.ext_getElem?
      intro j
      by_cases hj : i = j
      · subst hj
        rw [List.getElem?_set, List.getElem?_set]
        simp [wipe_length]
      · rw [List.getElem?_set_ne hj, List.getElem?_set_ne hj]
        have : ∀ (τ : St) (ws : List Nat), (wipe τ ws)[j]? = if j ∈ ws then (τ[j]?).map (fun _ => none) else τ[j]? := by
          intro τ ws
          induction ws with
          | nil => simp [wipe]
          | cons w ws ih =>
            unfold wipe
            by_cases hw : w = j
            · subst hw
              rw [List.getElem?_set]
              simp only [if_true, wipe_length, List.mem_cons, true_or]
              by_cases hl : w < τ.length
              · simp [hl]
              · simp [hl, List.getElem?_eq_none (Nat.le_of_not_lt hl)]
            · rw [List.getElem?_set_ne hw, ih]
              have : j ≠ w := Ne.symm hw
              simp [this]
        rw [this, this, List.getElem?_set_ne hj]
theorem wipe_at (τ : St) (j : Nat) (ws : List Nat) : (wipe τ ws)[j]? = if j ∈ ws then (τ[j]?).map (fun _ => none) else τ[j]? := by
  induction ws with
  | nil => simp [wipe]
  | cons w ws ih =>
    unfold wipe
    by_cases hw : w = j
    · subst hw
      rw [List.getElem?_set]
      simp only [if_true, wipe_length, List.mem_cons, true_or]
      by_cases hl : w < τ.length
      · simp [hl]
      · simp [hl, List.getElem?_eq_none (Nat.le_of_not_lt hl)]
    · rw [List.getElem?_set_ne hw, ih]
      have : j ≠ w := Ne.symm hw
      simp [this]
theorem wipe_wipe (σ : St) (vs : List Nat) (j : Nat) : (wipe (wipe σ vs) vs)[j]? = (wipe σ vs)[j]? := by
  rw [wipe_at, wipe_at]
  by_cases h : j ∈ vs
  · simp only [if_pos h, wipe_at, Option.map_map]
    cases σ[j]? <;> rfl
  · simp only [if_neg h, wipe_at]
theorem wipe_setV : ∀ {l : List (Nat × V)} {σ : St} {vs : List Nat}, (∀ q ∈ l, q.1 ∈ vs) → wipe (setV σ l) vs = wipe σ vs
  | [], σ, vs, _ => rfl
  | (i, v) :: r, σ, vs, h => by
    show wipe (setV (σ.set i (some v)) r) vs = _
    rw [wipe_setV fun q hq => h q (List.mem_cons_of_mem _ hq), wipe_set (h (i, v) List.mem_cons_self)]
theorem Stores.keys {K : Fr} {A : Av} {H : Hp} : ∀ {l : List (Nat × PV)} {l' : List (Nat × V)}, Stores K A H l l' → l'.map (·.1) = l.map (·.1)
  | [], l', h => by rw [show l' = [] from h]; rfl
  | (i, p) :: r, l', ⟨x, s, e, h1, h2⟩ => by rw [e]; simp [h2.keys]

/-! ### list comprehensions -/
abbrev BIx (ι : Type) := ι × Shared × Hp × Addr × List (Str × Addr) × List Addr
/-- the contexts of a comprehension's block -/
def blkF {ι : Type} (X : ι → Cx) (scope : Scope) : BIx ι → Cx := fun j => (X j.1).blk j.2.1 j.2.2.1 scope (compEnvC scope j.2.2.2.2.1 j.2.2.2.1 (X j.1).env) j.2.2.2.2.2
abbrev noW : WX := fun _ _ _ _ => False
theorem Sits.blk (S : Sits G X k W) (scope : Scope) : Sits G (blkF X scope) k noW :=
  ⟨fun j => S.P j.1, fun j => S.w j.1, fun j => S.K j.1, fun j => S.mg j.1, fun j => S.base j.1, fun j => S.calm j.1, fun j => S.room j.1, fun j => takes0, fun j => S.nd j.1, fun j => PassesOwn.never⟩
/-- the tests of a clause -/
def TsJ (G : Gm) {ι : Type} (X : ι → Cx) (W : WX) (ifs : List Expr) (p : TX) : Prop :=
  ∃ t : TT, (∀ i, PTs (X i) ifs t) ∧ ∀ A σ H env Q, SRep G.F A σ H env → TEnd G A W σ H Q (p env) → t σ H Q
theorem ts_nil : TsJ G X W [] tYes := ⟨_, fun i => pts_nil, fun A σ H env Q S q => q H (Same.refl H)⟩
theorem ts_one {tc : TX} (h : TJ G X W c tc) : TsJ G X W [c] tc := let ⟨t, h1, h2⟩ := h; ⟨t, fun i => pts_one (h1 i), h2⟩
theorem comp_sim {scope : Scope} {own : List Nat} {ts : List Nat} {p : LX} {g : GX} {tc : TX} {wi : TI} {gt : TG} {tt : TT} {te : TE} (hts : ∀ i ∈ ts, i ∈ own)
    (hw : ∀ A σ H env R, SRep G.F A σ H env → WEnd G A W σ H false R (p env) → wi σ H R)
    (hg : ∀ A H p x l, Rep G.F A H p x → g p = some l → l.map (·.1) = ts ∧ ∃ l', Stores G.F A H l l' ∧ ∀ σ Q, Q (setV σ l') H → gt x σ H Q)
    (ht : ∀ A σ H env Q, SRep G.F A σ H env → TEnd G A noW σ H Q (tc env) → tt σ H Q)
    (he : ∀ A σ H env Q, SRep G.F A σ H env → XEnd G A noW σ H (fun c x H' => Rep G.F A H' c x) Q (pa env) → te σ H Q)
    (A : Av) (σ : St) (H : Hp) (env : Env) (Q : VK) (SS : SRep G.F A σ H env) (q : XEnd G A W σ H (fun c x H' => Rep G.F A H' c x) Q (pComp own p g tc pa env)) : tLc wi gt tt te own σ H Q := by
  refine hw A σ H env _ SS ?_
  unfold pComp at q
  cases ep : p env with
  | bad => rw [ep] at q; exact q.elim
  | exc x => rw [ep] at q; exact q
  | ok ps =>
    rw [ep] at q
    simp only [Rp.ok_bind] at q
    intro J H1 Gd Y s1 wk D nD
    cases eg : compGo g tc pa (wipes env own) ps with
    | bad => rw [eg] at q; exact q.elim
    | exc x => rw [eg] at q; exact q.elim
    | ok ys =>
      rw [eg] at q
      have q' : ∀ x H', Same H H' → Rep G.F A H' (.list ys) x → Q x H' := q
      -- what is avoided: the new list too
      have live1 : ∀ a, A a → H1 a ≠ none := same_live s1 SS.live
      have nA : ¬ A D := na_new live1 nD
      refine lc_it wk.walk (fun i Hc => ∃ acc done rest, i + rest.length = ps.length ∧ ps.drop i = rest ∧ Same H1 Hc ∧ Hc D = some (.lst acc) ∧ acc.length ≤ i ∧ Reps G.F (fun a => A a ∨ a = D) Hc done acc ∧ ∃ more, compGo g tc pa (wipes env own) rest = .ok more ∧ ys = done ++ more) ?_ ?_ ?_ ?_
      · exact ⟨[], [], ps, by omega, rfl, same_new nD _, upd_same, Nat.le_refl _, .nil, ys, eg, rfl⟩
      · rintro i Hc - ⟨acc, done, rest, h1, h2, h3, h4, h5, h6, more, h7, h8⟩
        exact wk.good Hc (.of h3)
      · rintro i x Hc H2 hi ⟨acc, done, rest, h1, h2, h3, h4, h5, h6, more, h7, h8⟩ y
        have live2 : ∀ a, A a → Hc a ≠ none := same_live h3 live1
        obtain ⟨s2, p0, e0, r0⟩ := wk.item i x Hc H2 (fun a => A a ∨ a = D) hi (.of h3) (fun a z => z.elim .inl fun z => .inr (by rw [z]; exact nD)) (fun a z => z.elim (live2 a) fun z => by rw [z, h4]; exact Option.some_ne_none _) y
        have e1 : rest = p0 :: ps.drop (i + 1) := by
          rw [← h2, List.drop_eq_getElem?_toList_append, e0]
          rfl
        rw [e1, compGo] at h7
        cases egp : g p0 with
        | none => rw [egp] at h7; cases h7
        | some l0 =>
          rw [egp] at h7
          simp only [ofOpt_some, Rp.ok_bind] at h7
          have live3 : ∀ a, (A a ∨ a = D) → H2 a ≠ none := fun a z => by
            rcases z with z | z
            · exact same_live s2 live2 a z
            · rw [z, s2 _ _ h4]; exact Option.some_ne_none _
          have SW : SRep G.F (fun a => A a ∨ a = D) (wipe σ own) H2 (wipes env own) := by
            refine SRep.wipes ⟨live3, SS.len, fun j pj ej => ?_, fun j bj pj ej => ?_, ((SS.tabs.same SS.live s1).same live1 (h3.trans s2)).add (pl_nc (s2 _ _ h4) True.intro) fun a z => z⟩ own
            · obtain ⟨xj, f1, f2⟩ := SS.slot j pj ej
              refine ⟨xj, f1, ((f2.same s1).ext (A' := fun a => A a ∨ a = D) ⟨fun a z => ?_, fun a o z _ => Stay.refl z⟩).same (h3.trans s2)⟩
              rcases z with z | z
              · exact .inl z
              · exact .inr (by rw [z]; exact nD)
            · obtain ⟨xj, f1, f2⟩ := SS.own j bj pj ej
              refine ⟨xj, f1, ?_⟩
              have f3 := f2.same s1
              have f4 : OwnAt G.F (fun a => A a ∨ a = D) H1 pj xj := by
                cases pj with
                | list zs =>
                  obtain ⟨us, u1, u2, u3⟩ := f3
                  exact ⟨us, u1, Reps.ext ⟨fun a z => z.elim .inl fun z => .inr (by rw [z]; exact nD), fun a o z _ => Stay.refl z⟩ u2, u3⟩
                | dict tk zs =>
                  rcases f3 with ⟨ht, us, u1, u2⟩ | ⟨ht, us, u1, u2⟩
                  · exact .inl ⟨ht, us, u1, RepK.ext ⟨fun a z => z.elim .inl fun z => .inr (by rw [z]; exact nD), fun a o z _ => Stay.refl z⟩ u2⟩
                  · exact .inr ⟨ht, us, u1, RepT.ext ⟨fun a z => z.elim .inl fun z => .inr (by rw [z]; exact nD), fun a o z _ => Stay.refl z⟩ u2⟩
                | _ => exact f3.elim
              exact f4.same (h3.trans s2)
          obtain ⟨k1, l', st, kk⟩ := hg _ H2 p0 x l0 r0 egp
          refine kk (wipe σ own) _ ⟨?_, ?_⟩
          · rw [wipe_setV fun z hz => hts _ ?_]
            · apply List.ext_getElem?
              intro j
              exact wipe_wipe σ own j
            · rw [← k1, ← st.keys]
              exact List.mem_map.mpr ⟨z, hz, rfl⟩
          have S1 := SW.puts st
          refine ht _ _ H2 _ _ S1 ?_
          cases ec : tc (puts (Pv.wipes env own) l0) with
          | bad => rw [ec] at h7; cases h7
          | exc x => rw [ec] at h7; cases h7
          | ok bb =>
            rw [ec] at h7
            simp only [Rp.ok_bind] at h7
            intro H3 s3
            have lenrest : (ps.drop (i + 1)).length + (i + 1) = ps.length := by
              rw [List.length_drop]; omega
            cases bb with
            | false =>
              rw [if_neg Bool.false_ne_true]
              simp only [Bool.false_eq_true, if_false] at h7
              exact ⟨acc, done, ps.drop (i + 1), by omega, rfl, h3.trans (s2.trans s3), s3 _ _ (s2 _ _ h4), by omega, h6.same (s2.trans s3), more, h7, h8⟩
            | true =>
              rw [if_pos rfl]
              simp only [if_true] at h7
              refine he _ _ H3 _ _ (S1.same s3) ?_
              cases ee : pa (puts (Pv.wipes env own) l0) with
              | bad => rw [ee] at h7; cases h7
              | exc x => rw [ee] at h7; cases h7
              | ok y0 =>
                rw [ee] at h7
                simp only [Rp.ok_bind] at h7
                cases er : compGo g tc pa (Pv.wipes env own) (ps.drop (i + 1)) with
                | bad => rw [er] at h7; cases h7
                | exc x => rw [er] at h7; cases h7
                | ok more' =>
                  rw [er] at h7
                  cases h7
                  intro z H4 s4 rz
                  have hD4 : H4 D = some (.lst acc) := s4 _ _ (s3 _ _ (s2 _ _ h4))
                  have up : Ext (fun a => A a ∨ a = D) (fun a => A a ∨ a = D) H4 (upd H4 D (.lst (acc ++ [z]))) := ⟨fun a z => .inl z, fun a o q nz => stay_upd hD4 True.intro q fun e => nz (.inr e)⟩
                  refine ⟨acc, hD4, ?_, acc ++ [z], done ++ [y0], ps.drop (i + 1), by omega, rfl, same_updN (h3.trans (s2.trans (s3.trans s4))) nD hD4 True.intro, upd_same, by simp; omega, ?_, more', er, by simp [h8]⟩
                  · have := wk.size
                    rw [line_eq] at this
                    omega
                  · exact (Reps.ext up (h6.same (s2.trans (s3.trans s4)))).append (.one (rz.ext up))
      · rintro Hc ⟨acc, done, rest, h1, h2, h3, h4, h5, h6, more, h7, h8⟩
        have e1 : rest = [] := by
          rw [← h2]
          exact List.drop_eq_nil_of_le (Nat.le_refl _)
        rw [e1, compGo] at h7
        cases h7
        rw [List.append_nil] at h8
        subst h8
        refine q' _ _ (s1.trans h3) ?_
        rw [Rep]
        refine ⟨D, acc, rfl, .inl ⟨nA, .inl h4⟩, Reps.ext ⟨fun a z => .inl (.inl z), fun a o z _ => Stay.refl z⟩ h6, ?_⟩
        rw [← h6.length]
        exact Nat.le_trans h5 wk.size
end
end Pv
end
section
set_option autoImplicit false
set_option Elab.async false
set_option linter.all false
set_option maxRecDepth 100000
namespace Pv
open PySem PySem.Spec PyProof.Rows L2
variable [TN]
section
variable {G : Gm} {ι : Type} {X : ι → Cx} {k : Nat} {W : WX} {e a b c elt : Expr} {pa pb pc : PX} {pos : Pos} {es ifs : List Expr} {l : LX} {tg iter : Expr}

/-- [elt for tg in iter if ..] -/
theorem x_comp {scope : Scope} {own : List (Str × Nat)} {ts : List Nat} {p : LX} {g : GX} {tc : TX} (S : Sits G X k W) (hw : WlJ G X W false tg iter p) (ok : ∀ i, BlkOk (X i).N (X i).env.scope scope own)
    (hg : GJ G (blkF X scope) tg g ts) (ht : TsJ G (blkF X scope) noW ifs tc) (he : XJ G (blkF X scope) noW Rep elt pa) (hts : ∀ i ∈ ts, i ∈ own.map (·.2)) (hs : ∀ i x, foldedSetIterable iter (X i).env x = pure x := by intro _ _; rfl) :
    XJ G X W Rep (.ListComp elt [⟨tg, iter, ifs, 0⟩] scope pos) (pComp (own.map (·.2)) p g tc pa) := by
  obtain ⟨wi, w1, w2⟩ := hw
  obtain ⟨gt, g1, g2⟩ := hg
  obtain ⟨tt, t1, t2⟩ := ht
  obtain ⟨te, e1, e2⟩ := he
  exact ⟨_, fun i => pe_lc (S.calm i) (S.nd i) (w1 i) (ok i) (fun s H C cl fp => g1 (i, s, H, C, cl, fp)) (fun s H C cl fp => t1 (i, s, H, C, cl, fp)) (fun s H C cl fp => e1 (i, s, H, C, cl, fp)) (hs i), comp_sim (scope := scope) hts w2 g2 t2 e2⟩

/-! ### the state of a body -/
/-- the heap at the entry; what the callers lend; what the callers hold alone; the lent slots -/
structure Fp where
  H0 : Hp
  I : Av
  B : Av
  L : Nat → Option Addr
def StRep (K : Fr) (F : Fp) (σ : St) (H : Hp) (env : Env) (ts : List (V × PV)) : Prop := ∃ O : Av,
  (∀ a, O a → F.I a ∨ F.H0 a = none) ∧ (∀ a o, F.H0 a = some o → ¬ F.I a → Stay F.H0 H a o) ∧ SRep K (fun a => O a ∨ F.B a) σ H env ∧
  (∀ (i : Nat) (b : Bool) (p : PV) (a : Addr), env[i]? = some (.o b p) → σ[i]? = some (some (.ref a)) → O a) ∧
  (∀ (i j : Nat) (b b' : Bool) (p q : PV) (a : Addr), env[i]? = some (.o b p) → env[j]? = some (.o b' q) → σ[i]? = some (some (.ref a)) → σ[j]? = some (some (.ref a)) → i = j) ∧
  ((∀ a, O a → ¬ F.B a) ∧ ∀ (i : Nat) (p : PV), env[i]? = some (.o true p) → ∃ a, F.L i = some a ∧ σ[i]? = some (some (.ref a))) ∧ ∀ t ∈ ts, Rep K (fun a => O a ∨ F.B a) H t.2 t.1
def SEnd (G : Gm) (F : Fp) (ts : List (V × PV)) (W : WX) (D : Ends) : Rs Flow → Prop
  | .ok .next env => ∀ σ' H', StRep G.F F σ' H' env ts → D.nx σ' H'
  | .ok (.ret p) env => ∀ x σ' H', StRep G.F F σ' H' env ((x, p) :: ts) → D.rt x H'
  | .ok .brk env => ∀ σ' H', StRep G.F F σ' H' env ts → D.bk σ' H'
  | .ok .cnt env => ∀ σ' H', StRep G.F F σ' H' env ts → D.ct σ' H'
  | .exc x env => ∀ d σ' H', StRep G.F F σ' H' env ts → ExcRep G.F F.B H' d x.flds → W (G.cls x.cls) d σ' H'
  | .bad => False
/-- a statement; a block -/
def S1 (G : Gm) {ι : Type} (X : ι → Cx) (W : WX) (st : Stmt) (m : SM) : Prop :=
  ∃ t : TS, (∀ i, PS (X i) st t) ∧ ∀ F σ H env ts D, StRep G.F F σ H env ts → SEnd G F ts W D (m env) → t D σ H
def SS (G : Gm) {ι : Type} (X : ι → Cx) (W : WX) (st : List Stmt) (m : SM) : Prop :=
  ∃ t : TS, (∀ i, PSs (X i) st t) ∧ ∀ F σ H env ts D, StRep G.F F σ H env ts → SEnd G F ts W D (m env) → t D σ H
variable {st : Stmt} {sts : List Stmt} {m n : SM} {F : Fp} {σ : St} {H H' : Hp} {env : Env} {ts : List (V × PV)}
theorem StRep.same (h : StRep G.F F σ H env ts) (s : Same H H') : StRep G.F F σ H' env ts := by
  obtain ⟨O, h1, h2, h3, h4, h5, h6, h7⟩ := h
  exact ⟨O, h1, fun a o e n => (h2 a o e n).same s, h3.same s, h4, h5, h6, fun t ht => (h7 t ht).same s⟩
/-- an expression within a statement -/
theorem in_x {t : TE} {Q : VK} (st : StRep G.F F σ H env ts) (h : ∀ A σ H env Q, SRep G.F A σ H env → XEnd G A W σ H (fun c x H' => Rep G.F A H' c x) Q (pa env) → t σ H Q)
    (q : match pa env with
      | .ok c => ∀ x H', StRep G.F F σ H' env ((x, c) :: ts) → Q x H'
      | .exc x => ∀ d H', StRep G.F F σ H' env ts → ExcRep G.F F.B H' d x.flds → W (G.cls x.cls) d σ H'
      | .bad => False) : t σ H Q := by
  have st' := st
  obtain ⟨O, h1, h2, h3, h4, h5, h6, h7⟩ := st
  refine h _ σ H env Q h3 ?_
  cases e : pa env with
  | bad => rw [e] at q; exact q
  | exc x =>
    rw [e] at q
    intro d H' s ex
    refine q d H' (st'.same s) fun nz => ?_
    obtain ⟨a, m, f1, f2, f3, f4⟩ := ex nz
    exact ⟨a, m, f1, fun z => f2 (.inr z), f3, fun f p fp => let ⟨v, g1, g2⟩ := f4 f p fp; ⟨v, g1, g2.ext (.less fun a z => .inr z)⟩⟩
  | ok c =>
    rw [e] at q
    intro x H' s r
    refine q x H' ⟨O, h1, fun a o e n => (h2 a o e n).same s, h3.same s, h4, h5, h6, fun t ht => ?_⟩
    rcases List.mem_cons.mp ht with rfl | ht
    · exact r
    · exact (h7 t ht).same s
theorem in_t {t : TT} {tc : TX} {Q : Bool → Hp → Prop} (st : StRep G.F F σ H env ts) (h : ∀ A σ H env Q, SRep G.F A σ H env → TEnd G A W σ H Q (tc env) → t σ H Q)
    (q : match tc env with
      | .ok c => ∀ H', StRep G.F F σ H' env ts → Q c H'
      | .exc x => ∀ d H', StRep G.F F σ H' env ts → ExcRep G.F F.B H' d x.flds → W (G.cls x.cls) d σ H'
      | .bad => False) : t σ H Q := by
  have st' := st
  obtain ⟨O, h1, h2, h3, h4, h5, h6, h7⟩ := st
  refine h _ σ H env Q h3 ?_
  cases e : tc env with
  | bad => rw [e] at q; exact q
  | exc x =>
    rw [e] at q
    intro d H' s ex
    refine q d H' (st'.same s) fun nz => ?_
    obtain ⟨a, m, f1, f2, f3, f4⟩ := ex nz
    exact ⟨a, m, f1, fun z => f2 (.inr z), f3, fun f p fp => let ⟨v, g1, g2⟩ := f4 f p fp; ⟨v, g1, g2.ext (.less fun a z => .inr z)⟩⟩
  | ok c => rw [e] at q; exact fun H' s => q H' (st'.same s)
theorem StRep.drop {t : V × PV} (h : StRep G.F F σ H env (t :: ts)) : StRep G.F F σ H env ts := by
  obtain ⟨O, h1, h2, h3, h4, h5, h6, h7⟩ := h
  exact ⟨O, h1, h2, h3, h4, h5, h6, fun t ht => h7 t (List.mem_cons_of_mem _ ht)⟩

/-! ### blocks -/
theorem ss_nil : SS G X W [] sNext := ⟨_, fun i => pss_nil, fun F σ H env ts D st q => q σ H st⟩
theorem SEnd.seq {D : Ends} {u : TS} (h : ∀ F σ H env ts D, StRep G.F F σ H env ts → SEnd G F ts W D (n env) → u D σ H) (q : SEnd G F ts W D (sSeq m n env)) : SEnd G F ts W { D with nx := u D } (m env) := by
  unfold sSeq at q
  cases e : m env with
  | bad => rw [e] at q; exact q
  | exc x env' => rw [e] at q; exact q
  | ok f env' =>
    rw [e] at q
    cases f with
    | next => exact fun σ' H' st' => h F σ' H' env' ts D st' q
    | ret p => exact q
    | brk => exact q
    | cnt => exact q
theorem ss_cons (h : S1 G X W st m) (g : SS G X W sts n) : SS G X W (st :: sts) (sSeq m n) := by
  obtain ⟨t, h1, h2⟩ := h
  obtain ⟨u, h3, h4⟩ := g
  exact ⟨_, fun i => pss_cons (h1 i) (h3 i), fun F σ H env ts D s q => h2 F σ H env ts _ s (SEnd.seq (u := u) h4 q)⟩
theorem ss_one (h : S1 G X W st m) : SS G X W [st] m := by
  obtain ⟨t, h1, h2⟩ := h
  exact ⟨t, fun i => pss_one (h1 i), h2⟩

/-! ### assignments -/
theorem StRep.put {i : Nat} {x : V} {p : PV} (h : StRep G.F F σ H env ((x, p) :: ts)) : StRep G.F F (σ.set i (some x)) H (env.set i (.v p)) ts := by
  obtain ⟨O, h1, h2, h3, h4, h5, h6, h7⟩ := h
  have own : ∀ j b q, (env.set i (.v p))[j]? = some (.o b q) → j ≠ i ∧ env[j]? = some (.o b q) := fun j b q e => by
    by_cases hj : i = j
    · subst hj
      by_cases hi : i < env.length
      · rw [List.getElem?_set_self hi] at e; cases e
      · rw [List.getElem?_eq_none (by simpa using hi)] at e; cases e
    · rw [List.getElem?_set_ne hj] at e
      exact ⟨Ne.symm hj, e⟩
  refine ⟨O, h1, h2, h3.put (h7 _ List.mem_cons_self), fun j b q a e1 e2 => ?_, fun j j' b b' q q' a e1 e2 e3 e4 => ?_, ⟨h6.1, fun j q e1 => ?_⟩, fun t ht => h7 t (List.mem_cons_of_mem _ ht)⟩
  · obtain ⟨n1, e⟩ := own j b q e1
    rw [List.getElem?_set_ne (Ne.symm n1)] at e2
    exact h4 j b q a e e2
  · obtain ⟨n1, e⟩ := own j b q e1
    obtain ⟨n2, e'⟩ := own j' b' q' e2
    rw [List.getElem?_set_ne (Ne.symm n1)] at e3
    rw [List.getElem?_set_ne (Ne.symm n2)] at e4
    exact h5 j j' b b' q q' a e e' e3 e4
  · obtain ⟨n1, e⟩ := own j true q e1
    rw [List.getElem?_set_ne (Ne.symm n1)]
    exact h6.2 j q e
theorem s_set {i : Nat} {x : Str} {pos' : Pos} (S : Sits G X k W) (hi : ∀ j, (X j).N[i]? = some x) (hx : ∀ j, Loc (X j).env.scope x) (hf : ∀ j, (X j).fn x = true ∨ (X j).env.scope.names.lookup x = some .local) (he : XJ G X W Rep e pa)
    (hs : ∀ j, swapsWith e (some (.Name x pos')) pos.line (X j).env = pure false := by intro _; rfl) : S1 G X W (.Assign [.Name x pos'] e pos) (sAsg pa (gSet i)) := by
  obtain ⟨t, h1, h2⟩ := he
  refine ⟨_, fun j => ps_set (S.nd j) (hi j) (hx j) (h1 j) (hs j) (hf j), fun F σ H env ts D st q => in_x st h2 ?_⟩
  unfold sAsg at q
  cases ea : pa env with
  | bad => rw [ea] at q; exact q
  | exc x => rw [ea] at q; exact fun d H' s => q d σ H' s
  | ok c => rw [ea] at q; exact fun x H' s => q _ H' s.put
/-- y = [..] on one line -/
theorem s_setComp {i : Nat} {y : Str} {py spos : Pos} {scope : Scope} {own : List (Str × Nat)} {ts' : List Nat} {p : LX} {g : GX} {tc : TX} (S : Sits G X k W) (hy : ∀ j, (X j).N[i]? = some y) (hyl : ∀ j, (X j).env.scope.names.lookup y = some .local)
    (hsw : ∀ j, swapsWith (.ListComp elt [⟨tg, iter, ifs, 0⟩] scope pos) (some (.Name y py)) spos.line (X j).env = pure true) (hw : WlJ G X W false tg iter p) (ok : ∀ i, BlkOk (X i).N (X i).env.scope scope own)
    (hg : GJ G (blkF X scope) tg g ts') (ht : TsJ G (blkF X scope) noW ifs tc) (he : XJ G (blkF X scope) noW Rep elt pa) (hts : ∀ i ∈ ts', i ∈ own.map (·.2)) (hs : ∀ i x, foldedSetIterable iter (X i).env x = pure x := by intro _ _; rfl) :
    S1 G X W (.Assign [.Name y py] (.ListComp elt [⟨tg, iter, ifs, 0⟩] scope pos) spos) (sAsg (pComp (own.map (·.2)) p g tc pa) (gSet i)) := by
  obtain ⟨wi, w1, w2⟩ := hw
  obtain ⟨gt, g1, g2⟩ := hg
  obtain ⟨tt, t1, t2⟩ := ht
  obtain ⟨te, e1, e2⟩ := he
  refine ⟨_, fun j => ps_setLc (S.calm j) (S.nd j) (hy j) (hyl j) (hsw j) (w1 j) (ok j) (fun s H C cl fp => g1 (j, s, H, C, cl, fp)) (fun s H C cl fp => t1 (j, s, H, C, cl, fp)) (fun s H C cl fp => e1 (j, s, H, C, cl, fp)) (hs j), fun F σ H env ts D st q => in_x st (comp_sim (scope := scope) hts w2 g2 t2 e2) ?_⟩
  unfold sAsg at q
  cases ea : pComp (own.map (·.2)) p g tc pa env with
  | bad => rw [ea] at q; exact q
  | exc x => rw [ea] at q; exact fun d H' s => q d σ H' s
  | ok c => rw [ea] at q; exact fun x H' s => q _ H' s.put
theorem StRep.puts : ∀ {l : List (Nat × PV)} {l' : List (Nat × V)} {σ : St} {env : Env}, StRep G.F F σ H env (l'.zipWith (fun x p => (x.2, p.2)) l ++ ts) → l'.map (·.1) = l.map (·.1) → StRep G.F F (setV σ l') H (Pv.puts env l) ts
  | [], [], σ, env, st, _ => st
  | (i, p) :: r, (j, x) :: s, σ, env, st, h => by
    simp only [List.map_cons, List.cons.injEq] at h
    obtain ⟨rfl, h⟩ := h
    have := StRep.puts (l := r) (l' := s) (σ := σ.set j (some x)) (env := env.set j (.v p)) (StRep.put (x := x) (p := p) st) h
    exact this
  | [], _ :: _, _, _, _, h => by cases h
  | _ :: _, [], _, _, _, h => by cases h
theorem stores_tmp {A : Av} : ∀ {l : List (Nat × PV)} {l' : List (Nat × V)}, Stores G.F A H l l' → ∀ t ∈ l'.zipWith (fun x p => (x.2, p.2)) l, Rep G.F A H t.2 t.1
  | [], l', h, t, ht => by rw [show l' = [] from h] at ht; cases ht
  | (i, p) :: r, l', ⟨y, s', e, g1, g2⟩, t, ht => by
    rw [e] at ht
    rcases List.mem_cons.mp ht with rfl | ht
    · exact g1
    · exact stores_tmp g2 t ht
/-- target = e -/
theorem s_asg {g : GX} {ts' : List Nat} (S : Sits G X k W) (he : XJ G X W Rep e pa) (hg : GJ G X tg g ts') (hs : ∀ j, swapsWithSole [tg] e pos.line (X j).env = pure false := by intro _; rfl) (hw : ∀ j, swappedStores [tg] e (X j).env = pure none := by intro _; rfl)
    (h1 : ∀ j, (assignEach [tg] (X j).env).map (·.2) = [assign tg (X j).env] := by intro _; rfl) : S1 G X W (.Assign [tg] e pos) (sAsg pa g) := by
  obtain ⟨t, h3, h4⟩ := he
  obtain ⟨gt, h5, h6⟩ := hg
  refine ⟨_, fun j => ps_asg (h3 j) (h5 j) (hs j) (hw j) (h1 j), fun F σ H env ts D st q => in_x st h4 ?_⟩
  unfold sAsg at q
  cases ea : pa env with
  | bad => rw [ea] at q; exact q
  | exc x => rw [ea] at q; exact fun d H' s => q d σ H' s
  | ok c =>
    rw [ea] at q
    intro x H' s
    simp only [liftR_ok] at q
    cases eg : g c with
    | none => rw [eg] at q; exact q.elim
    | some l0 =>
      rw [eg] at q
      simp only [ofOpt_some, liftR_ok] at q
      obtain ⟨O, f1, f2, f3, f4, f5, f6, f7⟩ := s
      obtain ⟨k1, l', k2, k3⟩ := h6 _ H' c x l0 (f7 _ List.mem_cons_self) eg
      refine k3 σ _ (q _ H' (StRep.puts (l := l0) (l' := l') ⟨O, f1, f2, f3, f4, f5, f6, fun t ht => ?_⟩ k2.keys))
      rcases List.mem_append.mp ht with ht | ht
      · exact stores_tmp k2 t ht
      · exact f7 t (List.mem_cons_of_mem _ ht)
theorem s_expr (he : XJ G X W Rep e pa) (hs : ∀ j, swapsWith e none pos.line (X j).env = pure false := by intro _; rfl) : S1 G X W (.Expr e pos) (sExpr pa) := by
  obtain ⟨t, h1, h2⟩ := he
  refine ⟨_, fun j => ps_expr (h1 j) (hs j), fun F σ H env ts D st q => in_x st h2 ?_⟩
  unfold sExpr at q
  cases ea : pa env with
  | bad => rw [ea] at q; exact q
  | exc x => rw [ea] at q; exact fun d H' s => q d σ H' s
  | ok c => rw [ea] at q; exact fun x H' s => q _ H' s.drop
theorem s_ret (he : XJ G X W Rep e pa) : S1 G X W (.Return (some e) pos) (sRet pa) := by
  obtain ⟨t, h1, h2⟩ := he
  refine ⟨_, fun j => ps_ret (h1 j), fun F σ H env ts D st q => in_x st h2 ?_⟩
  unfold sRet at q
  cases ea : pa env with
  | bad => rw [ea] at q; exact q
  | exc x => rw [ea] at q; exact fun d H' s => q d σ H' s
  | ok c => rw [ea] at q; exact fun x H' s => q x σ H' s
theorem s_retN : S1 G X W (.Return none pos) sRetN := by
  refine ⟨_, fun j => ps_retN, fun F σ H env ts D st q => q .non σ H ?_⟩
  obtain ⟨O, h1, h2, h3, h4, h5, h6, h7⟩ := st
  refine ⟨O, h1, h2, h3, h4, h5, h6, fun t ht => ?_⟩
  rcases List.mem_cons.mp ht with rfl | ht
  · rw [Rep]
  · exact h7 t ht
theorem s_brk : S1 G X W (.Break pos) sBrk := ⟨_, fun j => ps_break, fun F σ H env ts D st q => q σ H st⟩
theorem s_cnt : S1 G X W (.Continue pos) sCnt := ⟨_, fun j => ps_continue, fun F σ H env ts D st q => q σ H st⟩
theorem s_pass : S1 G X W (.Pass pos) sNext := ⟨_, fun j => ps_pass, fun F σ H env ts D st q => q σ H st⟩
theorem s_if {tc : TX} {u v : List Stmt} (hc : TJ G X W c tc) (ha : SS G X W u m) (hb : SS G X W v n) : S1 G X W (.If c u v pos) (sIf tc m n) := by
  obtain ⟨t, h1, h2⟩ := hc
  obtain ⟨ta, h3, h4⟩ := ha
  obtain ⟨tb, h5, h6⟩ := hb
  refine ⟨_, fun j => ps_if (h1 j) (h3 j) (h5 j), fun F σ H env ts D st q => in_t st h2 ?_⟩
  unfold sIf at q
  cases ea : tc env with
  | bad => rw [ea] at q; exact q
  | exc x => rw [ea] at q; exact fun d H' s => q d σ H' s
  | ok c =>
    rw [ea] at q
    intro H' s
    cases c with
    | true => rw [if_pos rfl]; exact h4 F σ H' env ts D s q
    | false => rw [if_neg Bool.false_ne_true]; exact h6 F σ H' env ts D s q

/-! ### for -/
/-- a part of a body, as a body of its own: it may change what the frame holds -/
theorem StRep.inner (h : StRep G.F F σ H env ts) : ∃ O : Av, StRep G.F ⟨H, O, F.B, F.L⟩ σ H env ts ∧ SRep G.F (fun a => O a ∨ F.B a) σ H env ∧ ∀ σ' H' env' ts', StRep G.F ⟨H, O, F.B, F.L⟩ σ' H' env' ts' → StRep G.F F σ' H' env' ts' := by
  obtain ⟨O, h1, h2, h3, h4, h5, h6, h7⟩ := h
  refine ⟨O, ⟨O, fun a z => .inl z, fun a o e _ => Stay.refl e, h3, h4, h5, h6, h7⟩, h3, fun σ' H' env' ts' ⟨O', g1, g2, g3, g4, g5, g6, g7⟩ => ⟨O', fun a z => ?_, fun a o e n => ?_, g3, g4, g5, g6, g7⟩⟩
  · rcases g1 a z with z | z
    · exact h1 a z
    · by_cases hi : F.I a
      · exact .inl hi
      · refine .inr ?_
        cases e : F.H0 a with
        | none => rfl
        | some o =>
          exact absurd z (h2 a o e hi).live
  · exact (h2 a o e n).trans fun u eu => g2 a u eu fun z => (h1 a z).elim n fun z => by rw [z] at e; cases e
theorem SEnd.inner {F' : Fp} {D : Ends} {r : Rs Flow} (hB : F'.B = F.B) (h : ∀ σ' H' env' ts', StRep G.F F' σ' H' env' ts' → StRep G.F F σ' H' env' ts') (q : SEnd G F ts W D r) : SEnd G F' ts W D r := by
  cases r with
  | ok f env =>
    cases f with
    | next => exact fun σ' H' st => q σ' H' (h _ _ _ _ st)
    | ret p => exact fun x σ' H' st => q x σ' H' (h _ _ _ _ st)
    | brk => exact fun σ' H' st => q σ' H' (h _ _ _ _ st)
    | cnt => exact fun σ' H' st => q σ' H' (h _ _ _ _ st)
  | exc x env => exact fun d σ' H' st ex => q d σ' H' (h _ _ _ _ st) (by rw [← hB]; exact ex)
  | bad => exact q
theorem s_for {p : LX} {g : GX} {ts' : List Nat} {body : List Stmt} (S : Sits G X k W) (hw : WlJ G X W true tg iter p) (hg : GJ G X tg g ts') (hb : SS G X W body m) (hs : ∀ j x, foldedSetIterable iter (X j).env x = pure x := by intro _ _; rfl) :
    S1 G X W (.For tg iter body [] pos) (sFor p g m) := by
  obtain ⟨wi, w1, w2⟩ := hw
  obtain ⟨gt, g1, g2⟩ := hg
  obtain ⟨tb, b1, b2⟩ := hb
  refine ⟨_, fun j => ps_for (S.pass j) (S.calm j) (w1 j) (g1 j) (b1 j) (hs j), fun F σ H env ts D st q => ?_⟩
  have st0 := st
  obtain ⟨O, h1, h2, h3, h4, h5, h6, h7⟩ := st
  refine w2 _ σ H env _ h3 ?_
  unfold sFor at q
  cases ep : p env with
  | bad => rw [ep] at q; exact q
  | exc x =>
    rw [ep] at q
    intro d H' s ex
    refine q d σ H' (st0.same s) fun nz => ?_
    obtain ⟨a, m, f1, f2, f3, f4⟩ := ex nz
    exact ⟨a, m, f1, fun z => f2 (.inr z), f3, fun f p fp => let ⟨v, g1, g2⟩ := f4 f p fp; ⟨v, g1, g2.ext (.less fun a z => .inr z)⟩⟩
  | ok ps =>
    rw [ep] at q
    simp only [liftR_ok] at q
    intro J H1 Gd Y s1 wk
    have st1 : StRep G.F ⟨H1, O, F.B, F.L⟩ σ H1 env ts := ⟨O, fun a z => .inl z, fun a o e _ => Stay.refl e, h3.same s1, h4, h5, h6, fun t ht => (h7 t ht).same s1⟩
    have back : ∀ σ' H' env' ts', StRep G.F ⟨H1, O, F.B, F.L⟩ σ' H' env' ts' → StRep G.F F σ' H' env' ts' := fun σ' H' env' ts' ⟨O', g1, g2, g3, g4, g5, g6, g7⟩ => by
      refine ⟨O', fun a z => ?_, fun a o e n => ?_, g3, g4, g5, g6, g7⟩
      · rcases g1 a z with z | z
        · exact h1 a z
        · by_cases hi : F.I a
          · exact .inl hi
          · refine .inr ?_
            cases e : F.H0 a with
            | none => rfl
            | some o =>
              have z' : H1 a = none := z
              exact absurd z' ((h2 a o e hi).same s1).live
      · exact ((h2 a o e n).same s1).trans fun u eu => g2 a u eu fun z => (h1 a z).elim n fun z => by rw [z] at e; cases e
    have q1 : SEnd G ⟨H1, O, F.B, F.L⟩ ts W D (forGo g m ps env) := SEnd.inner (F := F) (F' := ⟨H1, O, F.B, F.L⟩) rfl back q
    refine for_it wk.walk (fun i σ2 H2 => ∃ env2, StRep G.F ⟨H1, O, F.B, F.L⟩ σ2 H2 env2 ts ∧ SEnd G ⟨H1, O, F.B, F.L⟩ ts W D (forGo g m (ps.drop i) env2)) ⟨env, st1, q1⟩ ?_ ?_ ?_
    · rintro i σ2 H2 - ⟨env2, ⟨O2, e1, e2, e3, e4, e5, e6, e7⟩, -⟩
      refine wk.good H2 ?_
      show Keep _ H1 H2
      exact fun a o e n => e2 a o e fun z => n (.inl z)
    · rintro i x σ2 H2 H3 hi ⟨env2, st2, q2⟩ y
      have st2' := st2
      obtain ⟨O2, e1, e2, e3, e4, e5, e6, e7⟩ := st2
      obtain ⟨s3, p0, ep0, r0⟩ := wk.item i x H2 H3 (fun a => O2 a ∨ F.B a) hi (fun a o e n => e2 a o e fun z => n (.inl z)) (fun a z => z.elim (fun z => (e1 a z).elim (fun z => .inl (.inl z)) .inr) fun z => .inl (.inr z)) e3.live y
      have er : ps.drop i = p0 :: ps.drop (i + 1) := by
        rw [List.drop_eq_getElem?_toList_append, ep0]
        rfl
      rw [er, forGo] at q2
      cases eg : g p0 with
      | none => rw [eg] at q2; exact q2.elim
      | some l0 =>
        rw [eg] at q2
        simp only [ofOpt_some, liftR_ok] at q2
        obtain ⟨k1, l', k2, k3⟩ := g2 _ H3 p0 x l0 r0 eg
        have st3 : StRep G.F ⟨H1, O, F.B, F.L⟩ (setV σ2 l') H3 (Pv.puts env2 l0) ts := by
          refine StRep.puts ⟨O2, e1, fun a o e n => (e2 a o e n).same s3, e3.same s3, e4, e5, e6, fun t ht => ?_⟩ k2.keys
          rcases List.mem_append.mp ht with ht | ht
          · exact stores_tmp k2 t ht
          · exact (e7 t ht).same s3
        refine k3 σ2 _ (b2 _ _ H3 _ ts _ st3 ?_)
        cases em : m (Pv.puts env2 l0) with
        | bad => rw [em] at q2; exact q2
        | exc x env3 => rw [em] at q2; exact q2
        | ok f env3 =>
          rw [em] at q2
          cases f with
          | next => exact fun σ' H' st' => ⟨env3, st', q2⟩
          | cnt => exact fun σ' H' st' => ⟨env3, st', q2⟩
          | brk => exact q2
          | ret p => exact q2
    · rintro σ2 H2 ⟨env2, st2, q2⟩
      rw [List.drop_eq_nil_of_le (Nat.le_refl _)] at q2
      exact q2 σ2 H2 st2

/-! ### while -/
theorem s_while {tc : TX} {body : List Stmt} (S : Sits G X k W) (hc : TJ G X W c tc) (hb : SS G X W body m) : S1 G X W (.While c body [] pos) (sWhile tc m) := by
  obtain ⟨t, c1, c2⟩ := hc
  obtain ⟨tb, b1, b2⟩ := hb
  refine ⟨_, fun j => ps_while (S.pass j) (c1 j) (b1 j), fun F σ H env ts D st q => ?_⟩
  unfold sWhile at q
  generalize 1048576 = n at q
  refine ⟨fun n σ H => ∃ env, StRep G.F F σ H env ts ∧ SEnd G F ts W D (whileGo tc m n env), ⟨n, env, st, q⟩, ?_⟩
  rintro n σ H ⟨env, st, q⟩
  cases n with
  | zero => exact q.elim
  | succ n =>
    refine in_t st c2 ?_
    rw [whileGo] at q
    cases ec : tc env with
    | bad => rw [ec] at q; exact q
    | exc x => rw [ec] at q; exact fun d H' s => q d σ H' s
    | ok b =>
      rw [ec] at q
      simp only [liftR_ok] at q
      intro H1 st1
      cases b with
      | false => exact q σ H1 st1
      | true =>
        simp only [if_true] at q ⊢
        refine ⟨fun σ' H' => ∃ env, StRep G.F F σ' H' env ts ∧ SEnd G F ts W D (whileGo tc m n env), fun σ' H' h => ⟨n, by omega, h⟩, ?_⟩
        refine b2 F σ H1 env ts _ st1 ?_
        cases em : m env with
        | bad => rw [em] at q; exact q
        | exc x env3 => rw [em] at q; exact q
        | ok f env3 =>
          rw [em] at q
          cases f with
          | next => exact fun σ' H' st' => ⟨env3, st', q⟩
          | cnt => exact fun σ' H' st' => ⟨env3, st', q⟩
          | brk => exact q
          | ret p => exact q

/-! ### a function, by its body -/
abbrev bodyX (G : Gm) (N : List Str) (qual : Str) (sc : Scope) (f : Addr) (cdv : Value) (A : Around) (outer : List PySem.Env) (s : Shared) (H : Hp) (E : XK) : Unit → Cx := fun _ => cxOf (L2.CX G.P G.w) G.P G.w G.K G.mg G.base N qual sc f cdv A outer s H E
abbrev bodyW (E : XK) : WX := fun cls d _ H => E cls d H
theorem sits_body {N : List Str} {qual : Str} {sc : Scope} {f : Addr} {cdv : Value} {A : Around} {outer : List PySem.Env} {s : Shared} {H : Hp} {E : XK} (hr : Room k (A.deeper (envOfC qual sc s.heap.objs.size f cdv))) (nd : N.Nodup) :
    Sits G (bodyX G N qual sc f cdv A outer s H E) k (bodyW E) :=
  ⟨fun _ => rfl, fun _ => rfl, fun _ => rfl, fun _ => rfl, fun _ => rfl, fun _ => rfl, fun _ => hr, fun _ => takes_of rfl rfl rfl rfl, fun _ => nd, fun _ => passes_of rfl⟩
theorem start_env (N : List Str) (n : Nat) (vs : List V) (args : List PV) (A : Av) (H : Hp) (hl : ∀ a, A a → H a ≠ none) (ht : TbOk A H) (hr : Reps G.F A H args vs) (hn : N.length = n) : SRep G.F A (L2.start N vs) H (Pv.start n args) := by
  have hlen := hr.length
  refine ⟨hl, ?_, fun i p e => ?_, fun i b p e => ?_, ht⟩
  · unfold L2.start Pv.start
    simp [hlen, hn]
  · unfold Pv.start at e
    by_cases hi : i < args.length
    · rw [List.getElem?_append_left (by simpa using hi), List.getElem?_map] at e
      cases ea : args[i]? with
      | none => rw [ea] at e; cases e
      | some q =>
        rw [ea] at e
        cases e
        obtain ⟨x, h1, h2⟩ := hr.get' ea
        refine ⟨x, ?_, h2⟩
        unfold L2.start
        rw [List.getElem?_append_left (by simp; omega), List.getElem?_map, h1]
        rfl
    · rw [List.getElem?_append_right (by simpa using hi), List.getElem?_replicate] at e
      split at e <;> cases e
  · unfold Pv.start at e
    by_cases hi : i < args.length
    · rw [List.getElem?_append_left (by simpa using hi), List.getElem?_map] at e
      cases ea : args[i]? with
      | none => rw [ea] at e; cases e
      | some q => rw [ea] at e; cases e
    · rw [List.getElem?_append_right (by simpa using hi), List.getElem?_replicate] at e
      split at e <;> cases e
theorem no_own (n : Nat) (args : List PV) (i : Nat) (b : Bool) (p : PV) : (Pv.start n args)[i]? ≠ some (.o b p) := fun e => by
  unfold Pv.start at e
  by_cases hi : i < args.length
  · rw [List.getElem?_append_left (by simpa using hi), List.getElem?_map] at e
    cases ea : args[i]? with
    | none => rw [ea] at e; cases e
    | some q => rw [ea] at e; cases e
  · rw [List.getElem?_append_right (by simpa using hi), List.getElem?_replicate] at e
    split at e <;> cases e
theorem fn_pure {x qual : Str} {st : Stmt} {f : Addr} {fd : FuncData} {N ps : List Str} {n nn : Nat} {m : SM} (F : Fun G.K x qual st f fd) (Sc : FnScope N ps (defScope st)) (hps : ps.length = n) (hN : N.length = nn)
    (hb : ∀ (cdv : Value) (A : Around) (outer : List PySem.Env) (s : Shared) (H : Hp) (E : XK), Sits G (bodyX G N qual (defScope st) f cdv A outer s H E) k (bodyW E) → SS G (bodyX G N qual (defScope st) f cdv A outer s H E) (bodyW E) (defBody st) m) :
    FnOk G.P G.w G.K G.mg G.base (L2.CX G.P G.w) (k + 1) f fd ps (spP G n (runFn nn m)) := by
  refine F.okX Sc (fun vs H Q E h => by rw [h.1, hps]) (fun cdv A outer s H vs Q E hr h => ?_)
  obtain ⟨hl, Av, args, hlive, htab, hrep, q⟩ := h
  obtain ⟨t, h1, h2⟩ := hb cdv A outer s H E (sits_body hr Sc.nd)
  refine ⟨t, h1 (), h2 ⟨H, fun _ => False, Av, fun _ => none⟩ _ H (Pv.start nn args) [] _ ⟨fun _ => False, fun a z => z.elim, fun a o e _ => Stay.refl e, ?_, fun i b p a e => absurd e (no_own nn args i b p), fun i j b b' p q a e => absurd e (no_own nn args i b p), ⟨fun a z => z.elim, fun i p e => absurd e (no_own nn args i true p)⟩, fun t ht => by cases ht⟩ ?_⟩
  · have := start_env (G := G) N nn vs args Av H hlive htab hrep hN
    exact ⟨fun a z => z.elim (fun z => z.elim) (this.live a), this.len, fun i p e => let ⟨y, h1, h2⟩ := this.slot i p e; ⟨y, h1, h2.ext (.less fun a z => z.elim (fun z => z.elim) id)⟩, fun i b p e => absurd e (no_own nn args i b p), this.tabs.less fun a z => z.elim (fun z => z.elim) id⟩
  · unfold runFn at q
    cases em : m (Pv.start nn args) with
    | bad => rw [em] at q; exact q
    | exc e env' =>
      rw [em] at q
      intro d σ' H' ⟨O, f1, f2, f3, f4, f5, f6, f7⟩ ex
      exact q d H' (fun a o e => f2 a o e fun z => z) ex
    | ok fl env' =>
      rw [em] at q
      cases fl with
      | next =>
        intro σ' H' ⟨O, f1, f2, f3, f4, f5, f6, f7⟩
        exact q .non H' (fun a o e => f2 a o e fun z => z) (by rw [Rep])
      | ret p =>
        intro y σ' H' ⟨O, f1, f2, f3, f4, f5, f6, f7⟩
        exact q y H' (fun a o e => f2 a o e fun z => z) ((f7 _ List.mem_cons_self).ext (.less fun a z => .inr z))
      | brk => exact q.elim
      | cnt => exact q.elim
end
end Pv
end
section
set_option autoImplicit false
set_option Elab.async false
set_option linter.all false
set_option maxRecDepth 100000
namespace Pv
open PySem PySem.Spec PyProof.Rows L2
variable [TN]
/-! ### the rules as the walks name them -/
section
variable {G : Gm} {ι : Type} {X : ι → Cx} {k : Nat} {W : WX} {e a b c elt : Expr} {pa pb pc : PX} {pos : Pos} {es ifs : List Expr} {l : LX} {tg iter : Expr}
theorem xv (i : Nat) {x : Str} (hN : ∀ j, (X j).N[i]? = some x := by intro _; rfl) (hv : ∀ j, Vis (X j).env.scope x := by intro _; first | exact Or.inl rfl | exact Or.inr (Or.inl rfl) | exact Or.inr (Or.inr rfl)) (hd : (x == ("__debug__" : Str)) = false := by decide) (hcd : (x == ("__classdict__" : Str)) = false := by decide) :
    XJ G X W Rep (.Name x pos) (pVar i) := x_var hN hv hd hcd
theorem xb (i : Nat) {x : Str} (hN : ∀ j, (X j).N[i]? = some x := by intro _; rfl) (hv : ∀ j, Vis (X j).env.scope x := by intro _; first | exact Or.inl rfl | exact Or.inr (Or.inl rfl) | exact Or.inr (Or.inr rfl)) (hd : (x == ("__debug__" : Str)) = false := by decide) (hcd : (x == ("__classdict__" : Str)) = false := by decide) :
    XJ G X W BRep (.Name x pos) (pBor i) := x_bor hN hv hd hcd
theorem xg (S : Sits G X k W) {x : Str} {i : Int} {t : Tok} (hm : G.mg x = some (.int i t)) (hg : ∀ j, Gl (X j) x := by intro _; rfl) (hd : (x == ("__debug__" : Str)) = false := by decide) : XJ G X W Rep (.Name x pos) (pC (.int i)) := x_gint S hg hm hd
theorem gn (S : Sits G X k W) (i : Nat) {x : Str} (hi : ∀ j, (X j).N[i]? = some x := by intro _; rfl) (hx : ∀ j, Loc (X j).env.scope x := by intro _; first | exact Or.inl rfl | exact Or.inr rfl) (hf : ∀ j, (X j).fn x = true ∨ (X j).env.scope.names.lookup x = some .local := by intro _; first | exact Or.inl rfl | exact Or.inr rfl) :
    GJ G X (.Name x pos) (gSet i) [i] := g_name S hi hx hf
theorem sset (S : Sits G X k W) (i : Nat) {x : Str} {pos' : Pos} (he : XJ G X W Rep e pa) (hi : ∀ j, (X j).N[i]? = some x := by intro _; rfl) (hx : ∀ j, Loc (X j).env.scope x := by intro _; first | exact Or.inl rfl | exact Or.inr rfl) (hf : ∀ j, (X j).fn x = true ∨ (X j).env.scope.names.lookup x = some .local := by intro _; first | exact Or.inl rfl | exact Or.inr rfl)
    (hs : ∀ j, swapsWith e (some (.Name x pos')) pos.line (X j).env = pure false := by intro _; rfl) : S1 G X W (.Assign [.Name x pos'] e pos) (sAsg pa (gSet i)) := s_set S hi hx hf he hs
theorem ssetComp (i : Nat) {y : Str} {py spos : Pos} {scope : Scope} {own : List (Str × Nat)} {ts' : List Nat} {p : LX} {g : GX} {tc : TX} (S : Sits G X k W) (hw : WlJ G X W false tg iter p) (ok : ∀ i, BlkOk (X i).N (X i).env.scope scope own)
    (hg : GJ G (blkF X scope) tg g ts') (ht : TsJ G (blkF X scope) noW ifs tc) (he : XJ G (blkF X scope) noW Rep elt pa) (hts : ∀ i ∈ ts', i ∈ own.map (·.2)) (hs : ∀ i x, foldedSetIterable iter (X i).env x = pure x := by intro _ _; rfl)
    (hy : ∀ j, (X j).N[i]? = some y := by intro _; rfl) (hyl : ∀ j, (X j).env.scope.names.lookup y = some .local := by intro _; rfl)
    (hsw : ∀ j, swapsWith (.ListComp elt [⟨tg, iter, ifs, 0⟩] scope pos) (some (.Name y py)) spos.line (X j).env = pure true := by intro _; exact sw_true rfl rfl rfl (by decide +kernel)) :
    S1 G X W (.Assign [.Name y py] (.ListComp elt [⟨tg, iter, ifs, 0⟩] scope pos) spos) (sAsg (pComp (own.map (·.2)) p g tc pa) (gSet i)) := s_setComp S hy hyl hsw hw ok hg ht he hts hs
end
section
variable {G : Gm} {ι : Type} {X : ι → Cx} {k : Nat} {W : WX} {e a b c elt : Expr} {pa pb pc : PX} {pos : Pos} {es ifs : List Expr} {l : LX} {tg iter : Expr} {F : Fp} {σ : St} {H H' : Hp} {env : Env} {ts : List (V × PV)}
/-- arguments within a statement -/
theorem in_a {t : TA} {Q : List V → Hp → Prop} (st : StRep G.F F σ H env ts) (h : ∀ A σ H env Q, SRep G.F A σ H env → LEnd G A W σ H (fun c x H' => Rep G.F A H' c x) Q (l env) → t σ H Q)
    (q : match l env with
      | .ok cs => ∀ xs H', xs.length = cs.length → StRep G.F F σ H' env (xs.zip cs ++ ts) → Q xs H'
      | .exc x => ∀ d H', StRep G.F F σ H' env ts → ExcRep G.F F.B H' d x.flds → W (G.cls x.cls) d σ H'
      | .bad => False) : t σ H Q := by
  have st' := st
  obtain ⟨O, h1, h2, h3, h4, h5, h6, h7⟩ := st
  refine h _ σ H env Q h3 ?_
  cases e : l env with
  | bad => rw [e] at q; exact q
  | exc x =>
    rw [e] at q
    intro d H' s ex
    refine q d H' (st'.same s) fun nz => ?_
    obtain ⟨a, m, f1, f2, f3, f4⟩ := ex nz
    exact ⟨a, m, f1, fun z => f2 (.inr z), f3, fun f p fp => let ⟨v, g1, g2⟩ := f4 f p fp; ⟨v, g1, g2.ext (.less fun a z => .inr z)⟩⟩
  | ok cs =>
    rw [e] at q
    intro xs H' s r
    have rr := AllR.reps r
    refine q xs H' rr.length ⟨O, h1, fun a o e n => (h2 a o e n).same s, h3.same s, h4, h5, h6, fun t ht0 => ?_⟩
    rcases List.mem_append.mp ht0 with ht | ht
    · clear q e ht0
      induction cs generalizing xs with
      | nil => simp at ht
      | cons p ps ih =>
        rw [Reps] at rr
        obtain ⟨x, s', rfl, r1, r2⟩ := rr
        rcases List.mem_cons.mp ht with rfl | ht
        · exact r1
        · obtain ⟨x', s2, e2, r3, r4⟩ := r
          cases e2
          exact ih s' r4 r2 ht
    · exact (h7 t ht).same s
/-- i, j = a, b with plain local names -/
theorem spar (S : Sits G X k W) (i j : Nat) {x y : Str} {px py pt pt2 : Pos} {kt k2 : Nat} (ha : AJ G X W Rep [a, b] l) (hm : Many 2 l) (hi : ∀ m, (X m).N[i]? = some x := by intro _; rfl) (hj : ∀ m, (X m).N[j]? = some y := by intro _; rfl) (hij : i ≠ j := by decide)
    (hx : ∀ m, (X m).env.scope.names.lookup x = some .local := by intro _; rfl) (hy : ∀ m, (X m).env.scope.names.lookup y = some .local := by intro _; rfl)
    (hw : ∀ m, swappedStores [.Tuple [.Name x px, .Name y py] kt pt] (.Tuple [a, b] k2 pt2) (X m).env = pure (some [x, y]) := by intro _; rfl)
    (hs : ∀ m, swapsWithSole [.Tuple [.Name x px, .Name y py] kt pt] (.Tuple [a, b] k2 pt2) pos.line (X m).env = pure false := by intro _; rfl) :
    S1 G X W (.Assign [.Tuple [.Name x px, .Name y py] kt pt] (.Tuple [a, b] k2 pt2) pos) (sAsg (pTup l) (gTuple (gCons (gSet i) (gCons (gSet j) gNil)))) := by
  obtain ⟨t, h1, h2⟩ := ha
  refine ⟨_, fun m => ps_par (S.calm m) (S.nd m) (hi m) (hj m) hij (hx m) (hy m) (h1 m) (hw m) (hs m), fun F σ H env ts D st q => in_a st h2 ?_⟩
  unfold sAsg pTup at q
  cases el : l env with
  | bad => rw [el] at q; exact q
  | exc x => rw [el] at q; exact fun d H' s => q d σ H' s
  | ok cs =>
    rw [el] at q
    have hn := hm env cs el
    match cs, hn with
    | [c1, c2], _ =>
      intro xs H' hl s
      match xs, hl with
      | [x1, x2], _ => exact ⟨x1, x2, rfl, q _ H' (StRep.put (StRep.put s))⟩
end
/-! ### functions that stand in the text -/
def FnThere (G : Gm) (x : Str) (ps : List Str) (st : Stmt) : Prop := ∃ f fd, Fun G.K x x st f fd ∧ G.mg x = some (.ref f) ∧ Binds G.K fd ps []
def FnHas (G : Gm) (k : Nat) (x : Str) (ps : List Str) (sp : Sp) : Prop := ∃ f fd, FnAt G k x f fd ps sp
theorem FnThere.has {G : Gm} {x : Str} {ps : List Str} {st : Stmt} {N : List Str} {n nn k : Nat} {m : SM} (t : FnThere G x ps st) (Sc : FnScope N ps (defScope st)) (hps : ps.length = n) (hN : N.length = nn)
    (hb : ∀ {f : Addr} (cdv : Value) (A : Around) (outer : List PySem.Env) (s : Shared) (H : Hp) (E : XK), Sits G (bodyX G N x (defScope st) f cdv A outer s H E) k (bodyW E) → SS G (bodyX G N x (defScope st) f cdv A outer s H E) (bodyW E) (defBody st) m) :
    FnHas G (k + 1) x ps (spP G n (runFn nn m)) := by
  obtain ⟨f, fd, F, hm, hbd⟩ := t
  exact ⟨f, fd, fn_pure F Sc hps hN (fun cdv A outer s H E S => hb cdv A outer s H E S), hm, F.kp, hbd⟩
theorem FnThere.bad {G : Gm} {x : Str} {ps : List Str} {st : Stmt} {n k : Nat} (t : FnThere G x ps st) (hps : ps.length = n) : FnHas G k x ps (spP G n fun _ => .bad) := by
  obtain ⟨f, fd, F, hm, hbd⟩ := t
  refine ⟨f, fd, ⟨fun vs H Q E h => by rw [h.1, hps], fun A outer s H args us vs Q E _ _ _ _ h => ?_⟩, hm, F.kp, hbd⟩
  obtain ⟨_, _, _, _, _, _, h⟩ := h
  exact h.elim
theorem FnThere.none {G : Gm} {x : Str} {ps : List Str} {st : Stmt} {n : Nat} (t : FnThere G x ps st) (hps : ps.length = n) : FnHas G 0 x ps (spP G n fun _ => .bad) := t.bad hps
section
variable {G : Gm} {ι : Type} {X : ι → Cx} {k : Nat} {W : WX} {e a b c elt : Expr} {pa pb pc : PX} {pos : Pos} {es ifs : List Expr} {l : LX} {tg iter : Expr}
theorem xcall {x : Str} {p : Pos} {ps : List Str} {n : Nat} {F : List PV → Rp PV} (S : Sits G X k W) (hf : FnHas G k x ps (spP G n F)) (ha : AJ G X W Rep (e :: es) l) (hm : Many n l) (hg : ∀ i, Gl (X i) x := by intro _; rfl)
    (hdb : (x == ("__debug__" : Str)) = false := by decide) (he : ∀ i, starEach (e :: es) (X i).env = (false, eval e (X i).env) :: starEach es (X i).env := by intro _; rfl) (hpl : ∀ i, (backTo pos (starEach es (X i).env)).any (·.1) = false := by intro _; rfl) :
    XJ G X W Rep (.Call (.Name x p) (e :: es) [] pos) (pCall F l) := by
  obtain ⟨f, fd, hf⟩ := hf
  exact x_call S hf hg ha hm hdb he hpl
theorem xbi {r : List V → Hp → VK → Prop} {f : List PV → Option PV} {id : String} {x : Str} {p : Pos} (hr : FnJ G r f) (hc : ∀ i, CallR (X i) (.builtin id) r) (S : Sits G X k W) (hm : G.mg x = none) (hv : bootBuiltins x = some (.builtin id)) (ha : AJ G X W BRep (e :: es) l) (hg : ∀ i, Gl (X i) x := by intro _; rfl)
    (hn : x ≠ "__name__" := by decide) (hdb : (x == ("__debug__" : Str)) = false := by decide) (he : ∀ i, starEach (e :: es) (X i).env = (false, eval e (X i).env) :: starEach es (X i).env := by intro _; rfl) (hpl : ∀ i, (backTo pos (starEach es (X i).env)).any (·.1) = false := by intro _; rfl) :
    XJ G X W Rep (.Call (.Name x p) (e :: es) [] pos) (pB f l) := x_callB hr hc S hg hm hv ha hn hdb he hpl
theorem xty {r : List V → Hp → VK → Prop} {f : List PV → Option PV} {T : String} {x : Str} {p : Pos} (hr : FnJ G r f) (hc : ∀ i, CallR (X i) (.type T) r) (S : Sits G X k W) (hm : G.mg x = none) (hv : bootBuiltins x = some (.type T)) (ha : AJ G X W BRep (e :: es) l) (hg : ∀ i, Gl (X i) x := by intro _; rfl)
    (hn : x ≠ "__name__" := by decide) (hdb : (x == ("__debug__" : Str)) = false := by decide) (he : ∀ i, starEach (e :: es) (X i).env = (false, eval e (X i).env) :: starEach es (X i).env := by intro _; rfl) (hpl : ∀ i, (backTo pos (starEach es (X i).env)).any (·.1) = false := by intro _; rfl) :
    XJ G X W Rep (.Call (.Name x p) (e :: es) [] pos) (pB f l) := x_callTy hr hc S hg hm hv ha hn hdb he hpl
theorem wr1 {p : Pos} (S : Sits G X k W) (hm : G.mg "range" = none) (ha : AJ G X W BRep [a] l) (h1 : Many 1 l) (hg : ∀ i, Gl (X i) "range" := by intro _; rfl) (hs : ∀ i, starEach [a] (X i).env = [(false, eval a (X i).env)] := by intro _; rfl) :
    WlJ G X W true tg (.Call (.Name "range" p) [a] [] pos) (wRange l) := wl_range1 S hg hm ha h1 hs
theorem wr2 {p : Pos} (S : Sits G X k W) (hm : G.mg "range" = none) (ha : AJ G X W BRep [a, b] l) (h1 : Many 2 l) (hg : ∀ i, Gl (X i) "range" := by intro _; rfl) (hs : ∀ i, starEach [a, b] (X i).env = [(false, eval a (X i).env), (false, eval b (X i).env)] := by intro _; rfl)
    (hs2 : ∀ i, starEach [b] (X i).env = [(false, eval b (X i).env)] := by intro _; rfl) : WlJ G X W true tg (.Call (.Name "range" p) [a, b] [] pos) (wRange l) := wl_range2 S hg hm ha h1 hs hs2
theorem wz {p tpos : Pos} {elts : List Expr} {kk : Nat} (S : Sits G X k W) (hm : G.mg "zip" = none) (ha : XJ G X W Rep a pa) (hb : XJ G X W Rep b pb) (hg : ∀ i, Gl (X i) "zip" := by intro _; rfl)
    (hs : ∀ i, starEach [a, b] (X i).env = (false, eval a (X i).env) :: starEach [b] (X i).env := by intro _; rfl) (hs2 : ∀ i, starEach [b] (X i).env = (false, eval b (X i).env) :: starEach [] (X i).env := by intro _; rfl) (hpl : ∀ i, (backTo pos (starEach [b] (X i).env)).any (·.1) = false := by intro _; rfl) :
    WlJ G X W true (.Tuple elts kk tpos) (.Call (.Name "zip" p) [a, b] [] pos) (wZip pa pb) := wl_zip S hg hm ha hb hs hs2 hpl
end
end Pv
end
section
set_option autoImplicit false
set_option Elab.async false
set_option linter.all false
set_option maxRecDepth 100000
namespace Pv
open PySem PySem.Spec PyProof.Rows L2
variable [TN]
section
variable {G : Gm} {ι : Type} {X : ι → Cx} {k : Nat} {W : WX} {e a b c elt : Expr} {pa pb pc : PX} {ma mb mc : MX} {pos : Pos} {es ifs : List Expr} {l : LX} {ml : ML} {tg iter : Expr} {F : Fp} {σ : St} {H H' : Hp} {env env' : Env} {ts : List (V × PV)}

theorem reps_all {K : Fr} {A : Av} {H : Hp} : ∀ {ps : List PV} {xs : List V}, Reps K A H ps xs → AllR (Rep K A H) ps xs
  | [], xs, r => by rw [Reps] at r; exact r
  | p :: ps, xs, r => by
    rw [Reps] at r
    obtain ⟨x, s, e, r1, r2⟩ := r
    exact ⟨x, s, e, r1, reps_all r2⟩
/-! ### new lists and dicts -/
/-- a new object, its content not leaning on itself -/
def FR (K : Fr) (H : Hp) (A : Av) (H' : Hp) (p : PV) (x : V) : Prop := ∃ a, x = .ref a ∧ H a = none ∧ OwnAt K (fun b => A b ∨ b = a) H' p a
def FJ (G : Gm) {ι : Type} (X : ι → Cx) (W : WX) (e : Expr) (p : PX) : Prop :=
  ∃ t : TE, (∀ i, PE (X i) e t) ∧ ∀ A σ H env Q, SRep G.F A σ H env → XEnd G A W σ H (fun c x H' => FR G.F H A H' c x) Q (p env) → t σ H Q
theorem fr_new {K : Fr} {A : Av} (hl : ∀ a, A a → H a ≠ none) {H0 : Hp} (s : Same H0 H) {p : Addr} (h : H p = none) {ps : List PV} {xs : List V} (r : Reps K A H ps xs) (hz : ps.length ≤ line) : FR K H0 A (upd H p (.lst xs)) (.list ps) (.ref p) := by
  refine ⟨p, rfl, s.free h, xs, upd_same, Reps.ext ⟨fun a z => z.elim .inl fun z => .inr (by rw [z]; exact h), fun a o q _ => ?_⟩ r, hz⟩
  exact same_new h _ _ _ q
theorem f_lst (h : AJ G X W Rep es l) (hz : ∀ env us, l env = .ok us → us.length ≤ sizeLine) : FJ G X W (.List es pos) (pLst l) := by
  obtain ⟨t, h1, h2⟩ := h
  refine ⟨_, fun i => pe_lst (h1 i), fun A σ H env Q S q => h2 A σ H env _ S ?_⟩
  unfold pLst at q
  cases el : l env with
  | bad => rw [el] at q; exact q
  | exc x => rw [el] at q; exact q
  | ok us =>
    rw [el] at q
    intro xs H1 s1 r1
    exact ⟨by rw [AllR.length r1]; exact hz env us el, fun p hp => q _ _ (s1.trans (same_new hp _)) (fr_new (same_live s1 S.live) s1 hp (AllR.reps r1) (by rw [line_eq]; exact hz env us el))⟩
/-- list(..) -/
theorem f_list {x : Str} {p : Pos} (S : Sits G X k W) (hm : G.mg x = none) (hv : bootBuiltins x = some (.type "list")) (ha : AJ G X W BRep (e :: es) l) (hg : ∀ i, Gl (X i) x := by intro _; rfl)
    (hn : x ≠ "__name__" := by decide) (hdb : (x == ("__debug__" : Str)) = false := by decide) (he : ∀ i, starEach (e :: es) (X i).env = (false, eval e (X i).env) :: starEach es (X i).env := by intro _; rfl) (hpl : ∀ i, (backTo pos (starEach es (X i).env)).any (·.1) = false := by intro _; rfl) :
    FJ G X W (.Call (.Name x p) (e :: es) [] pos) (pB fList l) := by
  obtain ⟨t, h1, h2⟩ := ha
  refine ⟨tCB (fun xs H Q => ∃ p ys, xs = [.ref p] ∧ (SqL G.K H p ys ∨ SqT G.K H p ys) ∧ ∀ l, H l = none → Q (.ref l) (upd H l (.lst ys))) t, fun i => ?_, fun A σ H env Q SS q => h2 A σ H env _ SS ?_⟩
  · refine pe_callTy (by rw [← S.K i]; exact call_list_of) (hg i) (by rw [S.mg i]; exact hm) hv (h1 i) hn hdb (he i) (hpl i)
  unfold pB at q
  cases el : l env with
  | bad => rw [el] at q; exact q.elim
  | exc x => rw [el] at q; exact q
  | ok us =>
    rw [el] at q
    simp only [Rp.ok_bind] at q
    intro xs H1 s1 r1
    cases ef : fList us with
    | none => rw [ef] at q; exact q.elim
    | some c =>
      rw [ef] at q
      unfold fList at ef
      split at ef
      · rename_i u
        cases eu : seqOf u with
        | none => rw [eu] at ef; cases ef
        | some ps =>
          rw [eu] at ef
          cases ef
          obtain ⟨y, rfl, r⟩ := allR1 r1
          have r' := r
          obtain ⟨m, ys, rfl, h3, h4⟩ := seqOf_some eu r
          exact ⟨m, ys, rfl, h3, fun p hp => q _ _ (s1.trans (same_new hp _)) (fr_new (same_live s1 SS.live) s1 hp h4 (seqOf_len eu r'))⟩
      · cases ef
def StO (K : Fr) (F : Fp) (O : Av) (σ : St) (H : Hp) (env : Env) (ts : List (V × PV)) : Prop :=
  (∀ a, O a → F.I a ∨ F.H0 a = none) ∧ (∀ a o, F.H0 a = some o → ¬ F.I a → Stay F.H0 H a o) ∧ SRep K (fun a => O a ∨ F.B a) σ H env ∧
  (∀ (i : Nat) (b : Bool) (p : PV) (a : Addr), env[i]? = some (.o b p) → σ[i]? = some (some (.ref a)) → O a) ∧
  (∀ (i j : Nat) (b b' : Bool) (p q : PV) (a : Addr), env[i]? = some (.o b p) → env[j]? = some (.o b' q) → σ[i]? = some (some (.ref a)) → σ[j]? = some (some (.ref a)) → i = j) ∧
  ((∀ a, O a → ¬ F.B a) ∧ ∀ (i : Nat) (p : PV), env[i]? = some (.o true p) → ∃ a, F.L i = some a ∧ σ[i]? = some (some (.ref a))) ∧ ∀ t ∈ ts, Rep K (fun a => O a ∨ F.B a) H t.2 t.1
/-- a new list in a slot of one's own -/
theorem StO.own1 {O : Av} {i : Nat} {x : V} {p : PV} {a : Addr} (st : StO G.F F O σ H env ts) (s : Same H H') (hx : x = .ref a) (hn : H a = none) (own : OwnAt G.F (fun b => (O b ∨ F.B b) ∨ b = a) H' p a) (hi : i < env.length)   : StO G.F F (fun b => O b ∨ b = a) (σ.set i (some x)) H' (env.set i (.o false p)) ts := by
  subst hx
  obtain ⟨h1, h2, h3, h4, h5, h6, h7⟩ := st
  have hb : ¬ F.B a := fun z => h3.live a (.inr z) hn
  have hO : ¬ O a := fun z => h3.live a (.inl z) hn
  have ex : Ext (fun a => O a ∨ F.B a) (fun b => (O b ∨ b = a) ∨ F.B b) H H' := ⟨fun b z => by
    rcases z with (z | z) | z
    · exact .inl (.inl z)
    · exact .inr (by rw [z]; exact hn)
    · exact .inl (.inr z), fun b o q _ => s b o q⟩
  have eqA : (fun b => (O b ∨ b = a) ∨ F.B b) = (fun b => (O b ∨ F.B b) ∨ b = a) := by
    funext b
    exact propext ⟨fun z => by rcases z with (z | z) | z <;> simp [z], fun z => by rcases z with (z | z) | z <;> simp [z]⟩
  have own' : OwnAt G.F (fun b => (O b ∨ b = a) ∨ F.B b) H' p a := by rw [eqA]; exact own
  have liveA : H' a ≠ none := by
    cases p with
    | list _ => obtain ⟨_, e, _⟩ := own; rw [e]; exact Option.some_ne_none _
    | dict _ _ => rcases own with ⟨_, _, e, _⟩ | ⟨_, _, e, _⟩ <;> rw [e] <;> exact Option.some_ne_none _
    | _ => exact own.elim
  have hσ : i < σ.length := by rw [h3.len]; exact hi
  have old : ∀ j b q, (env.set i (.o false p))[j]? = some (.o b q) → (j = i ∧ q = p ∧ b = false) ∨ (j ≠ i ∧ env[j]? = some (.o b q)) := fun j b q e => by
    by_cases hj : i = j
    · subst hj
      rw [List.getElem?_set_self hi] at e
      cases e
      exact .inl ⟨rfl, rfl, rfl⟩
    · rw [List.getElem?_set_ne hj] at e
      exact .inr ⟨Ne.symm hj, e⟩
  refine ⟨fun b z => ?_, fun b o e n => (h2 b o e n).same s, ⟨fun b z => ?_, by simp [h3.len], fun j q e => ?_, fun j b q e => ?_, (h3.tabs.same h3.live s).add (let ⟨_, e1, e2⟩ := own'.pl; pl_nc e1 e2) fun b z => by rcases z with (z | z) | z <;> simp [z]⟩, fun j b q c e1 e2 => ?_, fun j j' b b' q q' c e1 e2 e3 e4 => ?_, ⟨fun b z => ?_, fun j q e => ?_⟩, fun t ht => (h7 t ht).ext ex⟩
  · rcases z with z | z
    · exact h1 b z
    · by_cases hI : F.I b
      · exact .inl hI
      · refine .inr ?_
        cases e : F.H0 b with
        | none => rfl
        | some o => exact absurd (by rw [z]; exact hn) (h2 b o e hI).live
  · rcases z with (z | z) | z
    · exact same_live s h3.live b (.inl z)
    · rw [z]; exact liveA
    · exact same_live s h3.live b (.inr z)
  · by_cases hj : i = j
    · subst hj; rw [List.getElem?_set_self hi] at e; cases e
    · rw [List.getElem?_set_ne hj] at e ⊢
      obtain ⟨y, f1, f2⟩ := h3.slot j q e
      exact ⟨y, f1, f2.ext ex⟩
  · rcases old j b q e with ⟨rfl, rfl, rfl⟩ | ⟨nj, e'⟩
    · exact ⟨a, by rw [List.getElem?_set_self hσ], own'⟩
    · obtain ⟨y, f1, f2⟩ := h3.own j b q e'
      refine ⟨y, by rw [List.getElem?_set_ne (Ne.symm nj)]; exact f1, ?_⟩
      cases q with
      | list zs => obtain ⟨us, u1, u2, u3⟩ := f2; exact ⟨us, s _ _ u1, Reps.ext ex u2, u3⟩
      | dict tk zs =>
        rcases f2 with ⟨ht, us, u1, u2⟩ | ⟨ht, us, u1, u2⟩
        · exact .inl ⟨ht, us, s _ _ u1, RepK.ext ex u2⟩
        · exact .inr ⟨ht, us, s _ _ u1, RepT.ext ex u2⟩
      | _ => exact f2.elim
  · rcases old j b q e1 with ⟨rfl, rfl, rfl⟩ | ⟨nj, e'⟩
    · rw [List.getElem?_set_self hσ] at e2; cases e2; exact .inr rfl
    · rw [List.getElem?_set_ne (Ne.symm nj)] at e2; exact .inl (h4 j b q c e' e2)
  · rcases old j b q e1 with ⟨rfl, rfl, rfl⟩ | ⟨nj, e1'⟩
    · rcases old j' b' q' e2 with ⟨rfl, rfl, rfl⟩ | ⟨nj', e2'⟩
      · rfl
      · rw [List.getElem?_set_self hσ] at e3; cases e3
        rw [List.getElem?_set_ne (Ne.symm nj')] at e4
        exact absurd (h4 j' b' q' _ e2' e4) hO
    · rcases old j' b' q' e2 with ⟨rfl, rfl, rfl⟩ | ⟨nj', e2'⟩
      · rw [List.getElem?_set_self hσ] at e4; cases e4
        rw [List.getElem?_set_ne (Ne.symm nj)] at e3
        exact absurd (h4 j b q _ e1' e3) hO
      · rw [List.getElem?_set_ne (Ne.symm nj)] at e3
        rw [List.getElem?_set_ne (Ne.symm nj')] at e4
        exact h5 j j' b b' q q' c e1' e2' e3 e4
  · rcases z with z | z
    · exact h6.1 b z
    · rw [z]; exact hb
  · rcases old j true q e with ⟨_, _, z⟩ | ⟨nj, e'⟩
    · cases z
    · rw [List.getElem?_set_ne (Ne.symm nj)]; exact h6.2 j q e'
theorem StO.own {O : Av} {i : Nat} {x : V} {p : PV} {a : Addr} (st : StO G.F F O σ H env ts) (s : Same H H') (hx : x = .ref a) (hn : H a = none) (own : OwnAt G.F (fun b => (O b ∨ F.B b) ∨ b = a) H' p a) (hi : i < env.length) : StRep G.F F (σ.set i (some x)) H' (env.set i (.o false p)) ts :=
  ⟨_, StO.own1 st s hx hn own hi⟩
theorem s_own {i : Nat} {x : Str} {pos' : Pos} (S : Sits G X k W) (he : FJ G X W e pa) (hi : ∀ j, (X j).N[i]? = some x) (hx : ∀ j, Loc (X j).env.scope x) (hf : ∀ j, (X j).fn x = true ∨ (X j).env.scope.names.lookup x = some .local)
    (hs : ∀ j, swapsWith e (some (.Name x pos')) pos.line (X j).env = pure false) : S1 G X W (.Assign [.Name x pos'] e pos) (sOwn i pa) := by
  obtain ⟨t, h1, h2⟩ := he
  refine ⟨_, fun j => ps_set (S.nd j) (hi j) (hx j) (h1 j) (hs j) (hf j), fun F σ H env ts D st q => ?_⟩
  have st0 := st
  obtain ⟨O, f1, f2, f3, f4, f5, f6, f7⟩ := st
  refine h2 _ σ H env _ f3 ?_
  unfold sOwn at q
  cases ea : pa env with
  | bad => rw [ea] at q; exact q
  | exc x =>
    rw [ea] at q
    intro d H' s ex
    refine q d σ H' (st0.same s) fun nz => ?_
    obtain ⟨a, m, f1, f2, f3, f4⟩ := ex nz
    exact ⟨a, m, f1, fun z => f2 (.inr z), f3, fun f p fp => let ⟨v, g1, g2⟩ := f4 f p fp; ⟨v, g1, g2.ext (.less fun a z => .inr z)⟩⟩
  | ok c =>
    rw [ea] at q
    intro y H' s ⟨a, ey, hn, ho⟩
    by_cases hi' : i < env.length
    · exact q _ H' (StO.own ⟨f1, f2, f3, f4, f5, f6, f7⟩ s ey hn ho hi')
    · refine q _ H' ?_
      rw [List.set_eq_of_length_le (show σ.length ≤ i by rw [f3.len]; exact Nat.le_of_not_lt hi'), List.set_eq_of_length_le (show env.length ≤ i from Nat.le_of_not_lt hi')]
      exact st0.same s

/-! ### changes of what the frame holds -/
theorem StO.write {O : Av} {i : Nat} {b : Bool} {p p' : PV} {a : Addr} {o : HO} (st : StO G.F F O σ H env ts) (ee : env[i]? = some (.o b p)) (ea : σ[i]? = some (some (.ref a))) (own : OwnAt G.F (fun a => O a ∨ F.B a) (upd H a o) p' a) :
    StO G.F F O σ (upd H a o) (env.set i (.o b p')) ts := by
  obtain ⟨h1, h2, h3, h4, h5, h6, h7⟩ := st
  have hOa : O a := h4 i b p a ee ea
  have hpl : ∃ u, H a = some u ∧ Pl u := by
    obtain ⟨y, f1, f2⟩ := h3.own i b p ee
    rw [ea] at f1; cases f1
    exact f2.pl
  obtain ⟨ua, hua, npl⟩ := hpl
  have ex : Ext (fun a => O a ∨ F.B a) (fun a => O a ∨ F.B a) H (upd H a o) := ⟨fun b z => .inl z, fun c u q n => stay_upd hua npl q fun z => n (.inl (by rw [z]; exact hOa))⟩
  have hi : i < env.length := (List.getElem?_eq_some_iff.mp ee).1
  have old : ∀ (j : Nat) (c : Bool) (q : PV), (env.set i (.o b p'))[j]? = some (.o c q) → (j = i ∧ q = p' ∧ c = b) ∨ (j ≠ i ∧ env[j]? = some (.o c q)) := fun j c q e => by
    by_cases hj : i = j
    · subst hj
      rw [List.getElem?_set_self hi] at e
      cases e
      exact .inl ⟨rfl, rfl, rfl⟩
    · rw [List.getElem?_set_ne hj] at e
      exact .inr ⟨Ne.symm hj, e⟩
  refine ⟨h1, fun c u e n => ?_, ⟨fun c z => ?_, by simp [h3.len], fun j q e => ?_, fun j c q e => ?_, h3.tabs.upd hua npl fun q => let ⟨_, e1, e2⟩ := own.pl; by rw [upd_same] at e1; cases e1; exact e2.nc⟩, fun j c q d e1 e2 => ?_, fun j j' c c' q q' d e1 e2 e3 e4 => ?_, ⟨h6.1, fun j q e => ?_⟩, fun t ht => (h7 t ht).ext ex⟩
  · refine (h2 c u e n).trans fun v ev => stay_upd hua npl ev fun z => ?_
    rw [z] at e n
    rcases h1 a hOa with w | w
    · exact n w
    · rw [w] at e; cases e
  · by_cases hc : c = a
    · rw [hc, upd_same]; exact Option.some_ne_none _
    · rw [upd_ne hc]; exact h3.live c z
  · by_cases hj : i = j
    · subst hj; rw [List.getElem?_set_self hi] at e; cases e
    · rw [List.getElem?_set_ne hj] at e
      obtain ⟨y, f1, f2⟩ := h3.slot j q e
      exact ⟨y, f1, f2.ext ex⟩
  · rcases old j c q e with ⟨rfl, rfl, rfl⟩ | ⟨nj, e'⟩
    · exact ⟨a, ea, own⟩
    · obtain ⟨y, f1, f2⟩ := h3.own j c q e'
      have ny : y ≠ a := fun z => by rw [z] at f1; exact nj (h5 j i c b q p a e' ee f1 ea)
      refine ⟨y, f1, ?_⟩
      cases q with
      | list zs => obtain ⟨us, u1, u2, u3⟩ := f2; exact ⟨us, by rw [upd_ne ny]; exact u1, Reps.ext ex u2, u3⟩
      | dict tk zs =>
        rcases f2 with ⟨ht, us, u1, u2⟩ | ⟨ht, us, u1, u2⟩
        · exact .inl ⟨ht, us, by rw [upd_ne ny]; exact u1, RepK.ext ex u2⟩
        · exact .inr ⟨ht, us, by rw [upd_ne ny]; exact u1, RepT.ext ex u2⟩
      | _ => exact f2.elim
  · rcases old j c q e1 with ⟨rfl, rfl, rfl⟩ | ⟨nj, e'⟩
    · exact h4 _ _ p d ee e2
    · exact h4 j c q d e' e2
  · have un : ∀ (j : Nat) (c : Bool) (q : PV), (env.set i (.o b p'))[j]? = some (.o c q) → ∃ q0, env[j]? = some (.o c q0) := fun j c q e => by
      rcases old j c q e with ⟨rfl, rfl, rfl⟩ | ⟨nj, e'⟩
      · exact ⟨p, ee⟩
      · exact ⟨q, e'⟩
    obtain ⟨q0, e1'⟩ := un j c q e1
    obtain ⟨q0', e2'⟩ := un j' c' q' e2
    exact h5 j j' c c' q0 q0' d e1' e2' e3 e4
  · rcases old j true q e with ⟨rfl, rfl, z⟩ | ⟨nj, e'⟩
    · subst z; exact h6.2 _ p ee
    · exact h6.2 j q e'
theorem StRep.ext (st : StRep G.F F σ H env ts) : ∃ O, StO G.F F O σ H env ts := st
theorem StO.rep {O : Av} (st : StO G.F F O σ H env ts) : StRep G.F F σ H env ts := ⟨O, st⟩
theorem StO.same {O : Av} (st : StO G.F F O σ H env ts) (s : Same H H') : StO G.F F O σ H' env ts := by
  obtain ⟨h1, h2, h3, h4, h5, h6, h7⟩ := st
  exact ⟨h1, fun a o e n => (h2 a o e n).same s, h3.same s, h4, h5, h6, fun t ht => (h7 t ht).same s⟩
/-- other things that are held besides -/
theorem StO.tmp {O : Av} {ts' : List (V × PV)} (st : StO G.F F O σ H env ts) (h : ∀ t ∈ ts', t ∈ ts ∨ Rep G.F (fun a => O a ∨ F.B a) H t.2 t.1) : StO G.F F O σ H env ts' := by
  obtain ⟨h1, h2, h3, h4, h5, h6, h7⟩ := st
  exact ⟨h1, h2, h3, h4, h5, h6, fun t ht => (h t ht).elim (h7 t) id⟩
theorem StRep.sub {ts' : List (V × PV)} (st : StRep G.F F σ H env ts) (h : ∀ t ∈ ts', t ∈ ts) : StRep G.F F σ H env ts' := by
  obtain ⟨O, st⟩ := st
  exact ⟨O, StO.tmp st fun t ht => .inl (h t ht)⟩
theorem StO.live {O : Av} (st : StO G.F F O σ H env ts) : ∀ a, (O a ∨ F.B a) → H a ≠ none := st.2.2.1.live
theorem StO.has {O : Av} (st : StO G.F F O σ H env ts) {t : V × PV} (h : t ∈ ts) : Rep G.F (fun a => O a ∨ F.B a) H t.2 t.1 := st.2.2.2.2.2.2 t h

/-! ### expressions that may change what the frame holds -/
def MEnd (G : Gm) (F : Fp) (ts : List (V × PV)) (W : WX) (σ : St) (Q : VK) : Rs PV → Prop
  | .ok c env => ∀ x H', StRep G.F F σ H' env ((x, c) :: ts) → Q x H'
  | .exc x env => ∀ d H', StRep G.F F σ H' env ts → ExcRep G.F F.B H' d x.flds → W (G.cls x.cls) d σ H'
  | .bad => False
def MJ (G : Gm) {ι : Type} (X : ι → Cx) (W : WX) (e : Expr) (m : MX) : Prop :=
  ∃ t : TE, (∀ i, PE (X i) e t) ∧ ∀ F σ H env ts Q, StRep G.F F σ H env ts → MEnd G F ts W σ Q (m env) → t σ H Q
def MTEnd (G : Gm) (F : Fp) (ts : List (V × PV)) (W : WX) (σ : St) (Q : Bool → Hp → Prop) : Rs Bool → Prop
  | .ok c env => ∀ H', StRep G.F F σ H' env ts → Q c H'
  | .exc x env => ∀ d H', StRep G.F F σ H' env ts → ExcRep G.F F.B H' d x.flds → W (G.cls x.cls) d σ H'
  | .bad => False
def MTJ (G : Gm) {ι : Type} (X : ι → Cx) (W : WX) (e : Expr) (m : MT) : Prop :=
  ∃ t : TT, (∀ i, PT (X i) e t) ∧ ∀ F σ H env ts Q, StRep G.F F σ H env ts → MTEnd G F ts W σ Q (m env) → t σ H Q
def MLEnd (G : Gm) (F : Fp) (ts : List (V × PV)) (W : WX) (σ : St) (Q : List V → Hp → Prop) : Rs (List PV) → Prop
  | .ok cs env => ∀ xs H', xs.length = cs.length → StRep G.F F σ H' env (xs.zip cs ++ ts) → Q xs H'
  | .exc x env => ∀ d H', StRep G.F F σ H' env ts → ExcRep G.F F.B H' d x.flds → W (G.cls x.cls) d σ H'
  | .bad => False
def MLJ (G : Gm) {ι : Type} (X : ι → Cx) (W : WX) (es : List Expr) (m : ML) : Prop :=
  ∃ t : TA, (∀ i, PA (X i) es t) ∧ ∀ F σ H env ts Q, StRep G.F F σ H env ts → MLEnd G F ts W σ Q (m env) → t σ H Q
theorem m_p (h : XJ G X W Rep e pa) : MJ G X W e (mP pa) := by
  obtain ⟨t, h1, h2⟩ := h
  refine ⟨t, h1, fun F σ H env ts Q st q => in_x st h2 ?_⟩
  unfold mP at q
  cases ea : pa env with
  | bad => rw [ea] at q; exact q
  | exc x => rw [ea] at q; exact q
  | ok c => rw [ea] at q; exact q
theorem mt_p {tc : TX} (h : TJ G X W e tc) : MTJ G X W e (mtP tc) := by
  obtain ⟨t, h1, h2⟩ := h
  refine ⟨t, h1, fun F σ H env ts Q st q => in_t st h2 ?_⟩
  unfold mtP at q
  cases ea : tc env with
  | bad => rw [ea] at q; exact q
  | exc x => rw [ea] at q; exact q
  | ok c => rw [ea] at q; exact q
/-- the outcome of the first part, then the rest -/
theorem MEnd.bind {f : PV → Env → Rs PV} {Q Q1 : VK} (q : MEnd G F ts W σ Q (bindM ma f env)) (h : ∀ c env1, ma env = .ok c env1 → MEnd G F ts W σ Q (f c env1) → ∀ x H', StRep G.F F σ H' env1 ((x, c) :: ts) → Q1 x H') : MEnd G F ts W σ Q1 (ma env) := by
  unfold bindM at q
  cases ea : ma env with
  | bad => rw [ea] at q; exact q
  | exc x e => rw [ea] at q; exact q
  | ok c e => rw [ea] at q; exact h c e ea q
theorem MEnd.lower {r : Rs PV} {Q : VK} {t : V × PV} (q : MEnd G F ts W σ Q r) : MEnd G F (t :: ts) W σ Q r := by
  cases r with
  | ok c e => exact fun x H' st => q x H' (st.sub fun t ht => by rcases List.mem_cons.mp ht with h | h <;> simp [h])
  | exc x e => exact fun d H' st => q d H' st.drop
  | bad => exact q
/-- two parts -/
theorem mtwo {ta tb : TE} {Q : VK} {r : R2} {f : PV → PV → Option PV} (ha : ∀ F σ H env ts Q, StRep G.F F σ H env ts → MEnd G F ts W σ Q (ma env) → ta σ H Q) (hb : ∀ F σ H env ts Q, StRep G.F F σ H env ts → MEnd G F ts W σ Q (mb env) → tb σ H Q) (hr : OpJ G r f)
    (st : StRep G.F F σ H env ts) (q : MEnd G F ts W σ Q (mk2 f ma mb env)) : ta σ H fun x H1 => tb σ H1 fun y H2 => r x y H2 Q := by
  refine ha F σ H env ts _ st (MEnd.bind q fun u env1 _ q1 x H1 st1 => hb F σ H1 env1 _ _ st1 (MEnd.bind (MEnd.lower q1) fun v env2 _ q2 y H2 st2 => ?_))
  obtain ⟨O, st2⟩ := st2.ext
  unfold mOpt at q2
  cases ef : f u v with
  | none => rw [ef] at q2; exact q2.elim
  | some c =>
    rw [ef] at q2
    refine hr _ H2 u v c x y st2.live (.inl (st2.has (t := (x, u)) (by simp))) (.inl (st2.has (t := (y, v)) (by simp))) ef Q fun z H3 s3 rz => q2 z H3 (StO.rep (O := O) (StO.tmp (st2.same s3) fun t ht => ?_))
    rcases List.mem_cons.mp ht with rfl | ht
    · exact .inr rz
    · exact .inl (by simpa using Or.inr ht)
theorem m_op {op : Operator} {r : R2} {f : PV → PV → Option PV} (hr : OpJ G r f) (ho : ∀ i, OpR (X i) (binaryOp op) r) (ha : MJ G X W a ma) (hb : MJ G X W b mb) : MJ G X W (.BinOp a op b pos) (mk2 f ma mb) := by
  obtain ⟨ta, h1, h2⟩ := ha
  obtain ⟨tb, h3, h4⟩ := hb
  exact ⟨_, fun i => pe_op (ho i) (h1 i) (h3 i), fun F σ H env ts Q st q => mtwo h2 h4 hr st q⟩
theorem m_cmp {op : CmpOp} {r : R2} {f : PV → PV → Option PV} (hr : OpJ G r f) (ho : ∀ i, OpR (X i) (compareOp op) r) (ha : MJ G X W a ma) (hb : MJ G X W b mb) (hm : behindInMarks op b = false) : MJ G X W (.Compare a [op] [b] pos) (mk2 f ma mb) := by
  obtain ⟨ta, h1, h2⟩ := ha
  obtain ⟨tb, h3, h4⟩ := hb
  exact ⟨_, fun i => pe_cmpR (ho i) (h1 i) (h3 i) hm, fun F σ H env ts Q st q => mtwo h2 h4 hr st q⟩
theorem m_ix {r : R2} {f : PV → PV → Option PV} (hr : OpJ G r f) (ho : ∀ i, IxR (X i) r) (ha : MJ G X W a ma) (hb : MJ G X W b mb) (hs : PlainIx b) : MJ G X W (.Subscript a b pos) (mk2 f ma mb) := by
  obtain ⟨ta, h1, h2⟩ := ha
  obtain ⟨tb, h3, h4⟩ := hb
  exact ⟨_, fun i => pe_ix (ho i) (h1 i) (h3 i) hs, fun F σ H env ts Q st q => mtwo h2 h4 hr st q⟩
theorem mt_cmp {op : CmpOp} {r : R2} {f : PV → PV → Option PV} (hr : OpJ G r f) (ho : ∀ i, OpR (X i) (compareOp op) r) (ha : MJ G X W a ma) (hb : MJ G X W b mb) (hm : behindInMarks op b = false) : MTJ G X W (.Compare a [op] [b] pos) (mtBool (mk2 f ma mb)) := by
  obtain ⟨ta, h1, h2⟩ := ha
  obtain ⟨tb, h3, h4⟩ := hb
  refine ⟨_, fun i => pt_cmpR (ho i) (h1 i) (h3 i) hm, fun F σ H env ts Q st q => mtwo h2 h4 hr st ?_⟩
  unfold mtBool bindM at q
  cases ea : mk2 f ma mb env with
  | bad => rw [ea] at q; exact q
  | exc x e => rw [ea] at q; exact q
  | ok c e =>
    rw [ea] at q
    intro x H' st'
    cases c with
    | bool b =>
      obtain ⟨O, st'⟩ := st'.ext
      have r := st'.has (t := (x, .bool b)) List.mem_cons_self
      simp only [Rep] at r
      exact ⟨b, r, q H' (StRep.drop st'.rep)⟩
    | _ => exact q.elim
theorem m_if {c : Expr} {mc : MT} (hc : MTJ G X W c mc) (ha : MJ G X W a ma) (hb : MJ G X W b mb) : MJ G X W (.IfExp c a b pos) (mIf mc ma mb) := by
  obtain ⟨t, h0, h00⟩ := hc
  obtain ⟨ta, h1, h2⟩ := ha
  obtain ⟨tb, h3, h4⟩ := hb
  refine ⟨_, fun i => pe_ifExp (h0 i) (h1 i) (h3 i), fun F σ H env ts Q st q => h00 F σ H env ts _ st ?_⟩
  unfold mIf bindM at q
  cases ec : mc env with
  | bad => rw [ec] at q; exact q
  | exc x e => rw [ec] at q; exact q
  | ok u e =>
    rw [ec] at q
    intro H1 st1
    cases u with
    | true => exact h2 F σ H1 e ts Q st1 q
    | false => exact h4 F σ H1 e ts Q st1 q
theorem mt_and {tc td : MT} (ha : ∃ t : TT, (∀ i, PT (X i) a t) ∧ ∀ F σ H env ts Q, StRep G.F F σ H env ts → MTEnd G F ts W σ Q (tc env) → t σ H Q)
    (hb : ∃ t : TT, (∀ i, PW (X i) (.BoolOp .And (b :: es) pos) t) ∧ ∀ F σ H env ts Q, StRep G.F F σ H env ts → MTEnd G F ts W σ Q (td env) → t σ H Q) :
    ∃ t : TT, (∀ i, PW (X i) (.BoolOp .And (a :: b :: es) pos) t) ∧ ∀ F σ H env ts Q, StRep G.F F σ H env ts → MTEnd G F ts W σ Q (mtAnd tc td env) → t σ H Q := by
  obtain ⟨t, h1, h2⟩ := ha
  obtain ⟨u, h3, h4⟩ := hb
  refine ⟨_, fun i => pw_and (h1 i) (h3 i), fun F σ H env ts Q st q => h2 F σ H env ts _ st ?_⟩
  unfold mtAnd bindM at q
  cases ec : tc env with
  | bad => rw [ec] at q; exact q
  | exc x e => rw [ec] at q; exact q
  | ok v e =>
    rw [ec] at q
    intro H1 st1
    cases v with
    | true => exact h4 F σ H1 e ts Q st1 q
    | false => exact q H1 st1

/-! #### arguments -/
theorem ml_nil : MLJ G X W [] mNil := ⟨_, fun i => pa_nil, fun F σ H env ts Q st q => q [] H rfl st⟩
theorem ml_cons (ha : MJ G X W a ma) (hr : MLJ G X W es ml) (hs : ∀ i, starEach (a :: es) (X i).env = (false, eval a (X i).env) :: starEach es (X i).env := by intro _; rfl) : MLJ G X W (a :: es) (mCons ma ml) := by
  obtain ⟨ta, h1, h2⟩ := ha
  obtain ⟨tr, h3, h4⟩ := hr
  refine ⟨_, fun i => pa_cons (h1 i) (h3 i) (hs i), fun F σ H env ts Q st q => h2 F σ H env ts _ st ?_⟩
  unfold mCons bindM at q
  cases ea : ma env with
  | bad => rw [ea] at q; exact q
  | exc x e => rw [ea] at q; exact q
  | ok u env1 =>
    rw [ea] at q
    simp only at q
    intro x H1 st1
    refine h4 F σ H1 env1 _ _ st1 ?_
    cases el : ml env1 with
    | bad => rw [el] at q; exact q
    | exc x e => rw [el] at q; exact fun d H' st' => q d H' st'.drop
    | ok us env2 =>
      rw [el] at q
      intro xs H2 hl st2
      refine q (x :: xs) H2 (by simp [hl]) (st2.sub fun t ht => ?_)
      simp only [List.zip_cons_cons, List.cons_append, List.mem_cons, List.mem_append] at ht ⊢
      rcases ht with h | h | h <;> simp [h]
theorem zip_reps {O : Av} : ∀ {xs : List V} {us : List PV} {ts : List (V × PV)}, xs.length = us.length → (∀ t ∈ xs.zip us ++ ts, Rep G.F O H t.2 t.1) → Reps G.F O H us xs
  | [], [], _, _, _ => .nil
  | x :: xs, u :: us, ts, hl, h => .cons (h (x, u) (by simp)) (zip_reps (ts := ts) (by simpa using hl) fun t ht => h t (by
      simp only [List.mem_append] at ht
      rcases ht with h | h <;> simp [h]))
  | [], _ :: _, _, h, _ => by cases h
  | _ :: _, [], _, h, _ => by cases h
theorem MLEnd.bind {f : List PV → Env → Rs PV} {Q : VK} {Q1 : List V → Hp → Prop} (q : MEnd G F ts W σ Q (bindM ml f env)) (h : ∀ cs env1, ml env = .ok cs env1 → MEnd G F ts W σ Q (f cs env1) → ∀ xs H', xs.length = cs.length → StRep G.F F σ H' env1 (xs.zip cs ++ ts) → Q1 xs H') : MLEnd G F ts W σ Q1 (ml env) := by
  unfold bindM at q
  cases ea : ml env with
  | bad => rw [ea] at q; exact q
  | exc x e => rw [ea] at q; exact q
  | ok c e => rw [ea] at q; exact h c e ea q
/-- a written count of items -/
def ManyM (n : Nat) (l : ML) : Prop := ∀ env us e, l env = .ok us e → us.length = n
theorem manyM_nil : ManyM 0 mNil := fun env us e h => by cases h; rfl
theorem manyM_cons {n : Nat} {m : MX} {l : ML} (h : ManyM n l) : ManyM (n + 1) (mCons m l) := fun env us e q => by
  unfold mCons bindM at q
  cases ea : m env with
  | bad => rw [ea] at q; cases q
  | exc x e => rw [ea] at q; cases q
  | ok u env1 =>
    rw [ea] at q
    simp only at q
    cases el : l env1 with
    | bad => rw [el] at q; cases q
    | exc x e => rw [el] at q; cases q
    | ok vs e2 =>
      rw [el] at q
      cases q
      simp [h env1 vs _ el]
theorem m_tup {x1 n : Nat} (h : MLJ G X W es ml) (hm : ManyM n ml) (hn : n ≤ 1000 := by decide) : MJ G X W (.Tuple es x1 pos) (mTup ml) := by
  obtain ⟨t, h1, h2⟩ := h
  refine ⟨_, fun i => pe_tup (h1 i), fun F σ H env ts Q st q => h2 F σ H env ts _ st (MLEnd.bind q fun us env1 el q1 xs H1 hl st1 => ?_)⟩
  have hle : us.length ≤ sizeLine := by rw [hm env us env1 el]; exact Nat.le_of_lt (small1000 hn)
  refine ⟨by rw [hl]; exact hle, fun p hp => q1 _ _ ?_⟩
  obtain ⟨O, st1⟩ := st1.ext
  refine StO.rep (O := O) (StO.tmp (st1.same (same_new hp _)) fun t ht => ?_)
  rcases List.mem_cons.mp ht with rfl | ht
  · exact .inr (rep_newT st1.live hp (zip_reps hl fun t ht => st1.has ht) (by rw [line_eq]; exact hle))
  · exact .inl (List.mem_append_right _ ht)
theorem m_callB {r : List V → Hp → VK → Prop} {f : List PV → Option PV} {id : String} {x : Str} {p : Pos} (hr : FnJ G r f) (hc : ∀ i, CallR (X i) (.builtin id) r) (S : Sits G X k W) (hm : G.mg x = none) (hv : bootBuiltins x = some (.builtin id)) (ha : MLJ G X W (e :: es) ml) (hg : ∀ i, Gl (X i) x := by intro _; rfl)
    (hn : x ≠ "__name__" := by decide) (hdb : (x == ("__debug__" : Str)) = false := by decide) (he : ∀ i, starEach (e :: es) (X i).env = (false, eval e (X i).env) :: starEach es (X i).env := by intro _; rfl) (hpl : ∀ i, (backTo pos (starEach es (X i).env)).any (·.1) = false := by intro _; rfl) :
    MJ G X W (.Call (.Name x p) (e :: es) [] pos) (mB f ml) := by
  obtain ⟨t, h1, h2⟩ := ha
  refine ⟨_, fun i => pe_callB (hc i) (hg i) (by rw [S.mg i]; exact hm) hv (h1 i) hn hdb (he i) (hpl i), fun F σ H env ts Q st q => h2 F σ H env ts _ st (MLEnd.bind q fun us env1 el q1 xs H1 hl st1 => ?_)⟩
  obtain ⟨O, st1⟩ := st1.ext
  unfold mOpt at q1
  cases ef : f us with
  | none => rw [ef] at q1; exact q1.elim
  | some c =>
    rw [ef] at q1
    refine hr _ H1 us c xs st1.live (AllR.imp (fun p x h => .inl h) (reps_all (zip_reps hl fun t ht => st1.has ht))) ef Q fun z H3 s3 rz => q1 z H3 (StO.rep (O := O) (StO.tmp (st1.same s3) fun t ht => ?_))
    rcases List.mem_cons.mp ht with rfl | ht
    · exact .inr rz
    · exact .inl (List.mem_append_right _ ht)
end
end Pv
end
section
set_option autoImplicit false
set_option Elab.async false
set_option linter.all false
set_option maxRecDepth 100000
namespace Pv
open PySem PySem.Spec PyProof.Rows L2
variable [TN]
section
variable {G : Gm} {ι : Type} {X : ι → Cx} {k : Nat} {W : WX} {e a b c elt : Expr} {pa pb pc : PX} {ma mb mc : MX} {pos : Pos} {es ifs : List Expr} {l : LX} {ml : ML} {tg iter : Expr} {F : Fp} {σ : St} {H H' : Hp} {env env' : Env} {ts : List (V × PV)}

theorem m_callTy {r : List V → Hp → VK → Prop} {f : List PV → Option PV} {T : String} {x : Str} {p : Pos} (hr : FnJ G r f) (hc : ∀ i, CallR (X i) (.type T) r) (S : Sits G X k W) (hm : G.mg x = none) (hv : bootBuiltins x = some (.type T)) (ha : MLJ G X W (e :: es) ml) (hg : ∀ i, Gl (X i) x := by intro _; rfl)
    (hn : x ≠ "__name__" := by decide) (hdb : (x == ("__debug__" : Str)) = false := by decide) (he : ∀ i, starEach (e :: es) (X i).env = (false, eval e (X i).env) :: starEach es (X i).env := by intro _; rfl) (hpl : ∀ i, (backTo pos (starEach es (X i).env)).any (·.1) = false := by intro _; rfl) :
    MJ G X W (.Call (.Name x p) (e :: es) [] pos) (mB f ml) := by
  obtain ⟨t, h1, h2⟩ := ha
  refine ⟨_, fun i => pe_callTy (hc i) (hg i) (by rw [S.mg i]; exact hm) hv (h1 i) hn hdb (he i) (hpl i), fun F σ H env ts Q st q => h2 F σ H env ts _ st (MLEnd.bind q fun us env1 el q1 xs H1 hl st1 => ?_)⟩
  obtain ⟨O, st1⟩ := st1.ext
  unfold mOpt at q1
  cases ef : f us with
  | none => rw [ef] at q1; exact q1.elim
  | some c =>
    rw [ef] at q1
    refine hr _ H1 us c xs st1.live (AllR.imp (fun p x h => .inl h) (reps_all (zip_reps hl fun t ht => st1.has ht))) ef Q fun z H3 s3 rz => q1 z H3 (StO.rep (O := O) (StO.tmp (st1.same s3) fun t ht => ?_))
    rcases List.mem_cons.mp ht with rfl | ht
    · exact .inr rz
    · exact .inl (List.mem_append_right _ ht)

/-! ### own functions -/
theorem m_call {x : Str} {p : Pos} {ps : List Str} {n : Nat} {Ff : List PV → Rp PV} (S : Sits G X k W) (hf : FnHas G k x ps (spP G n Ff)) (ha : MLJ G X W (e :: es) ml) (hm : ManyM n ml) (hg : ∀ i, Gl (X i) x := by intro _; rfl)
    (hdb : (x == ("__debug__" : Str)) = false := by decide) (he : ∀ i, starEach (e :: es) (X i).env = (false, eval e (X i).env) :: starEach es (X i).env := by intro _; rfl) (hpl : ∀ i, (backTo pos (starEach es (X i).env)).any (·.1) = false := by intro _; rfl) :
    MJ G X W (.Call (.Name x p) (e :: es) [] pos) (mCall Ff ml) := by
  obtain ⟨f, fd, hf⟩ := hf
  obtain ⟨t, h1, h2⟩ := ha
  refine ⟨tCallS (spP G n Ff) (WE W) t, fun i => ?_, fun F σ H env ts Q st q => h2 F σ H env ts _ st (MLEnd.bind q fun us env1 el q1 xs H1 hl st1 => ?_)⟩
  · refine pe_callS (CX := L2.CX (X i).prog (X i).w) (k := k) (f := f) (fd := fd) (ps := ps) ?_ (S.room i) (hg i) (by rw [S.mg i]; exact hf.mg) (by rw [S.K i]; exact hf.kp) (by rw [S.K i]; exact hf.bd) (fun σ => passAt (S.takes i) σ) (h1 i) hdb (he i) (hpl i)
    rw [S.P i, S.w i, S.K i, S.mg i, S.base i]
    exact hf.ok
  · obtain ⟨O, st1⟩ := st1.ext
    refine ⟨by rw [hl]; exact hm env us env1 el, _, us, st1.live, st1.2.2.1.tabs, zip_reps hl fun t ht => st1.has ht, ?_⟩
    cases ef : Ff us with
    | bad => rw [ef] at q1; exact q1
    | exc x =>
      rw [ef] at q1
      intro d H' s ex
      refine q1 d H' (StRep.sub (StO.rep (O := O) (st1.same s)) fun t ht => List.mem_append_right _ ht) fun nz => ?_
      obtain ⟨a, m, f1, f2, f3, f4⟩ := ex nz
      exact ⟨a, m, f1, fun z => f2 (.inr z), f3, fun f p fp => let ⟨v, g1, g2⟩ := f4 f p fp; ⟨v, g1, g2.ext (.less fun a z => .inr z)⟩⟩
    | ok c =>
      rw [ef] at q1
      intro z H3 s3 rz
      refine q1 z H3 (StO.rep (O := O) (StO.tmp (st1.same s3) fun t ht => ?_))
      rcases List.mem_cons.mp ht with rfl | ht
      · exact .inr rz
      · exact .inl (List.mem_append_right _ ht)

/-! ### statements -/
theorem s_setM {i : Nat} {x : Str} {pos' : Pos} (S : Sits G X k W) (he : MJ G X W e ma) (hi : ∀ j, (X j).N[i]? = some x := by intro _; rfl) (hx : ∀ j, Loc (X j).env.scope x := by intro _; first | exact Or.inl rfl | exact Or.inr rfl) (hf : ∀ j, (X j).fn x = true ∨ (X j).env.scope.names.lookup x = some .local := by intro _; first | exact Or.inl rfl | exact Or.inr rfl)
    (hs : ∀ j, swapsWith e (some (.Name x pos')) pos.line (X j).env = pure false := by intro _; rfl) : S1 G X W (.Assign [.Name x pos'] e pos) (sAsgM ma (gSet i)) := by
  obtain ⟨t, h1, h2⟩ := he
  refine ⟨_, fun j => ps_set (S.nd j) (hi j) (hx j) (h1 j) (hs j) (hf j), fun F σ H env ts D st q => h2 F σ H env ts _ st ?_⟩
  unfold sAsgM bindM at q
  cases ea : ma env with
  | bad => rw [ea] at q; exact q
  | exc x e => rw [ea] at q; exact fun d H' s => q d σ H' s
  | ok c e => rw [ea] at q; exact fun x H' s => q _ H' s.put
theorem s_asgM {g : GX} {ts' : List Nat} (S : Sits G X k W) (he : MJ G X W e ma) (hg : GJ G X tg g ts') (hs : ∀ j, swapsWithSole [tg] e pos.line (X j).env = pure false := by intro _; rfl) (hw : ∀ j, swappedStores [tg] e (X j).env = pure none := by intro _; rfl)
    (h1 : ∀ j, (assignEach [tg] (X j).env).map (·.2) = [assign tg (X j).env] := by intro _; rfl) : S1 G X W (.Assign [tg] e pos) (sAsgM ma g) := by
  obtain ⟨t, h3, h4⟩ := he
  obtain ⟨gt, h5, h6⟩ := hg
  refine ⟨_, fun j => ps_asg (h3 j) (h5 j) (hs j) (hw j) (h1 j), fun F σ H env ts D st q => h4 F σ H env ts _ st ?_⟩
  unfold sAsgM bindM at q
  cases ea : ma env with
  | bad => rw [ea] at q; exact q
  | exc x e => rw [ea] at q; exact fun d H' s => q d σ H' s
  | ok c e =>
    rw [ea] at q
    intro x H' s
    simp only at q
    cases eg : g c with
    | none => rw [eg] at q; exact q.elim
    | some l0 =>
      rw [eg] at q
      simp only [ofOpt_some, liftR_ok] at q
      obtain ⟨O, s⟩ := s.ext
      obtain ⟨k1, l', k2, k3⟩ := h6 _ H' c x l0 (s.has (t := (x, c)) List.mem_cons_self) eg
      refine k3 σ _ (q _ H' (StRep.puts (l := l0) (l' := l') (StO.rep (O := O) (StO.tmp s fun t ht => ?_)) k2.keys))
      rcases List.mem_append.mp ht with ht | ht
      · exact .inr (stores_tmp k2 t ht)
      · exact .inl (List.mem_cons_of_mem _ ht)
/-- i, j = a, b with plain local names -/
theorem sparM (S : Sits G X k W) (i j : Nat) {x y : Str} {px py pt pt2 : Pos} {kt k2 : Nat} (ha : MLJ G X W [a, b] ml) (hm : ManyM 2 ml) (hi : ∀ m, (X m).N[i]? = some x := by intro _; rfl) (hj : ∀ m, (X m).N[j]? = some y := by intro _; rfl) (hij : i ≠ j := by decide)
    (hx : ∀ m, (X m).env.scope.names.lookup x = some .local := by intro _; rfl) (hy : ∀ m, (X m).env.scope.names.lookup y = some .local := by intro _; rfl)
    (hw : ∀ m, swappedStores [.Tuple [.Name x px, .Name y py] kt pt] (.Tuple [a, b] k2 pt2) (X m).env = pure (some [x, y]) := by intro _; rfl)
    (hs : ∀ m, swapsWithSole [.Tuple [.Name x px, .Name y py] kt pt] (.Tuple [a, b] k2 pt2) pos.line (X m).env = pure false := by intro _; rfl) :
    S1 G X W (.Assign [.Tuple [.Name x px, .Name y py] kt pt] (.Tuple [a, b] k2 pt2) pos) (sAsgM (mTup ml) (gTuple (gCons (gSet i) (gCons (gSet j) gNil)))) := by
  obtain ⟨t, h1, h2⟩ := ha
  refine ⟨_, fun m => ps_par (S.calm m) (S.nd m) (hi m) (hj m) hij (hx m) (hy m) (h1 m) (hw m) (hs m), fun F σ H env ts D st q => h2 F σ H env ts _ st ?_⟩
  unfold sAsgM mTup bindM at q
  cases el : ml env with
  | bad => rw [el] at q; exact q
  | exc x e => rw [el] at q; exact fun d H' s => q d σ H' s
  | ok cs e =>
    rw [el] at q
    have hn := hm env cs e el
    match cs, hn with
    | [c1, c2], _ =>
      intro xs H' hl s
      match xs, hl with
      | [x1, x2], _ => exact ⟨x1, x2, rfl, q _ H' (StRep.put (StRep.put s))⟩
theorem s_exprM (he : MJ G X W e ma) (hs : ∀ j, swapsWith e none pos.line (X j).env = pure false := by intro _; rfl) : S1 G X W (.Expr e pos) (sExprM ma) := by
  obtain ⟨t, h1, h2⟩ := he
  refine ⟨_, fun j => ps_expr (h1 j) (hs j), fun F σ H env ts D st q => h2 F σ H env ts _ st ?_⟩
  unfold sExprM bindM at q
  cases ea : ma env with
  | bad => rw [ea] at q; exact q
  | exc x e => rw [ea] at q; exact fun d H' s => q d σ H' s
  | ok c e => rw [ea] at q; exact fun x H' s => q _ H' s.drop
theorem s_retM (he : MJ G X W e ma) : S1 G X W (.Return (some e) pos) (sRetM ma) := by
  obtain ⟨t, h1, h2⟩ := he
  refine ⟨_, fun j => ps_ret (h1 j), fun F σ H env ts D st q => h2 F σ H env ts _ st ?_⟩
  unfold sRetM bindM at q
  cases ea : ma env with
  | bad => rw [ea] at q; exact q
  | exc x e => rw [ea] at q; exact fun d H' s => q d σ H' s
  | ok c e => rw [ea] at q; exact fun x H' s => q x σ H' s
theorem s_ifM {mc : MT} {m n : SM} {u v : List Stmt} (hc : MTJ G X W c mc) (ha : SS G X W u m) (hb : SS G X W v n) : S1 G X W (.If c u v pos) (sIfM mc m n) := by
  obtain ⟨t, h1, h2⟩ := hc
  obtain ⟨ta, h3, h4⟩ := ha
  obtain ⟨tb, h5, h6⟩ := hb
  refine ⟨_, fun j => ps_if (h1 j) (h3 j) (h5 j), fun F σ H env ts D st q => h2 F σ H env ts _ st ?_⟩
  unfold sIfM bindM at q
  cases ea : mc env with
  | bad => rw [ea] at q; exact q
  | exc x e => rw [ea] at q; exact fun d H' s => q d σ H' s
  | ok c e =>
    rw [ea] at q
    intro H' s
    cases c with
    | true => rw [if_pos rfl]; exact h4 F σ H' e ts D s q
    | false => rw [if_neg Bool.false_ne_true]; exact h6 F σ H' e ts D s q
/-- name.append(a) -/
theorem sapp (S : Sits G X k W) (i : Nat) {x : Str} {px pa1 pc1 : Pos} (he : MJ G X W e ma) (hN : ∀ j, (X j).N[i]? = some x := by intro _; rfl) (hv : ∀ j, Vis (X j).env.scope x := by intro _; first | exact Or.inl rfl | exact Or.inr (Or.inl rfl) | exact Or.inr (Or.inr rfl))
    (hd : (x == ("__debug__" : Str)) = false := by decide) (hcd : (x == ("__classdict__" : Str)) = false := by decide)
    (hbase : ∀ j, attributeBase (.Name x px) "append" (X j).env (eval (.Name x px) (X j).env) = eval (.Name x px) (X j).env := by intro _; rfl)
    (hfew : ∀ j, ((backTo pc1 (starEach [e] (X j).env)).all (fun x => !x.1) && (backToKw pc1 (keywordEach [] (X j).env)).all (fun x => x.1.isSome) && decide (([e] : List Expr).length + ([] : List Keyword).length + (if ([] : List Keyword).isEmpty then 0 else 1) < 30)) = true := by intro _; rfl)
    (hline : (pa1.endLine == pc1.line) = true := by rfl) (hst : ∀ j, starEach [e] (X j).env = (false, eval e (X j).env) :: starEach [] (X j).env := by intro _; rfl) (hplain : ∀ j, (backTo pc1 (starEach [] (X j).env)).any (·.1) = false := by intro _; rfl)
    (hsw : ∀ j, swapsWith (.Call (.Attribute (.Name x px) "append" pa1) [e] [] pc1) none pos.line (X j).env = pure false := by intro _; rfl) : S1 G X W (.Expr (.Call (.Attribute (.Name x px) "append" pa1) [e] [] pc1) pos) (sApp i ma) := by
  obtain ⟨t, h1, h2⟩ := he
  refine ⟨tDrop (tBM G.K "list" rAppend (tVar i) (tCons t tNil)), fun j => ?_, fun F σ H env ts D st q => ?_⟩
  · have := ps_expr (pos := pos) (pe_bm (cpos := pc1) (apos := pa1) PySem.F.plainAttrs_list PySem.F.slot_list_append PySem.F.type_list_append mt_append (pe_var (pos := px) (hN j) (hv j) hd hcd) (pa_cons (h1 j) pa_nil (hst j)) (hbase j) (hfew j) hline (hst j) (hplain j)) (hsw j)
    rw [S.K j] at this
    exact this
  unfold sApp at q
  split at q
  · rename_i b0 zs0 e0
    obtain ⟨O, st⟩ := st.ext
    obtain ⟨l, el, xs, hH, hr, hz2⟩ := st.2.2.1.own i b0 _ e0
    refine ⟨.ref l, el, .inl ⟨rfl, xs, .of hH⟩, ?_⟩
    refine h2 F σ H env ts _ st.rep ?_
    unfold bindM at q
    cases ea : ma env with
    | bad => rw [ea] at q; exact q
    | exc x e => rw [ea] at q; exact fun d H' s => q d σ H' s
    | ok c env1 =>
      rw [ea] at q
      simp only at q
      intro y H' st'
      split at q
      · rename_i b zs e1
        split at q
        · rename_i hz
          obtain ⟨O', st'⟩ := st'.ext
          obtain ⟨l', el', xs', hH', hr', hz2'⟩ := st'.2.2.1.own i b _ e1
          have ell : l = l' := by rw [el] at el'; cases el'; rfl
          subst ell
          refine ⟨l, xs', y, rfl, rfl, hH', ?_, ?_⟩
          · rw [hr'.length, ← line_eq]; exact hz
          · refine q σ _ (StO.rep (O := O') (StO.tmp (StO.write (p' := .list (zs ++ [c])) st' e1 el' ⟨xs' ++ [y], upd_same, ?_, by simp; exact hz⟩) fun t ht => .inl (List.mem_cons_of_mem _ ht)))
            have hO : O' l := st'.2.2.2.1 i b _ l e1 el'
            have ex : Ext (fun a => O' a ∨ F.B a) (fun a => O' a ∨ F.B a) H' (upd H' l (.lst (xs' ++ [y]))) := ⟨fun b z => .inl z, fun c u q n => stay_upd (by assumption) (by exact True.intro) q fun z => n (.inl (by rw [z]; exact hO))⟩
            exact (Reps.ext ex hr').append (.one ((st'.has (t := (y, c)) List.mem_cons_self).ext ex))
        · exact q.elim
      · exact q.elim
  · exact q.elim
/-- name.pop() -/
theorem m_pop (S : Sits G X k W) (i : Nat) {x : Str} {px pa1 pc1 : Pos} (hN : ∀ j, (X j).N[i]? = some x := by intro _; rfl) (hv : ∀ j, Vis (X j).env.scope x := by intro _; first | exact Or.inl rfl | exact Or.inr (Or.inl rfl) | exact Or.inr (Or.inr rfl))
    (hd : (x == ("__debug__" : Str)) = false := by decide) (hcd : (x == ("__classdict__" : Str)) = false := by decide)
    (hbase : ∀ j, attributeBase (.Name x px) "pop" (X j).env (eval (.Name x px) (X j).env) = eval (.Name x px) (X j).env := by intro _; rfl)
    (hline : (pa1.endLine == pc1.line) = true := by rfl) : MJ G X W (.Call (.Attribute (.Name x px) "pop" pa1) [] [] pc1) (mPop i) := by
  refine ⟨tBM0 G.K "list" rPop (tVar i), fun j => ?_, fun F σ H env ts Q st q => ?_⟩
  · have := pe_bm0 (cpos := pc1) (apos := pa1) PySem.F.plainAttrs_list PySem.F.slot_list_pop PySem.F.type_list_pop mt_pop (pe_var (pos := px) (hN j) (hv j) hd hcd) (hbase j) hline
    rw [S.K j] at this
    exact this
  unfold mPop at q
  split at q
  · rename_i b zs e1
    split at q
    · rename_i p ep
      obtain ⟨O, st⟩ := st.ext
      obtain ⟨l, el, xs, hH, hr, hz2⟩ := st.2.2.1.own i b _ e1
      have e2 : zs[zs.length - 1]? = some p := by rw [← List.getLast?_eq_getElem?]; exact ep
      obtain ⟨y, h1, h2⟩ := hr.get' e2
      refine ⟨.ref l, el, .inl ⟨rfl, xs, .of hH⟩, l, xs, y, rfl, rfl, hH, by rw [hr.length]; exact h1, q y _ (StO.rep (O := O) (StO.tmp (StO.write (p' := .list zs.dropLast) st e1 el ⟨xs.dropLast, upd_same, ?_, by rw [List.length_dropLast]; omega⟩) fun t ht => ?_))⟩
      all_goals
        have hO : O l := st.2.2.2.1 i b _ l e1 el
        have ex : Ext (fun a => O a ∨ F.B a) (fun a => O a ∨ F.B a) H (upd H l (.lst xs.dropLast)) := ⟨fun b z => .inl z, fun c u q n => stay_upd (by assumption) (by exact True.intro) q fun z => n (.inl (by rw [z]; exact hO))⟩
      · have h := (Reps.ext ex hr).take (zs.length - 1)
        have hx : xs.take (zs.length - 1) = xs.dropLast := by rw [List.dropLast_eq_take, hr.length]
        rw [hx, ← List.dropLast_eq_take] at h
        exact h
      · rcases List.mem_cons.mp ht with rfl | ht
        · exact .inr (h2.ext ex)
        · exact .inl ht
    · exact q.elim
  · exact q.elim

/-! ### list comprehensions whose parts change what the frame holds -/
theorem StRep.forget (h : StRep G.F F σ H env ts) (i : Nat) : StRep G.F F σ H (env.set i .no) ts := by
  obtain ⟨O, h1, h2, h3, h4, h5, h6, h7⟩ := h
  have old : ∀ (j : Nat) (s : Sl), (env.set i .no)[j]? = some s → s ≠ .no → env[j]? = some s := fun j s e n => by
    by_cases hj : i = j
    · subst hj
      by_cases hi : i < env.length
      · rw [List.getElem?_set_self hi] at e; cases e; exact absurd rfl n
      · rw [List.getElem?_eq_none (by simpa using hi)] at e; cases e
    · rw [List.getElem?_set_ne hj] at e; exact e
  have no : ∀ {b : Bool} {p : PV}, (Sl.o b p) ≠ .no := fun z => by cases z
  exact ⟨O, h1, h2, ⟨h3.live, by simp [h3.len], fun j p e => h3.slot j p (old j _ e fun z => by cases z), fun j b p e => h3.own j b p (old j _ e no), h3.tabs⟩, fun j b p a e => h4 j b p a (old j _ e no),
    fun j j' b b' p q a e e' => h5 j j' b b' p q a (old j _ e no) (old j' _ e' no), ⟨h6.1, fun j p e => h6.2 j p (old j _ e no)⟩, h7⟩
theorem StRep.forgets (h : StRep G.F F σ H env ts) : ∀ vs : List Nat, StRep G.F F σ H (wipes env vs) ts
  | [] => h
  | v :: vs => (h.forgets vs).forget v
/-- the slots may be others where nothing is known -/
theorem StO.slots {O : Av} {σ' : St} (h : StO G.F F O σ H env ts) (hl : σ'.length = σ.length) (he : ∀ (j : Nat), (∀ p, env[j]? ≠ some (.v p)) → (∀ b p, env[j]? ≠ some (.o b p)) ∨ σ'[j]? = σ[j]?) (hv : ∀ (j : Nat) (p : PV), env[j]? = some (.v p) → σ'[j]? = σ[j]?) : StO G.F F O σ' H env ts := by
  obtain ⟨h1, h2, h3, h4, h5, h6, h7⟩ := h
  have ho : ∀ (j : Nat) (b : Bool) (p : PV), env[j]? = some (.o b p) → σ'[j]? = σ[j]? := fun j b p e => (he j fun q z => by rw [e] at z; cases z).elim (fun z => absurd e (z b p)) id
  exact ⟨h1, h2, ⟨h3.live, by rw [hl, h3.len], fun j p e => by rw [hv j p e]; exact h3.slot j p e, fun j b p e => by rw [ho j b p e]; exact h3.own j b p e, h3.tabs⟩, fun j b p a e z => h4 j b p a e (by rw [← ho j b p e]; exact z),
    fun j j' b b' p q a e e' z z' => h5 j j' b b' p q a e e' (by rw [← ho j b p e]; exact z) (by rw [← ho j' b' q e']; exact z'), ⟨h6.1, fun j p e => by rw [ho j true p e]; exact h6.2 j p e⟩, h7⟩
theorem wipes_at (env : Env) (j : Nat) : ∀ vs : List Nat, (wipes env vs)[j]? = if j ∈ vs then (env[j]?).map (fun _ => .no) else env[j]?
  | [] => by simp [wipes]
  | v :: vs => by
    unfold wipes
    have ih := wipes_at env j vs
    have hl : (wipes env vs).length = env.length := by
      clear ih
      induction vs with
      | nil => rfl
      | cons w ws ih => unfold wipes; rw [List.length_set, ih]
    by_cases hv : v = j
    · subst hv
      rw [List.getElem?_set]
      simp only [if_true, hl, List.mem_cons, true_or]
      by_cases hlt : v < env.length
      · simp [hlt]
      · simp [hlt, List.getElem?_eq_none (Nat.le_of_not_lt hlt)]
    · rw [List.getElem?_set_ne hv, ih]
      have : j ≠ v := Ne.symm hv
      simp [this]
/-- where all own slots are forgotten, the slots may differ there -/
theorem StO.differ {O : Av} {σ' : St} {vs : List Nat} (h : StO G.F F O σ H (wipes env vs) ts) (hl : σ'.length = σ.length) (he : ∀ j, j ∉ vs → σ'[j]? = σ[j]?) : StO G.F F O σ' H (wipes env vs) ts := by
  refine h.slots hl (fun j hn => ?_) fun j p e => ?_
  · by_cases hj : j ∈ vs
    · refine .inl fun b p z => ?_
      rw [wipes_at, if_pos hj] at z
      cases e : env[j]? with
      | none => rw [e] at z; cases z
      | some _ => rw [e] at z; cases z
    · exact .inr (he j hj)
  · by_cases hj : j ∈ vs
    · rw [wipes_at, if_pos hj] at e
      cases e2 : env[j]? with
      | none => rw [e2] at e; cases e
      | some _ => rw [e2] at e; cases e
    · exact he j hj
theorem StRep.differ {σ' : St} {vs : List Nat} (h : StRep G.F F σ H (wipes env vs) ts) (hl : σ'.length = σ.length) (he : ∀ j, j ∉ vs → σ'[j]? = σ[j]?) : StRep G.F F σ' H (wipes env vs) ts := by
  obtain ⟨O, h⟩ := h.ext
  exact StO.rep (O := O) (StO.differ h hl he)
/-- a part of a body, as a body of its own -/
theorem StO.inner {O : Av} (h : StO G.F F O σ H env ts) : StO G.F ⟨H, O, F.B, F.L⟩ O σ H env ts ∧ ∀ σ' H' env' ts', StRep G.F ⟨H, O, F.B, F.L⟩ σ' H' env' ts' → StRep G.F F σ' H' env' ts' := by
  obtain ⟨h1, h2, h3, h4, h5, h6, h7⟩ := h
  refine ⟨⟨fun a z => .inl z, fun a o e _ => Stay.refl e, h3, h4, h5, h6, h7⟩, fun σ' H' env' ts' ⟨O', g1, g2, g3, g4, g5, g6, g7⟩ => ⟨O', fun a z => ?_, fun a o e n => ?_, g3, g4, g5, g6, g7⟩⟩
  · rcases g1 a z with z | z
    · exact h1 a z
    · by_cases hi : F.I a
      · exact .inl hi
      · refine .inr ?_
        cases e : F.H0 a with
        | none => rfl
        | some o =>
          exact absurd z (h2 a o e hi).live
  · exact (h2 a o e n).trans fun u eu => g2 a u eu fun z => (h1 a z).elim n fun z => by rw [z] at e; cases e
theorem setV_at : ∀ {l : List (Nat × V)} {σ : St} {j : Nat}, (∀ q ∈ l, q.1 ≠ j) → (setV σ l)[j]? = σ[j]?
  | [], σ, j, _ => rfl
  | (i, v) :: r, σ, j, h => by
    show (setV (σ.set i (some v)) r)[j]? = _
    rw [setV_at fun q hq => h q (List.mem_cons_of_mem _ hq), List.getElem?_set_ne (h (i, v) List.mem_cons_self)]
theorem setV_len : ∀ (l : List (Nat × V)) (σ : St), (setV σ l).length = σ.length
  | [], σ => rfl
  | (i, v) :: r, σ => by show (setV (σ.set i (some v)) r).length = _; rw [setV_len, List.length_set]
/-- something outside is written: it is avoided by all -/
theorem StO.updB {O : Av} {D : Addr} {o u0 : HO} (st : StO G.F F O σ H env ts) (hD : H D = some u0) (hpl : Pl u0) (hpo : Pl o) (hB : F.B D) (h0 : F.H0 D = none) : StO G.F F O σ (upd H D o) env ts := by
  obtain ⟨h1, h2, h3, h4, h5, h6, h7⟩ := st
  have ex : Ext (fun a => O a ∨ F.B a) (fun a => O a ∨ F.B a) H (upd H D o) := ⟨fun b z => .inl z, fun c u q n => stay_upd hD hpl q fun z => n (.inr (by rw [z]; exact hB))⟩
  refine ⟨h1, fun a u e n => ?_, ⟨fun a z => ?_, h3.len, fun j p e => let ⟨x, f1, f2⟩ := h3.slot j p e; ⟨x, f1, f2.ext ex⟩, fun j b p e => ?_, h3.tabs.upd hD hpl fun q => hpo.nc⟩, h4, h5, h6, fun t ht => (h7 t ht).ext ex⟩
  · exact (h2 a u e n).trans fun v ev => stay_upd hD hpl ev fun z => by rw [z, h0] at e; cases e
  · by_cases ha : a = D
    · rw [ha, upd_same]; exact Option.some_ne_none _
    · rw [upd_ne ha]; exact h3.live a z
  · obtain ⟨x, f1, f2⟩ := h3.own j b p e
    have nx : x ≠ D := fun z => h6.1 x (h4 j b p x e f1) (by rw [z]; exact hB)
    refine ⟨x, f1, ?_⟩
    cases p with
    | list zs => obtain ⟨us, u1, u2, u3⟩ := f2; exact ⟨us, by rw [upd_ne nx]; exact u1, Reps.ext ex u2, u3⟩
    | dict tk zs =>
      rcases f2 with ⟨ht, us, u1, u2⟩ | ⟨ht, us, u1, u2⟩
      · exact .inl ⟨ht, us, by rw [upd_ne nx]; exact u1, RepK.ext ex u2⟩
      · exact .inr ⟨ht, us, by rw [upd_ne nx]; exact u1, RepT.ext ex u2⟩
    | _ => exact f2.elim
def MTsJ (G : Gm) {ι : Type} (X : ι → Cx) (W : WX) (ifs : List Expr) (p : MT) : Prop :=
  ∃ t : TT, (∀ i, PTs (X i) ifs t) ∧ ∀ F σ H env ts Q, StRep G.F F σ H env ts → MTEnd G F ts W σ Q (p env) → t σ H Q
theorem mts_nil : MTsJ G X W [] (mtP tYes) := ⟨_, fun i => pts_nil, fun F σ H env ts Q st q => q H st⟩
theorem mts_one {mc : MT} (h : MTJ G X W c mc) : MTsJ G X W [c] mc := let ⟨t, h1, h2⟩ := h; ⟨t, fun i => pts_one (h1 i), h2⟩
theorem mcomp_sim {ow ts' : List Nat} {p : LX} {g : GX} {mc : MT} {wi : TI} {gt : TG} {tt : TT} {te : TE} (hts : ∀ i ∈ ts', i ∈ ow)
    (w2 : ∀ A σ H env R, SRep G.F A σ H env → WEnd G A W σ H true R (p env) → wi σ H R)
    (g2 : ∀ A H p x l, Rep G.F A H p x → g p = some l → l.map (·.1) = ts' ∧ ∃ l', Stores G.F A H l l' ∧ ∀ σ Q, Q (setV σ l') H → gt x σ H Q)
    (t2 : ∀ F σ H env ts Q, StRep G.F F σ H env ts → MTEnd G F ts noW σ Q (mc env) → tt σ H Q)
    (e2 : ∀ F σ H env ts Q, StRep G.F F σ H env ts → MEnd G F ts noW σ Q (ma env) → te σ H Q)
    (F : Fp) (σ : St) (H : Hp) (env : Env) (ts : List (V × PV)) (Q : VK) (st : StRep G.F F σ H env ts) (q : MEnd G F ts W σ Q (mComp ow p g mc ma env)) : tLc wi gt tt te ow σ H Q := by
  have st0 := st
  obtain ⟨O, h1, h2, h3, h4, h5, h6, h7⟩ := st
  refine w2 _ σ H env _ h3 ?_
  unfold mComp at q
  cases ep : p env with
  | bad => rw [ep] at q; exact q
  | exc x =>
    rw [ep] at q
    intro d H' s ex
    refine q d H' (st0.same s) fun nz => ?_
    obtain ⟨a, m, f1, f2, f3, f4⟩ := ex nz
    exact ⟨a, m, f1, fun z => f2 (.inr z), f3, fun f p fp => let ⟨v, g1, g2⟩ := f4 f p fp; ⟨v, g1, g2.ext (.less fun a z => .inr z)⟩⟩
  | ok ps =>
    rw [ep] at q
    simp only [liftR_ok] at q
    intro J H1 Gd Y s1 wk D nD
    cases eg : compGoM ow g mc ma ps env with
    | bad => rw [eg] at q; exact q.elim
    | exc x e => rw [eg] at q; exact q.elim
    | ok ys envE =>
      rw [eg] at q
      have q' : ∀ x H', StRep G.F F σ H' envE ((x, .list ys) :: ts) → Q x H' := q
      have nB : ∀ a, (O a ∨ F.B a) → a ≠ D := fun a z e => same_live s1 h3.live a z (by rw [e]; exact nD)
      let F1 : Fp := ⟨H1, O, fun a => F.B a ∨ a = D, F.L⟩
      have exD : Ext (fun a => O a ∨ F.B a) (fun a => O a ∨ (F.B a ∨ a = D)) H1 H1 := ⟨fun a z => by
        rcases z with z | z | z
        · exact .inl (.inl z)
        · exact .inl (.inr z)
        · exact .inr (by rw [z]; exact nD), fun a o e _ => Stay.refl e⟩
      have start : StRep G.F F1 σ (upd H1 D (.lst [])) env ts := by
        have sN : Same H1 (upd H1 D (.lst [])) := same_new nD _
        refine ⟨O, fun a z => .inl z, fun a o e _ => sN _ _ e, ⟨fun a z => ?_, h3.len, fun j pj ej => ?_, fun j b pj ej => ?_, ((h3.tabs.same h3.live s1).same (same_live s1 h3.live) sN).add (pl_nc upd_same True.intro) fun a z => by rcases z with z | z | z <;> simp [z]⟩, h4, h5, ⟨fun a z w => w.elim (h6.1 a z) (nB a (.inl z)), h6.2⟩, fun t ht => (((h7 t ht).same s1).ext exD).same sN⟩
        · rcases z with z | z | z
          · exact same_live (s1.trans sN) h3.live a (.inl z)
          · exact same_live (s1.trans sN) h3.live a (.inr z)
          · rw [z, upd_same]; exact Option.some_ne_none _
        · obtain ⟨x, f1, f2⟩ := h3.slot j pj ej
          exact ⟨x, f1, ((f2.same s1).ext exD).same sN⟩
        · obtain ⟨x, f1, f2⟩ := h3.own j b pj ej
          refine ⟨x, f1, ?_⟩
          have f3 := f2.same s1
          cases pj with
          | list zs => obtain ⟨us, u1, u2, u3⟩ := f3; exact ⟨us, sN _ _ u1, (Reps.ext exD u2).same sN, u3⟩
          | dict tk zs =>
            rcases f3 with ⟨ht, us, u1, u2⟩ | ⟨ht, us, u1, u2⟩
            · exact .inl ⟨ht, us, sN _ _ u1, RepK.ext (.same sN) (RepK.ext exD u2)⟩
            · exact .inr ⟨ht, us, sN _ _ u1, RepT.ext (.same sN) (RepT.ext exD u2)⟩
          | _ => exact f3.elim
      refine lc_it wk.walk (fun i Hc => ∃ envc acc done rest, i + rest.length = ps.length ∧ ps.drop i = rest ∧ acc.length = done.length ∧ acc.length ≤ i ∧ Hc D = some (.lst acc) ∧ StRep G.F F1 σ Hc (wipes envc ow) (acc.zip done ++ ts) ∧ ∃ more, compGoM ow g mc ma rest envc = .ok more envE ∧ ys = done ++ more) ?_ ?_ ?_ ?_
      · exact ⟨env, [], [], ps, by omega, rfl, rfl, Nat.le_refl _, upd_same, start.forgets ow, ys, eg, rfl⟩
      · rintro i Hc - ⟨envc, acc, done, rest, c1, c2, c3, c4, c5, ⟨O2, b1, b2, b3, b4, b5, b6, b7⟩, more, c7, c8⟩
        exact wk.good Hc (show Keep _ H1 Hc from fun a o e n => b2 a o e fun z => n (.inl z))
      · rintro i x Hc H2 hi ⟨envc, acc, done, rest, c1, c2, c3, c4, c5, st2, more, c7, c8⟩ y
        obtain ⟨O2, st2⟩ := st2.ext
        have st2' := st2
        obtain ⟨b1, b2, b3, b4, b5, b6, b7⟩ := st2
        obtain ⟨s2, p0, e0, r0⟩ := wk.item i x Hc H2 (fun a => O2 a ∨ F1.B a) hi (show Keep _ H1 Hc from fun a o e n => b2 a o e fun z => n (.inl z)) (fun a z => by
          rcases z with z | z | z
          · exact (b1 a z).elim (fun z => .inl (.inl z)) .inr
          · exact .inl (.inr z)
          · exact .inr (by rw [z]; exact nD)) b3.live y
        have er : rest = p0 :: ps.drop (i + 1) := by
          rw [← c2, List.drop_eq_getElem?_toList_append, e0]
          rfl
        have lenrest : (ps.drop (i + 1)).length + (i + 1) = ps.length := by rw [List.length_drop]; omega
        rw [er, compGoM] at c7
        cases egp : g p0 with
        | none => rw [egp] at c7; cases c7
        | some l0 =>
          rw [egp] at c7
          simp only at c7
          obtain ⟨k1, l', sto, kk⟩ := g2 _ H2 p0 x l0 r0 egp
          have inow : ∀ z ∈ l', z.1 ∈ ow := fun z hz => hts _ (by rw [← k1, ← sto.keys]; exact List.mem_map.mpr ⟨z, hz, rfl⟩)
          refine kk (wipe σ ow) _ ⟨?_, ?_⟩
          · rw [wipe_setV inow]
            exact List.ext_getElem? fun j => wipe_wipe σ ow j
          have agree : ∀ j, j ∉ ow → (setV (wipe σ ow) l')[j]? = σ[j]? := fun j hj => by
            rw [setV_at fun q hq e => hj (by rw [← e]; exact inow q hq), wipe_at, if_neg hj]
          have st3 : StRep G.F F1 (setV (wipe σ ow) l') H2 (puts (wipes envc ow) l0) (acc.zip done ++ ts) := by
            have w : StO G.F F1 O2 (wipe σ ow) H2 (wipes envc ow) (acc.zip done ++ ts) := StO.differ (st2'.same s2) (by rw [wipe_length]) fun j hj => by rw [wipe_at, if_neg hj]
            refine StRep.puts (StO.rep (O := O2) (StO.tmp w fun t ht => ?_)) sto.keys
            rcases List.mem_append.mp ht with ht | ht
            · exact .inr (stores_tmp sto t ht)
            · exact .inl ht
          obtain ⟨O3, st3⟩ := st3.ext
          obtain ⟨st3i, back⟩ := st3.inner
          have hD2 : H2 D = some (.lst acc) := s2 _ _ c5
          have nO3 : ¬ O3 D := fun z => st3.2.2.2.2.2.1.1 D z (.inr rfl)
          refine t2 _ _ H2 _ _ _ st3i.rep ?_
          cases ec : mc (puts (wipes envc ow) l0) with
          | bad => rw [ec] at c7; cases c7
          | exc x e => rw [ec] at c7; cases c7
          | ok bb env2 =>
            rw [ec] at c7
            intro H3 st4
            cases bb with
            | false =>
              rw [if_neg Bool.false_ne_true]
              have hD3 : H3 D = some (.lst acc) := by
                obtain ⟨_, _, k2, _⟩ := st4
                exact k2 D _ hD2 nO3
              refine ⟨env2, acc, done, ps.drop (i + 1), by omega, rfl, c3, by omega, hD3, StRep.differ ((back _ _ _ _ st4).forgets ow) ?_ fun j hj => (agree j hj).symm, more, c7, c8⟩
              rw [setV_len, wipe_length]
            | true =>
              rw [if_pos rfl]
              simp only at c7
              refine e2 _ _ H3 _ _ _ st4 ?_
              cases ee : ma env2 with
              | bad => rw [ee] at c7; cases c7
              | exc x e => rw [ee] at c7; cases c7
              | ok y0 env3 =>
                rw [ee] at c7
                simp only at c7
                intro z H4 st5
                cases er2 : compGoM ow g mc ma (ps.drop (i + 1)) env3 with
                | bad => rw [er2] at c7; cases c7
                | exc x e => rw [er2] at c7; cases c7
                | ok more' env4 =>
                  rw [er2] at c7
                  cases c7
                  have hD4 : H4 D = some (.lst acc) := by
                    obtain ⟨_, _, k2, _⟩ := st5
                    exact k2 D _ hD2 nO3
                  refine ⟨acc, hD4, ?_, env3, acc ++ [z], done ++ [y0], ps.drop (i + 1), by omega, rfl, by simp [c3], by simp; omega, upd_same, ?_, more', er2, by simp [c8]⟩
                  · have := wk.size
                    rw [line_eq] at this
                    omega
                  · obtain ⟨O5, st5⟩ := ((back _ _ _ _ st5).forgets ow).ext
                    have st6 := StRep.differ (StO.rep (O := O5) (StO.updB (o := .lst (acc ++ [z])) st5 hD4 True.intro True.intro (.inr rfl) nD)) (σ' := σ) (by rw [setV_len, wipe_length]) fun j hj => (agree j hj).symm
                    refine st6.sub fun t ht => ?_
                    rw [List.zip_append c3] at ht
                    simp only [List.mem_append, List.mem_cons, List.zip_cons_cons, List.zip_nil_right, List.not_mem_nil, or_false] at ht ⊢
                    rcases ht with (h | h) | h <;> simp [h]
      · rintro Hc ⟨envc, acc, done, rest, c1, c2, c3, c4, c5, st2, more, c7, c8⟩
        have er : rest = [] := by rw [← c2]; exact List.drop_eq_nil_of_le (Nat.le_refl _)
        rw [er, compGoM] at c7
        cases c7
        rw [List.append_nil] at c8
        subst c8
        refine q' _ _ ?_
        obtain ⟨O2, b1, b2, b3, b4, b5, b6, b7⟩ := st2
        have less : ∀ {p : PV} {x : V}, Rep G.F (fun a => O2 a ∨ F1.B a) Hc p x → Rep G.F (fun a => O2 a ∨ F.B a) Hc p x := fun h => h.ext (.less fun a z => z.elim .inl fun z => .inr (.inl z))
        refine ⟨O2, fun a z => ?_, fun a o e n => ?_, ⟨fun a z => b3.live a (z.elim .inl fun z => .inr (.inl z)), b3.len, fun j p e => let ⟨x, f1, f2⟩ := b3.slot j p e; ⟨x, f1, less f2⟩, fun j b p e => ?_, b3.tabs.less fun a z => z.elim .inl fun z => .inr (.inl z)⟩, b4, b5, ⟨fun a z w => b6.1 a z (.inl w), b6.2⟩, fun t ht => ?_⟩
        · rcases b1 a z with z | z
          · exact h1 a z
          · by_cases hi : F.I a
            · exact .inl hi
            · refine .inr ?_
              cases e : F.H0 a with
              | none => rfl
              | some o =>
                exact absurd z ((h2 a o e hi).same s1).live
        · exact ((h2 a o e n).same s1).trans fun u eu => b2 a u eu fun z => (h1 a z).elim n fun z => by rw [z] at e; cases e
        · obtain ⟨x, f1, f2⟩ := b3.own j b p e
          refine ⟨x, f1, ?_⟩
          cases p with
          | list zs => obtain ⟨us, u1, u2, u3⟩ := f2; exact ⟨us, u1, Reps.ext (.less fun a z => z.elim .inl fun z => .inr (.inl z)) u2, u3⟩
          | dict tk zs =>
            rcases f2 with ⟨ht, us, u1, u2⟩ | ⟨ht, us, u1, u2⟩
            · exact .inl ⟨ht, us, u1, RepK.ext (.less fun a z => z.elim .inl fun z => .inr (.inl z)) u2⟩
            · exact .inr ⟨ht, us, u1, RepT.ext (.less fun a z => z.elim .inl fun z => .inr (.inl z)) u2⟩
          | _ => exact f2.elim
        · rcases List.mem_cons.mp ht with rfl | ht
          · show Rep G.F _ Hc (.list ys) (.ref D)
            rw [Rep]
            refine ⟨D, acc, rfl, .inl ⟨fun z => ?_, .inl c5⟩, Reps.ext (.less fun a z => z.elim .inl fun z => .inr (.inl z)) (zip_reps (ts := ts) c3 b7), ?_⟩
            · rcases z with z | z
              · exact b6.1 D z (.inr rfl)
              · exact nB D (.inr z) rfl
            · rw [← c3]; exact Nat.le_trans c4 wk.size
          · exact less (b7 t (List.mem_append_right _ ht))
theorem m_comp {scope : Scope} {own : List (Str × Nat)} {ts' : List Nat} {p : LX} {g : GX} {mc : MT} (S : Sits G X k W) (hw : WlJ G X W true tg iter p) (ok : ∀ i, BlkOk (X i).N (X i).env.scope scope own)
    (hg : GJ G (blkF X scope) tg g ts') (ht : MTsJ G (blkF X scope) noW ifs mc) (he : MJ G (blkF X scope) noW elt ma) (hts : ∀ i ∈ ts', i ∈ own.map (·.2)) (hs : ∀ i x, foldedSetIterable iter (X i).env x = pure x := by intro _ _; rfl) :
    MJ G X W (.ListComp elt [⟨tg, iter, ifs, 0⟩] scope pos) (mComp (own.map (·.2)) p g mc ma) := by
  obtain ⟨wi, w1, w2⟩ := hw
  obtain ⟨gt, g1, g2⟩ := hg
  obtain ⟨tt, t1, t2⟩ := ht
  obtain ⟨te, e1, e2⟩ := he
  refine ⟨_, fun i => pe_lc (S.calm i) (S.nd i) (w1 i) (ok i) (fun s H C cl fp => g1 (i, s, H, C, cl, fp)) (fun s H C cl fp => t1 (i, s, H, C, cl, fp)) (fun s H C cl fp => e1 (i, s, H, C, cl, fp)) (hs i), mcomp_sim hts w2 g2 t2 e2⟩
end
end Pv
end
section
set_option autoImplicit false
set_option Elab.async false
set_option linter.all false
set_option maxRecDepth 100000
namespace Pv
open PySem PySem.Spec PyProof.Rows L2
variable [TN]
section
variable {G : Gm} {ι : Type} {X : ι → Cx} {k : Nat} {W : WX} {e a b c elt : Expr} {pa pb pc : PX} {ma mb mc : MX} {pos : Pos} {es ifs : List Expr} {l : LX} {ml : ML} {tg iter : Expr} {F : Fp} {σ : St} {H H' : Hp} {env env' : Env} {ts : List (V × PV)}

/-! ### calls that lend -/
def spM (G : Gm) (n : Nat) (Fm : Env → Rs PV) : Sp := fun vs H Q _ => vs.length = n ∧ ∃ (F : Fp) (env : Env), F.H0 = H ∧ StO G.F F F.I (vs.map some) H env [] ∧ match Fm env with
  | .ok c env' => ∀ x H', StRep G.F F (vs.map some) H' env' [(x, c)] → Q x H'
  | _ => False
/-- arguments, values and lent slots -/
def ArgsRep (G : Gm) (A : Av) (σ : St) (env : Env) (H : Hp) : List Arg → Env → List V → Prop
  | [], ae, xs => ae = [] ∧ xs = []
  | .x _ :: r, ae, xs => ∃ p e x s, ae = .v p :: e ∧ xs = x :: s ∧ Rep G.F A H p x ∧ ArgsRep G A σ env H r e s
  | .io j :: r, ae, xs => ∃ b p e a s, ae = .o true p :: e ∧ xs = .ref a :: s ∧ env[j]? = some (.o b p) ∧ σ[j]? = some (some (.ref a)) ∧ ArgsRep G A σ env H r e s
theorem ArgsRep.same {A : Av} (s : Same H H') : ∀ {as : List Arg} {ae : Env} {xs : List V}, ArgsRep G A σ env H as ae xs → ArgsRep G A σ env H' as ae xs
  | [], _, _, h => h
  | .x _ :: r, _, _, ⟨p, e, x, t, e1, e2, h1, h2⟩ => ⟨p, e, x, t, e1, e2, h1.same s, h2.same s⟩
  | .io j :: r, _, _, ⟨b, p, e, a, t, e1, e2, h1, h2, h3⟩ => ⟨b, p, e, a, t, e1, e2, h1, h2, h3.same s⟩
def ArgJ (G : Gm) {ι : Type} (X : ι → Cx) (W : WX) (es : List Expr) (as : List Arg) : Prop :=
  ∃ t : TA, (∀ i, PA (X i) es t) ∧ ∀ A σ H env Q, SRep G.F A σ H env → (match argsM as env with
    | .ok ae => ∀ xs H', Same H H' → ArgsRep G A σ env H' as ae xs → Q xs H'
    | .exc x => ∀ d H', Same H H' → ExcRep G.F A H' d x.flds → W (G.cls x.cls) d σ H'
    | .bad => False) → t σ H Q
theorem ar_nil : ArgJ G X W [] [] := ⟨_, fun i => pa_nil, fun A σ H env Q S q => q [] H (Same.refl H) ⟨rfl, rfl⟩⟩
theorem ar_x {as : List Arg} (ha : XJ G X W Rep a pa) (hr : ArgJ G X W es as) (hs : ∀ i, starEach (a :: es) (X i).env = (false, eval a (X i).env) :: starEach es (X i).env := by intro _; rfl) : ArgJ G X W (a :: es) (.x pa :: as) := by
  obtain ⟨ta, h1, h2⟩ := ha
  obtain ⟨tr, h3, h4⟩ := hr
  refine ⟨_, fun i => pa_cons (h1 i) (h3 i) (hs i), fun A σ H env Q S q => h2 A σ H env _ S ?_⟩
  unfold argsM at q
  cases ea : pa env with
  | bad => rw [ea] at q; exact q.elim
  | exc x => rw [ea] at q; exact q
  | ok u =>
    rw [ea] at q
    simp only [Rp.ok_bind] at q
    intro x H1 s1 r1
    refine h4 A σ H1 env _ (S.same s1) ?_
    cases el : argsM as env with
    | bad => rw [el] at q; exact q.elim
    | exc x => rw [el] at q; exact fun d H' s => q d H' (s1.trans s)
    | ok us =>
      rw [el] at q
      simp only [Rp.ok_bind] at q
      exact fun xs H2 s2 r2 => q (x :: xs) H2 (s1.trans s2) ⟨u, us, x, xs, rfl, rfl, r1.same s2, r2⟩
theorem ar_io {as : List Arg} (j : Nat) {x : Str} {px : Pos} (hr : ArgJ G X W es as) (hN : ∀ i, (X i).N[j]? = some x := by intro _; rfl) (hv : ∀ j, Vis (X j).env.scope x := by intro _; first | exact Or.inl rfl | exact Or.inr (Or.inl rfl) | exact Or.inr (Or.inr rfl))
    (hd : (x == ("__debug__" : Str)) = false := by decide) (hcd : (x == ("__classdict__" : Str)) = false := by decide) (hs : ∀ i, starEach (.Name x px :: es) (X i).env = (false, eval (.Name x px) (X i).env) :: starEach es (X i).env := by intro _; rfl) : ArgJ G X W (.Name x px :: es) (.io j :: as) := by
  obtain ⟨tr, h3, h4⟩ := hr
  refine ⟨_, fun i => pa_cons (pe_var (hN i) (hv i) hd hcd) (h3 i) (hs i), fun A σ H env Q S q => ?_⟩
  unfold argsM at q
  split at q
  · rename_i ae heq
    split at heq
    · rename_i b p e0
      obtain ⟨y, f1, f2⟩ := S.own j b p e0
      refine ⟨.ref y, f1, h4 A σ H env _ S ?_⟩
      cases el : argsM as env with
      | bad => rw [el] at heq; cases heq
      | exc x => rw [el] at heq; cases heq
      | ok us =>
        rw [el] at heq
        simp only [Rp.ok_bind] at heq
        cases heq
        exact fun xs H2 s2 r2 => q _ H2 s2 ⟨b, p, us, y, xs, rfl, rfl, e0, f1, r2⟩
    · cases heq
  · rename_i x0 heq
    split at heq
    · rename_i b p e0
      obtain ⟨y, f1, f2⟩ := S.own j b p e0
      refine ⟨.ref y, f1, h4 A σ H env _ S ?_⟩
      cases el : argsM as env with
      | bad => rw [el] at heq; cases heq
      | exc x => rw [el] at heq; cases heq; exact q
      | ok us => rw [el] at heq; cases heq
    · cases heq
  · exact q.elim
/-- what is lent -/
def lentSet : Env → List V → Av
  | .o _ _ :: e, .ref a :: s => fun b => b = a ∨ lentSet e s b
  | _ :: e, _ :: s => lentSet e s
  | _, _ => fun _ => False
theorem lent_at : ∀ {ae : Env} {xs : List V} {i : Nat} {b : Bool} {p : PV} {a : Addr}, ae[i]? = some (.o b p) → xs[i]? = some (.ref a) → lentSet ae xs a
  | [], _, _, _, _, _, h, _ => by simp at h
  | _ :: _, [], _, _, _, _, _, h => by simp at h
  | s :: ae, x :: xs, 0, b, p, a, h, g => by
    simp at h g
    subst h g
    exact .inl rfl
  | s :: ae, x :: xs, i + 1, b, p, a, h, g => by
    have ih := lent_at (ae := ae) (xs := xs) (i := i) (by simpa using h) (by simpa using g)
    cases s with
    | no => exact ih
    | v _ => exact ih
    | o _ _ =>
      cases x <;> first | exact ih | exact .inr ih
theorem of_lent : ∀ {ae : Env} {xs : List V} {a : Addr}, lentSet ae xs a → ∃ (i : Nat) (b : Bool) (p : PV), ae[i]? = some (.o b p) ∧ xs[i]? = some (.ref a)
  | [], _, _, h => by cases h
  | _ :: _, [], _, h => by
    rename_i s _ _
    cases s <;> exact h.elim
  | s :: ae, x :: xs, a, h => by
    have up : lentSet ae xs a → ∃ (i : Nat) (b : Bool) (p : PV), (s :: ae)[i]? = some (.o b p) ∧ (x :: xs)[i]? = some (.ref a) := fun h => by
      obtain ⟨i, b, p, h1, h2⟩ := of_lent h
      exact ⟨i + 1, b, p, by simpa using h1, by simpa using h2⟩
    cases s with
    | no => exact up h
    | v _ => exact up h
    | o b p =>
      cases x with
      | ref c =>
        rcases h with h | h
        · subst h; exact ⟨0, b, p, rfl, rfl⟩
        · exact up h
      | _ => exact up h
theorem ArgsRep.len {A : Av} : ∀ {as : List Arg} {ae : Env} {xs : List V}, ArgsRep G A σ env H as ae xs → ae.length = as.length ∧ xs.length = as.length
  | [], _, _, h => by rw [h.1, h.2]; exact ⟨rfl, rfl⟩
  | .x _ :: r, _, _, ⟨p, e, x, t, e1, e2, h1, h2⟩ => by rw [e1, e2]; have := h2.len; simp [this]
  | .io j :: r, _, _, ⟨b, p, e, a, t, e1, e2, h1, h2, h3⟩ => by rw [e1, e2]; have := h3.len; simp [this]
theorem ArgsRep.kind {A : Av} : ∀ {as : List Arg} {ae : Env} {xs : List V}, ArgsRep G A σ env H as ae xs → ∀ i : Nat, (∃ j, as[i]? = some (.io j)) ↔ ∃ p, ae[i]? = some (.o true p)
  | [], _, _, h, i => by rw [h.1]; simp
  | .x _ :: r, _, _, ⟨p, e, x, t, e1, e2, h1, h2⟩, i => by
    rw [e1]
    cases i with
    | zero => simp
    | succ i => simpa using h2.kind i
  | .io j :: r, _, _, ⟨b, p, e, a, t, e1, e2, h1, h2, h3⟩, i => by
    rw [e1]
    cases i with
    | zero => simp
    | succ i => simpa using h3.kind i
/-- the slots that are lent -/
def ioOf : List Arg → List Nat
  | [] => []
  | .x _ :: r => ioOf r
  | .io j :: r => j :: ioOf r
theorem ArgsRep.at {A : Av} : ∀ {as : List Arg} {ae : Env} {xs : List V} {i : Nat}, ArgsRep G A σ env H as ae xs → i < as.length →
    (∃ p x, ae[i]? = some (.v p) ∧ xs[i]? = some x ∧ Rep G.F A H p x) ∨ (∃ (j : Nat) (b : Bool) (p : PV) (a : Addr), as[i]? = some (.io j) ∧ ae[i]? = some (.o true p) ∧ xs[i]? = some (.ref a) ∧ env[j]? = some (.o b p) ∧ σ[j]? = some (some (.ref a)))
  | [], _, _, _, _, h => by simp at h
  | .x _ :: r, _, _, 0, ⟨p, e, x, t, e1, e2, h1, h2⟩, _ => by rw [e1, e2]; exact .inl ⟨p, x, rfl, rfl, h1⟩
  | .io j :: r, _, _, 0, ⟨b, p, e, a, t, e1, e2, h1, h2, h3⟩, _ => by rw [e1, e2]; exact .inr ⟨j, b, p, a, rfl, rfl, rfl, h1, h2⟩
  | .x _ :: r, _, _, i + 1, ⟨p, e, x, t, e1, e2, h1, h2⟩, hi => by
    rw [e1, e2]
    have ih := ArgsRep.at (i := i) h2 (by simpa using hi)
    simpa using ih
  | .io j :: r, _, _, i + 1, ⟨b, p, e, a, t, e1, e2, h1, h2, h3⟩, hi => by
    rw [e1, e2]
    have ih := ArgsRep.at (i := i) h3 (by simpa using hi)
    simpa using ih
theorem io_mem : ∀ {as : List Arg} {i j : Nat}, as[i]? = some (.io j) → j ∈ ioOf as
  | [], _, _, h => by simp at h
  | .x _ :: r, 0, _, h => by simp at h
  | .io j' :: r, 0, j, h => by simp at h; subst h; exact List.mem_cons_self
  | .x _ :: r, i + 1, j, h => io_mem (as := r) (i := i) (by simpa using h)
  | .io j' :: r, i + 1, j, h => List.mem_cons_of_mem _ (io_mem (as := r) (i := i) (by simpa using h))
theorem io_uniq : ∀ {as : List Arg} {i i' j : Nat}, (ioOf as).Nodup → as[i]? = some (.io j) → as[i']? = some (.io j) → i = i'
  | [], _, _, _, _, h, _ => by simp at h
  | .x _ :: r, 0, _, _, _, h, _ => by simp at h
  | .x _ :: r, _ + 1, 0, _, _, _, h => by simp at h
  | .x _ :: r, i + 1, i' + 1, j, n, h, g => by rw [io_uniq (as := r) (i := i) (i' := i') (j := j) n (by simpa using h) (by simpa using g)]
  | .io _ :: r, 0, 0, _, _, _, _ => rfl
  | .io j' :: r, 0, i' + 1, j, n, h, g => by
    simp at h
    subst h
    exact absurd (io_mem (as := r) (i := i') (by simpa using g)) (List.nodup_cons.mp n).1
  | .io j' :: r, i + 1, 0, j, n, h, g => by
    simp at g
    subst g
    exact absurd (io_mem (as := r) (i := i) (by simpa using h)) (List.nodup_cons.mp n).1
  | .io j' :: r, i + 1, i' + 1, j, n, h, g => by rw [io_uniq (as := r) (i := i) (i' := i') (j := j) (List.nodup_cons.mp n).2 (by simpa using h) (by simpa using g)]
theorem io_at : ∀ {as : List Arg} {j : Nat}, j ∈ ioOf as → ∃ i : Nat, as[i]? = some (.io j)
  | [], _, h => by cases h
  | .x _ :: r, j, h => by
    obtain ⟨i, hi⟩ := io_at (as := r) h
    exact ⟨i + 1, by simpa using hi⟩
  | .io j' :: r, j, h => by
    rcases List.mem_cons.mp h with rfl | h
    · exact ⟨0, rfl⟩
    · obtain ⟨i, hi⟩ := io_at h
      exact ⟨i + 1, by simpa using hi⟩
/-- what the slots hold behind the call -/
theorem outs_at : ∀ {as : List Arg} {ae env env' : Env}, outsM as ae env = some env' → (ioOf as).Nodup → env'.length = env.length ∧ ae.length = as.length ∧
    (∀ (j : Nat), j ∉ ioOf as → env'[j]? = env[j]?) ∧ ∀ (i j : Nat), as[i]? = some (.io j) → ∃ (c : Bool) (q : PV) (b : Bool) (p : PV), ae[i]? = some (.o c q) ∧ env[j]? = some (.o b p) ∧ env'[j]? = some (.o b q)
  | [], [], env, env', h, _ => by cases h; exact ⟨rfl, rfl, fun _ _ => rfl, fun i j h => by simp at h⟩
  | [], _ :: _, _, _, h, _ => by cases h
  | .x _ :: r, [], _, _, h, _ => by cases h
  | .io _ :: r, [], _, _, h, _ => by cases h
  | .x _ :: r, s :: e, env, env', h, n => by
    have ih := outs_at (as := r) (ae := e) (env := env) (env' := env') h n
    refine ⟨ih.1, by simp [ih.2.1], ih.2.2.1, fun i j g => ?_⟩
    cases i with
    | zero => simp at g
    | succ i => simpa using ih.2.2.2 i j (by simpa using g)
  | .io j0 :: r, .no :: e, env, env', h, n => by cases h
  | .io j0 :: r, .v _ :: e, env, env', h, n => by cases h
  | .io j0 :: r, .o c q :: e, env, env', h, n => by
    unfold outsM at h
    split at h
    · rename_i b p0 e0
      have nn := List.nodup_cons.mp n
      have ih := outs_at (as := r) (ae := e) (env := env.set j0 (.o b q)) (env' := env') h nn.2
      have hj0 : j0 < env.length := (List.getElem?_eq_some_iff.mp e0).1
      refine ⟨by rw [ih.1, List.length_set], by simp [ih.2.1], fun j hj => ?_, fun i j g => ?_⟩
      · have h1 : j ≠ j0 := fun z => hj (by rw [z]; exact List.mem_cons_self)
        have h2 : j ∉ ioOf r := fun z => hj (List.mem_cons_of_mem _ z)
        rw [ih.2.2.1 j h2, List.getElem?_set_ne (Ne.symm h1)]
      · cases i with
        | zero =>
          simp at g
          subst g
          refine ⟨c, q, b, p0, rfl, e0, ?_⟩
          rw [ih.2.2.1 j0 nn.1, List.getElem?_set_self hj0]
        | succ i =>
          have g' : r[i]? = some (.io j) := by simpa using g
          obtain ⟨c', q', b', p', f1, f2, f3⟩ := ih.2.2.2 i j g'
          have hne : j0 ≠ j := fun z => nn.1 (by rw [z]; exact io_mem g')
          rw [List.getElem?_set_ne hne] at f2
          exact ⟨c', q', b', p', by simpa using f1, f2, f3⟩
    · cases h
theorem m_callIO {x : Str} {p : Pos} {ps : List Str} {n : Nat} {Fm : Env → Rs PV} {as : List Arg} (S : Sits G X k W) (hf : FnHas G k x ps (spM G n Fm)) (ha : ArgJ G X W (e :: es) as) (hn : as.length = n) (hnd : (ioOf as).Nodup) (hg : ∀ i, Gl (X i) x := by intro _; rfl)
    (hdb : (x == ("__debug__" : Str)) = false := by decide) (he : ∀ i, starEach (e :: es) (X i).env = (false, eval e (X i).env) :: starEach es (X i).env := by intro _; rfl) (hpl : ∀ i, (backTo pos (starEach es (X i).env)).any (·.1) = false := by intro _; rfl) :
    MJ G X W (.Call (.Name x p) (e :: es) [] pos) (mCallIO Fm as) := by
  obtain ⟨f, fd, hf⟩ := hf
  obtain ⟨t, h1, h2⟩ := ha
  refine ⟨tCallS (spM G n Fm) (WE W) t, fun i => ?_, fun F σ H env ts Q st q => ?_⟩
  · refine pe_callS (CX := L2.CX (X i).prog (X i).w) (k := k) (f := f) (fd := fd) (ps := ps) ?_ (S.room i) (hg i) (by rw [S.mg i]; exact hf.mg) (by rw [S.K i]; exact hf.kp) (by rw [S.K i]; exact hf.bd) (fun σ => passAt (S.takes i) σ) (h1 i) hdb (he i) (hpl i)
    rw [S.P i, S.w i, S.K i, S.mg i, S.base i]
    exact hf.ok
  obtain ⟨O, st⟩ := st.ext
  refine h2 _ σ H env _ st.2.2.1 ?_
  unfold mCallIO at q
  cases ea : argsM as env with
  | bad => rw [ea] at q; exact q.elim
  | exc x =>
    rw [ea] at q
    intro d H' s ex
    refine q d H' (StO.rep (O := O) (st.same s)) fun nz => ?_
    obtain ⟨a, m, f1, f2, f3, f4⟩ := ex nz
    exact ⟨a, m, f1, fun z => f2 (.inr z), f3, fun f p fp => let ⟨v, g1, g2⟩ := f4 f p fp; ⟨v, g1, g2.ext (.less fun a z => .inr z)⟩⟩
  | ok ae =>
    rw [ea] at q
    simp only [liftR_ok] at q
    intro xs H1 s1 ar
    have st1 := st.same s1
    have lens := ar.len
    obtain ⟨c1, c2, c3, c4, c5, c6, c7⟩ := id st1
    have lentO : ∀ a, lentSet ae xs a → O a := fun a z => by
      obtain ⟨i, b, p, f1, f2⟩ := of_lent z
      have hi : i < as.length := by rw [← lens.1]; exact (List.getElem?_eq_some_iff.mp f1).1
      rcases ar.at hi with ⟨p', x', g1, g2, _⟩ | ⟨j, b', p', a', g0, g1, g2, g3, g4⟩
      · rw [g1] at f1; cases f1
      · rw [g2] at f2; cases f2
        exact c4 j b' p' a g3 g4
    have WW : ∀ a, (lentSet ae xs a ∨ ((O a ∨ F.B a) ∧ ¬ lentSet ae xs a)) → (O a ∨ F.B a) := fun a z => z.elim (fun z => .inl (lentO a z)) fun z => z.1
    have exA : Ext (fun a => O a ∨ F.B a) (fun a => lentSet ae xs a ∨ ((O a ∨ F.B a) ∧ ¬ lentSet ae xs a)) H1 H1 := .less WW
    refine ⟨by rw [lens.2, hn], ⟨H1, lentSet ae xs, fun a => (O a ∨ F.B a) ∧ ¬ lentSet ae xs a, fun i => match xs[i]? with | some (.ref a) => some a | _ => none⟩, ae, rfl, ⟨fun a z => .inl z, fun a o e _ => Stay.refl e, ⟨fun a z => c3.live a (WW a z), by rw [List.length_map, lens.1, lens.2], fun i p e => ?_, fun i b p e => ?_, c3.tabs.less WW⟩, fun i b p a e1 e2 => ?_, fun i i' b b' p p' a e1 e2 e3 e4 => ?_, ⟨fun a z w => w.2 z, fun i p e => ?_⟩, fun t ht => by cases ht⟩, ?_⟩
    · have hi : i < as.length := by rw [← lens.1]; exact (List.getElem?_eq_some_iff.mp e).1
      rcases ar.at hi with ⟨p', x', g1, g2, g3⟩ | ⟨j, b', p', a', g0, g1, g2, g3, g4⟩
      · rw [g1] at e; cases e
        exact ⟨x', by rw [List.getElem?_map, g2]; rfl, g3.ext exA⟩
      · rw [g1] at e; cases e
    · have hi : i < as.length := by rw [← lens.1]; exact (List.getElem?_eq_some_iff.mp e).1
      rcases ar.at hi with ⟨p', x', g1, g2, g3⟩ | ⟨j, b', p', a', g0, g1, g2, g3, g4⟩
      · rw [g1] at e; cases e
      · rw [g1] at e; cases e
        refine ⟨a', by rw [List.getElem?_map, g2]; rfl, ?_⟩
        obtain ⟨y, f1, f2⟩ := c3.own j b' _ g3
        rw [g4] at f1; cases f1
        cases p with
        | list zs => obtain ⟨us, u1, u2, u3⟩ := f2; exact ⟨us, u1, Reps.ext exA u2, u3⟩
        | dict tk zs =>
          rcases f2 with ⟨ht, us, u1, u2⟩ | ⟨ht, us, u1, u2⟩
          · exact .inl ⟨ht, us, u1, RepK.ext exA u2⟩
          · exact .inr ⟨ht, us, u1, RepT.ext exA u2⟩
        | _ => exact f2.elim
    · rw [List.getElem?_map] at e2
      cases ex : xs[i]? with
      | none => rw [ex] at e2; cases e2
      | some y => rw [ex] at e2; cases e2; exact lent_at e1 ex
    · have get : ∀ {i : Nat} {b : Bool} {p : PV}, ae[i]? = some (.o b p) → (xs.map some)[i]? = some (some (.ref a)) → ∃ (j : Nat) (b0 : Bool) (p0 : PV), as[i]? = some (.io j) ∧ env[j]? = some (.o b0 p0) ∧ σ[j]? = some (some (.ref a)) := fun {i b p} e z => by
        have hi : i < as.length := by rw [← lens.1]; exact (List.getElem?_eq_some_iff.mp e).1
        rcases ar.at hi with ⟨p', x', g1, g2, g3⟩ | ⟨j, b', p', a', g0, g1, g2, g3, g4⟩
        · rw [g1] at e; cases e
        · rw [List.getElem?_map, g2] at z; cases z
          exact ⟨j, b', p', g0, g3, g4⟩
      obtain ⟨j, b0, p0, f1, f2, f3⟩ := get e1 e3
      obtain ⟨j', b0', p0', f1', f2', f3'⟩ := get e2 e4
      have ej := c5 j j' b0 b0' p0 p0' a f2 f2' f3 f3'
      subst ej
      exact io_uniq hnd f1 f1'
    · have hi : i < as.length := by rw [← lens.1]; exact (List.getElem?_eq_some_iff.mp e).1
      rcases ar.at hi with ⟨p', x', g1, g2, g3⟩ | ⟨j, b', p', a', g0, g1, g2, g3, g4⟩
      · rw [g1] at e; cases e
      · exact ⟨a', by simp only [g2], by rw [List.getElem?_map, g2]; rfl⟩
    · cases ef : Fm ae with
      | bad => rw [ef] at q; exact q
      | exc x e => rw [ef] at q; exact q.elim
      | ok cv ae' =>
        rw [ef] at q
        simp only at q
        cases eo : outsM as ae' env with
        | none => rw [eo] at q; exact q.elim
        | some env' =>
          rw [eo] at q
          intro y H2 ⟨O2, d1, d2, d3, d4, d5, d6, d7⟩
          obtain ⟨o1, o2, o3, o4⟩ := outs_at eo hnd
          refine q y H2 ?_
          -- every lent address is still the frame's
          have lent2 : ∀ a, lentSet ae xs a → O2 a := fun a z => by
            obtain ⟨i, b, p, f1, f2⟩ := of_lent z
            have hi : i < as.length := by rw [← lens.1]; exact (List.getElem?_eq_some_iff.mp f1).1
            rcases ar.at hi with ⟨p', x', g1, g2, _⟩ | ⟨j, b', p', a', g0, g1, g2, g3, g4⟩
            · rw [g1] at f1; cases f1
            · rw [g2] at f2; cases f2
              obtain ⟨c', q', b'', p'', k1, k2, k3⟩ := o4 i j g0
              exact d4 i c' q' a k1 (by rw [List.getElem?_map, g2]; rfl)
          have cov : ∀ a, (O a ∨ F.B a) → (O2 a ∨ ((O a ∨ F.B a) ∧ ¬ lentSet ae xs a)) := fun a z => by
            by_cases hl : lentSet ae xs a
            · exact .inl (lent2 a hl)
            · exact .inr ⟨z, hl⟩
          have less : Ext (fun a => O2 a ∨ ((O a ∨ F.B a) ∧ ¬ lentSet ae xs a)) (fun a => O a ∨ F.B a) H2 H2 := .less cov
          have kp : Ext (fun a => O a ∨ F.B a) (fun a => O a ∨ F.B a) H1 H2 := ⟨fun a z => .inl z, fun a o e n => d2 a o e fun z => n (.inl (lentO a z))⟩
          have was : ∀ (j : Nat) (b : Bool) (p : PV), env'[j]? = some (.o b p) → ∃ p0, env[j]? = some (.o b p0) := fun j b p e => by
            by_cases hj : j ∈ ioOf as
            · obtain ⟨i, hi⟩ := io_at hj
              obtain ⟨c', q', b'', p'', k1, k2, k3⟩ := o4 i j hi
              rw [k3] at e; cases e
              exact ⟨p'', k2⟩
            · rw [o3 j hj] at e; exact ⟨p, e⟩
          refine ⟨O, st.1, fun a o e n => (c2 a o e n).trans fun u eu => d2 a u eu fun z => ?_, ⟨fun a z => ?_, by rw [o1]; exact c3.len, fun j p e => ?_, fun j b p e => ?_, d3.tabs.less cov⟩, fun j b p a e1 e2 => ?_, fun j j' b b' p p' a e1 e2 e3 e4 => ?_, ⟨c6.1, fun j p e => ?_⟩, fun t ht => ?_⟩
          · rcases c1 a (lentO a z) with w | w
            · exact n w
            · rw [w] at e; cases e
          · exact d3.live a (cov a z)
          · by_cases hj : j ∈ ioOf as
            · obtain ⟨i, hi⟩ := io_at hj
              obtain ⟨c', q', b'', p'', k1, k2, k3⟩ := o4 i j hi
              rw [k3] at e; cases e
            · rw [o3 j hj] at e
              obtain ⟨x, f1, f2⟩ := c3.slot j p e
              exact ⟨x, f1, f2.ext kp⟩
          · by_cases hj : j ∈ ioOf as
            · obtain ⟨i, hi⟩ := io_at hj
              obtain ⟨c', q', b'', p'', k1, k2, k3⟩ := o4 i j hi
              rw [k3] at e; cases e
              have hil : i < as.length := (List.getElem?_eq_some_iff.mp hi).1
              rcases ar.at hil with ⟨p', x', g1, g2, g3⟩ | ⟨j2, b', p', a', g0, g1, g2, g3, g4⟩
              · have := (ArgsRep.kind ar i).mp ⟨_, hi⟩
                obtain ⟨p2, e2⟩ := this
                rw [g1] at e2; cases e2
              · rw [hi] at g0; cases g0
                obtain ⟨y, f1, f2⟩ := d3.own i c' _ k1
                rw [List.getElem?_map, g2] at f1; cases f1
                refine ⟨_, g4, ?_⟩
                cases p with
                | list zs => obtain ⟨us, u1, u2, u3⟩ := f2; exact ⟨us, u1, Reps.ext less u2, u3⟩
                | dict tk zs =>
                  rcases f2 with ⟨ht, us, u1, u2⟩ | ⟨ht, us, u1, u2⟩
                  · exact .inl ⟨ht, us, u1, RepK.ext less u2⟩
                  · exact .inr ⟨ht, us, u1, RepT.ext less u2⟩
                | _ => exact f2.elim
            · rw [o3 j hj] at e
              obtain ⟨x, f1, f2⟩ := c3.own j b p e
              have nl : ¬ lentSet ae xs x := fun z => by
                obtain ⟨i, b', p', g1, g2⟩ := of_lent z
                have hil : i < as.length := by rw [← lens.1]; exact (List.getElem?_eq_some_iff.mp g1).1
                rcases ar.at hil with ⟨p', x', k1, k2, k3⟩ | ⟨j2, b', p', a', k0, k1, k2, k3, k4⟩
                · rw [k1] at g1; cases g1
                · rw [k2] at g2; cases g2
                  have := c5 j j2 _ _ _ _ x e k3 f1 k4
                  rw [this] at hj
                  exact hj (io_mem k0)
              refine ⟨x, f1, ?_⟩
              cases p with
              | list zs => obtain ⟨us, u1, u2, u3⟩ := f2; exact ⟨us, d2 _ _ u1 nl, Reps.ext kp u2, u3⟩
              | dict tk zs =>
                rcases f2 with ⟨ht, us, u1, u2⟩ | ⟨ht, us, u1, u2⟩
                · exact .inl ⟨ht, us, d2 _ _ u1 nl, RepK.ext kp u2⟩
                · exact .inr ⟨ht, us, d2 _ _ u1 nl, RepT.ext kp u2⟩
              | _ => exact f2.elim
          · obtain ⟨p0, e0⟩ := was j b p e1
            exact c4 j b p0 a e0 e2
          · obtain ⟨p0, e0⟩ := was j b p e1
            obtain ⟨p0', e0'⟩ := was j' b' p' e2
            exact c5 j j' b b' p0 p0' a e0 e0' e3 e4
          · obtain ⟨p0, e0⟩ := was j true p e
            exact c6.2 j p0 e0
          · rcases List.mem_cons.mp ht with rfl | ht
            · exact (d7 _ List.mem_cons_self).ext less
            · exact (c7 t ht).ext kp

theorem reps_set {K : Fr} {A : Av} {H : Hp} {p : PV} {x : V} : ∀ {ps : List PV} {xs : List V}, Reps K A H ps xs → Rep K A H p x → ∀ j, Reps K A H (ps.set j p) (xs.set j x)
  | [], _, r, _, _ => by rw [Reps] at r; subst r; exact .nil
  | q :: ps, xs, r, h, j => by
    rw [Reps] at r
    obtain ⟨y, s, rfl, r1, r2⟩ := r
    cases j with
    | zero => exact .cons h r2
    | succ j => exact .cons r1 (reps_set r2 h j)
/-! ### a function that changes what it is lent, by its body -/
theorem outs_eq : ∀ {env env1 eo : Env}, outs env env1 = some eo → eo.length = env.length ∧ ∀ i : Nat, (∀ p, eo[i]? = some (.v p) → env[i]? = some (.v p)) ∧ ∀ (b : Bool) (p : PV), eo[i]? = some (.o b p) → b = true ∧ env1[i]? = some (.o true p) ∧ ∃ q, env[i]? = some (.o true q)
  | [], _, eo, h => by cases h; exact ⟨rfl, fun i => ⟨fun p h => by simp at h, fun b p h => by simp at h⟩⟩
  | .no :: r, _, _, h => by cases h
  | .v p :: r, [], _, h => by cases h
  | .o false p :: r, _, _, h => by cases h
  | .o true p :: r, [], _, h => by cases h
  | .o true p :: r, .no :: e, _, h => by cases h
  | .o true p :: r, .v _ :: e, _, h => by cases h
  | .o true p :: r, .o false _ :: e, _, h => by cases h
  | .v p :: r, s :: e, eo, h => by
    unfold outs at h
    cases h2 : outs r e with
    | none => rw [h2] at h; cases h
    | some eo' =>
      rw [h2] at h; cases h
      have ih := outs_eq h2
      refine ⟨by simp [ih.1], fun i => ?_⟩
      cases i with
      | zero => exact ⟨fun q h => by simpa using h, fun b q h => by simp at h⟩
      | succ i => simpa using ih.2 i
  | .o true p :: r, .o true q :: e, eo, h => by
    unfold outs at h
    cases h2 : outs r e with
    | none => rw [h2] at h; cases h
    | some eo' =>
      rw [h2] at h; cases h
      have ih := outs_eq h2
      refine ⟨by simp [ih.1], fun i => ?_⟩
      cases i with
      | zero => exact ⟨fun p h => by simp at h, fun b' p' h => by simp at h; obtain ⟨rfl, rfl⟩ := h; exact ⟨rfl, rfl, p, rfl⟩⟩
      | succ i => simpa using ih.2 i
theorem app_at {α : Type} {xs ys : List α} {i : Nat} {x : α} (h : xs[i]? = some x) : (xs ++ ys)[i]? = some x := by
  have hi := (List.getElem?_eq_some_iff.mp h).1
  rw [List.getElem?_append_left hi]; exact h
theorem of_app {xs : Env} {n i : Nat} {s : Sl} (h : (xs ++ List.replicate n .no)[i]? = some s) (hs : s ≠ .no) : xs[i]? = some s := by
  by_cases hi : i < xs.length
  · rw [List.getElem?_append_left hi] at h; exact h
  · rw [List.getElem?_append_right (Nat.le_of_not_lt hi), List.getElem?_replicate] at h
    split at h
    · cases h; exact absurd rfl hs
    · cases h
theorem fn_io {x qual : Str} {st : Stmt} {f : Addr} {fd : FuncData} {N ps : List Str} {n nn : Nat} {m : SM} (Fu : Fun G.K x qual st f fd) (Sc : FnScope N ps (defScope st)) (hps : ps.length = n) (hN : N.length = nn)
    (hb : ∀ (cdv : Value) (A : Around) (outer : List PySem.Env) (s : Shared) (H : Hp) (E : XK), Sits G (bodyX G N qual (defScope st) f cdv A outer s H E) k (bodyW E) → SS G (bodyX G N qual (defScope st) f cdv A outer s H E) (bodyW E) (defBody st) m) :
    FnOk G.P G.w G.K G.mg G.base (L2.CX G.P G.w) (k + 1) f fd ps (spM G n (runIO nn m)) := by
  refine Fu.okX Sc (fun vs H Q E h => by rw [h.1, hps]) (fun cdv A outer s H vs Q E hr h => ?_)
  obtain ⟨hl, F, env, hH0, st0, q⟩ := h
  obtain ⟨t, h1, h2⟩ := hb cdv A outer s H E (sits_body hr Sc.nd)
  subst hH0
  obtain ⟨c1, c2, c3, c4, c5, c6, c7⟩ := id st0
  have elen : env.length = vs.length := by have := c3.len; simp at this; exact this.symm
  have hpl : ps.length ≤ N.length := by have := congrArg List.length Sc.pre; rw [List.length_take] at this; omega
  have noO : ∀ {b : Bool} {p : PV}, (Sl.o b p) ≠ .no := fun z => by cases z
  have stB : StRep G.F F (L2.start N vs) F.H0 (env ++ List.replicate (nn - env.length) .no) [] := by
    refine ⟨F.I, c1, c2, ⟨c3.live, ?_, fun i p e => ?_, fun i b p e => ?_, c3.tabs⟩, fun i b p a e z => ?_, fun i j b b' p p' a e e' z z' => ?_, ⟨c6.1, fun i p e => ?_⟩, fun t ht => by cases ht⟩
    · unfold L2.start
      simp
      omega
    · obtain ⟨y, f1, f2⟩ := c3.slot i p (of_app e fun z => by cases z)
      exact ⟨y, by unfold L2.start; exact app_at f1, f2⟩
    · obtain ⟨y, f1, f2⟩ := c3.own i b p (of_app e noO)
      exact ⟨y, by unfold L2.start; exact app_at f1, f2⟩
    · obtain ⟨y, f1, f2⟩ := c3.own i b p (of_app e noO)
      have : (L2.start N vs)[i]? = some (some (.ref y)) := by unfold L2.start; exact app_at f1
      rw [this] at z; cases z
      exact c4 i b p _ (of_app e noO) f1
    · obtain ⟨y, f1, _⟩ := c3.own i b p (of_app e noO)
      obtain ⟨y', f1', _⟩ := c3.own j b' p' (of_app e' noO)
      have k1 : (L2.start N vs)[i]? = some (some (.ref y)) := by unfold L2.start; exact app_at f1
      have k2 : (L2.start N vs)[j]? = some (some (.ref y')) := by unfold L2.start; exact app_at f1'
      rw [k1] at z; cases z
      rw [k2] at z'; cases z'
      exact c5 i j b b' p p' _ (of_app e noO) (of_app e' noO) f1 f1'
    · obtain ⟨a, f1, f2⟩ := c6.2 i p (of_app e noO)
      exact ⟨a, f1, by unfold L2.start; exact app_at f2⟩
  refine ⟨t, h1 (), h2 F _ F.H0 _ [] _ stB ?_⟩
  unfold runIO at q
  have fin : ∀ {p : PV} {env1 eo : Env}, outs env env1 = some eo → (∀ x H', StRep G.F F (vs.map some) H' eo [(x, p)] → Q x H') → ∀ x σ' H', StRep G.F F σ' H' env1 [(x, p)] → Q x H' := fun {p env1 eo} ho hq x σ' H' ⟨O, d1, d2, d3, d4, d5, d6, d7⟩ => by
    obtain ⟨o1, o2⟩ := outs_eq ho
    have kp : Ext (fun a => F.I a ∨ F.B a) (fun a => O a ∨ F.B a) F.H0 H' := ⟨fun a z => by
      rcases z with z | z
      · exact (d1 a z).elim (fun z => .inl (.inl z)) .inr
      · exact .inl (.inr z), fun a o e n => d2 a o e fun z => n (.inl z)⟩
    have same : ∀ (i : Nat) (b : Bool) (p : PV), eo[i]? = some (.o b p) → (vs.map some)[i]? = σ'[i]? ∧ env1[i]? = some (.o true p) := fun i b p e => by
      obtain ⟨_, e1, q', e2⟩ := (o2 i).2 b p e
      obtain ⟨a, f1, f2⟩ := d6.2 i p e1
      obtain ⟨a', f5, f6⟩ := c6.2 i q' e2
      rw [f1] at f5; cases f5
      exact ⟨by rw [f6, f2], e1⟩
    refine hq x H' ⟨O, d1, d2, ⟨d3.live, by rw [o1, elen, List.length_map], fun i p e => ?_, fun i b p e => ?_, d3.tabs⟩, fun i b p a e z => ?_, fun i j b b' p p' a e e' z z' => ?_, ⟨d6.1, fun i p e => ?_⟩, d7⟩
    · obtain ⟨y, f1, f2⟩ := c3.slot i p ((o2 i).1 p e)
      exact ⟨y, f1, f2.ext kp⟩
    · obtain ⟨s1, s2⟩ := same i b p e
      rw [s1]
      exact d3.own i true p s2
    · obtain ⟨s1, s2⟩ := same i b p e
      rw [s1] at z
      exact d4 i true p a s2 z
    · obtain ⟨s1, s2⟩ := same i b p e
      obtain ⟨s3, s4⟩ := same j b' p' e'
      rw [s1] at z
      rw [s3] at z'
      exact d5 i j true true p p' a s2 s4 z z'
    · obtain ⟨s1, s2⟩ := same i true p e
      rw [s1]
      exact d6.2 i p s2
  cases em : m (env ++ List.replicate (nn - env.length) .no) with
  | bad => rw [em] at q; exact q.elim
  | exc e env' => rw [em] at q; exact q.elim
  | ok fl env1 =>
    rw [em] at q
    cases fl with
    | next =>
      simp only at q
      cases ho : outs env env1 with
      | none => rw [ho] at q; exact q.elim
      | some eo =>
        rw [ho] at q
        intro σ' H' st'
        refine fin ho q .non σ' H' ?_
        obtain ⟨O, st'⟩ := st'.ext
        exact StO.rep (O := O) (StO.tmp st' fun t ht => by
          rcases List.mem_cons.mp ht with rfl | ht
          · exact .inr (by rw [Rep])
          · cases ht)
    | ret p =>
      simp only at q
      cases ho : outs env env1 with
      | none => rw [ho] at q; exact q.elim
      | some eo => rw [ho] at q; exact fin ho q
    | brk => exact q.elim
    | cnt => exact q.elim
end
end Pv
end
section
set_option autoImplicit false
set_option Elab.async false
set_option linter.all false
set_option maxRecDepth 100000
namespace Pv
open PySem PySem.Spec PyProof.Rows L2
variable [TN]
section
variable {G : Gm} {ι : Type} {X : ι → Cx} {k : Nat} {W : WX} {e a b c elt : Expr} {pa pb pc : PX} {ma mb mc : MX} {pos : Pos} {es ifs : List Expr} {l : LX} {ml : ML} {tg iter : Expr} {F : Fp} {σ : St} {H H' : Hp} {env env' : Env} {ts : List (V × PV)} {st : Stmt} {m : SM}

/-! ### a list of one's own that stays as it is from here on -/
theorem StRep.froze (h : StRep G.F F σ H env ts) (i : Nat) : StRep G.F F σ H (Pv.froze i env) ts := by
  have h0 := h
  unfold Pv.froze
  split
  · rename_i p e0
    obtain ⟨O, h1, h2, h3, h4, h5, h6, h7⟩ := h
    have hi : i < env.length := (List.getElem?_eq_some_iff.mp e0).1
    obtain ⟨a, ea, own⟩ := h3.own i false p e0
    have hO : O a := h4 i false p a e0 ea
    have less : Ext (fun a => O a ∨ F.B a) (fun b => (O b ∧ b ≠ a) ∨ F.B b) H H := .less fun b z => z.elim (fun z => .inl z.1) .inr
    have old : ∀ (j : Nat) (b : Bool) (q : PV), (env.set i (.v p))[j]? = some (.o b q) → j ≠ i ∧ env[j]? = some (.o b q) := fun j b q e => by
      by_cases hj : i = j
      · subst hj; rw [List.getElem?_set_self hi] at e; cases e
      · rw [List.getElem?_set_ne hj] at e; exact ⟨Ne.symm hj, e⟩
    have na : ¬ ((O a ∧ a ≠ a) ∨ F.B a) := fun z => z.elim (fun z => z.2 rfl) (h6.1 a hO)
    refine ⟨fun b => O b ∧ b ≠ a, fun b z => h1 b z.1, h2, ⟨fun b z => h3.live b (z.elim (fun z => .inl z.1) .inr), by simp [h3.len], fun j q e => ?_, fun j b q e => ?_, h3.tabs.less fun b z => z.elim (fun z => .inl z.1) .inr⟩, fun j b q d e z => ?_, fun j j' b b' q q' d e e' z z' => ?_, ⟨fun b z => h6.1 b z.1, fun j q e => ?_⟩, fun t ht => (h7 t ht).ext less⟩
    · by_cases hj : i = j
      · subst hj
        rw [List.getElem?_set_self hi] at e
        cases e
        refine ⟨_, ea, ?_⟩
        cases p with
        | list zs =>
          obtain ⟨us, u1, u2, u3⟩ := own
          rw [Rep]
          exact ⟨a, us, rfl, .inl ⟨na, .inl u1⟩, Reps.ext less u2, u3⟩
        | dict tk zs =>
          rw [Rep]
          refine ⟨a, rfl, na, ?_⟩
          rcases own with ⟨ht, us, u1, u2⟩ | ⟨ht, us, u1, u2⟩
          · exact .inl ⟨ht, us, .inl u1, RepK.ext less u2⟩
          · exact .inr ⟨ht, us, .inl u1, RepT.ext less u2⟩
        | _ => exact own.elim
      · rw [List.getElem?_set_ne hj] at e
        obtain ⟨y, f1, f2⟩ := h3.slot j q e
        exact ⟨y, f1, f2.ext less⟩
    · obtain ⟨nj, e'⟩ := old j b q e
      obtain ⟨y, f1, f2⟩ := h3.own j b q e'
      refine ⟨y, f1, ?_⟩
      cases q with
      | list zs => obtain ⟨us, u1, u2, u3⟩ := f2; exact ⟨us, u1, Reps.ext less u2, u3⟩
      | dict tk zs =>
        rcases f2 with ⟨ht, us, u1, u2⟩ | ⟨ht, us, u1, u2⟩
        · exact .inl ⟨ht, us, u1, RepK.ext less u2⟩
        · exact .inr ⟨ht, us, u1, RepT.ext less u2⟩
      | _ => exact f2.elim
    · obtain ⟨nj, e'⟩ := old j b q e
      exact ⟨h4 j b q d e' z, fun w => nj (h5 j i b false q p a e' e0 (by rw [← w]; exact z) ea)⟩
    · obtain ⟨_, e1⟩ := old j b q e
      obtain ⟨_, e2⟩ := old j' b' q' e'
      exact h5 j j' b b' q q' d e1 e2 z z'
    · obtain ⟨_, e1⟩ := old j true q e
      exact h6.2 j q e1
  · exact h0
theorem sfreeze (i : Nat) (h : S1 G X W st m) : S1 G X W st (sFreeze i m) := by
  obtain ⟨t, h1, h2⟩ := h
  exact ⟨t, h1, fun F σ H env ts D s q => h2 F σ H _ ts D (s.froze i) q⟩

/-! ### new lists from comprehensions; x = a new list -/
theorem FJ.x (h : FJ G X W e pa) : XJ G X W Rep e pa := by
  obtain ⟨t, h1, h2⟩ := h
  refine ⟨t, h1, fun A σ H env Q S q => h2 A σ H env Q S ?_⟩
  cases ea : pa env with
  | bad => rw [ea] at q; exact q
  | exc x => rw [ea] at q; exact q
  | ok c =>
    rw [ea] at q
    intro x H' s ⟨a, ex, hn, own⟩
    refine q x H' s ?_
    subst ex
    have na : ¬ A a := na_new S.live hn
    cases c with
    | list zs =>
      obtain ⟨us, u1, u2, u3⟩ := own
      rw [Rep]
      exact ⟨a, us, rfl, .inl ⟨na, .inl u1⟩, Reps.ext (.less fun b z => .inl z) u2, u3⟩
    | dict tk zs =>
      rw [Rep]
      refine ⟨a, rfl, na, ?_⟩
      rcases own with ⟨ht, us, u1, u2⟩ | ⟨ht, us, u1, u2⟩
      · exact .inl ⟨ht, us, .inl u1, RepK.ext (.less fun b z => .inl z) u2⟩
      · exact .inr ⟨ht, us, .inl u1, RepT.ext (.less fun b z => .inl z) u2⟩
    | _ => exact own.elim
theorem sown (S : Sits G X k W) (i : Nat) {x : Str} {pos' : Pos} (he : FJ G X W e pa) (hi : ∀ j, (X j).N[i]? = some x := by intro _; rfl) (hx : ∀ j, Loc (X j).env.scope x := by intro _; first | exact Or.inl rfl | exact Or.inr rfl) (hf : ∀ j, (X j).fn x = true ∨ (X j).env.scope.names.lookup x = some .local := by intro _; first | exact Or.inl rfl | exact Or.inr rfl)
    (hs : ∀ j, swapsWith e (some (.Name x pos')) pos.line (X j).env = pure false := by intro _; rfl) : S1 G X W (.Assign [.Name x pos'] e pos) (sOwn i pa) := s_own S he hi hx hf hs

/-! ### for over a range whose ends change what the frame holds -/
theorem for_core {ps : List PV} {g : GX} {ts' : List Nat} {gt : TG} {tb : TS} {D : Ends} {J : It} {Gd : Hp → Prop} {Y : Nat → Hp → V → Hp → Prop} {O : Av} (st : StO G.F F O σ H env ts) (wk : WalkOk G.F (fun a => O a ∨ F.B a) true H ps J Gd Y)
    (g2 : ∀ A H p x l, Rep G.F A H p x → g p = some l → l.map (·.1) = ts' ∧ ∃ l', Stores G.F A H l l' ∧ ∀ σ Q, Q (setV σ l') H → gt x σ H Q)
    (b2 : ∀ F σ H env ts D, StRep G.F F σ H env ts → SEnd G F ts W D (m env) → tb D σ H) (q : SEnd G F ts W D (forGo g m ps env)) :
    ∃ Wn : Nat → Nat → St → Hp → Prop, (∃ n, Wn 0 n σ H) ∧ ∀ i n σ H, Wn i n σ H →
      (J.stop i H ∧ D.nx σ H) ∨ (J.go i H ∧ ∃ N : St → Hp → Prop, (∀ σ' H', N σ' H' → ∃ n', n' < n ∧ Wn (i + 1) n' σ' H') ∧ ∀ x H', J.yld i H x H' → gt x σ H' fun σ2 H2 => tb { D with nx := N, ct := N, bk := D.nx } σ2 H2) := by
  obtain ⟨st1, back⟩ := st.inner
  have q1 : SEnd G ⟨H, O, F.B, F.L⟩ ts W D (forGo g m ps env) := SEnd.inner (F := F) (F' := ⟨H, O, F.B, F.L⟩) rfl back q
  refine for_it wk.walk (fun i σ2 H2 => ∃ env2, StRep G.F ⟨H, O, F.B, F.L⟩ σ2 H2 env2 ts ∧ SEnd G ⟨H, O, F.B, F.L⟩ ts W D (forGo g m (ps.drop i) env2)) ⟨env, st1.rep, q1⟩ ?_ ?_ ?_
  · rintro i σ2 H2 - ⟨env2, ⟨O2, e1, e2, e3, e4, e5, e6, e7⟩, -⟩
    exact wk.good H2 (show Keep _ H H2 from fun a o e n => e2 a o e fun z => n (.inl z))
  · rintro i x σ2 H2 H3 hi ⟨env2, st2, q2⟩ y
    obtain ⟨O2, e1, e2, e3, e4, e5, e6, e7⟩ := st2
    obtain ⟨s3, p0, ep0, r0⟩ := wk.item i x H2 H3 (fun a => O2 a ∨ F.B a) hi (show Keep _ H H2 from fun a o e n => e2 a o e fun z => n (.inl z)) (fun a z => z.elim (fun z => (e1 a z).elim (fun z => .inl (.inl z)) .inr) fun z => .inl (.inr z)) e3.live y
    have er : ps.drop i = p0 :: ps.drop (i + 1) := by
      rw [List.drop_eq_getElem?_toList_append, ep0]
      rfl
    rw [er, forGo] at q2
    cases eg : g p0 with
    | none => rw [eg] at q2; exact q2.elim
    | some l0 =>
      rw [eg] at q2
      simp only [ofOpt_some, liftR_ok] at q2
      obtain ⟨k1, l', k2, k3⟩ := g2 _ H3 p0 x l0 r0 eg
      have st3 : StRep G.F ⟨H, O, F.B, F.L⟩ (setV σ2 l') H3 (Pv.puts env2 l0) ts := by
        refine StRep.puts ⟨O2, e1, fun a o e n => (e2 a o e n).same s3, e3.same s3, e4, e5, e6, fun t ht => ?_⟩ k2.keys
        rcases List.mem_append.mp ht with ht | ht
        · exact stores_tmp k2 t ht
        · exact (e7 t ht).same s3
      refine k3 σ2 _ (b2 _ _ H3 _ ts _ st3 ?_)
      cases em : m (Pv.puts env2 l0) with
      | bad => rw [em] at q2; exact q2
      | exc x env3 => rw [em] at q2; exact q2
      | ok f env3 =>
        rw [em] at q2
        cases f with
        | next => exact fun σ' H' st' => ⟨env3, st', q2⟩
        | cnt => exact fun σ' H' st' => ⟨env3, st', q2⟩
        | brk => exact q2
        | ret p => exact q2
  · rintro σ2 H2 ⟨env2, st2, q2⟩
    rw [List.drop_eq_nil_of_le (Nat.le_refl _)] at q2
    exact q2 σ2 H2 st2
theorem s_forR1 {p : Pos} {g : GX} {ts' : List Nat} {body : List Stmt} (S : Sits G X k W) (hm : G.mg "range" = none) (ha : MLJ G X W [a] ml) (hn : ManyM 1 ml) (hgt : GJ G X tg g ts') (hb : SS G X W body m) (hg : ∀ i, Gl (X i) "range" := by intro _; rfl) (hs : ∀ i, starEach [a] (X i).env = [(false, eval a (X i).env)] := by intro _; rfl)
    (hfs : ∀ j x, foldedSetIterable (.Call (.Name "range" p) [a] [] pos) (X j).env x = pure x := by intro _ _; rfl) {fpos : Pos} :
    S1 G X W (.For tg (.Call (.Name "range" p) [a] [] pos) body [] fpos) (sForM (bindM ml fun xs => mOpt (rangeOf xs)) g m) := by
  obtain ⟨t, h2, h3⟩ := ha
  obtain ⟨gt, g1, g2⟩ := hgt
  obtain ⟨tb, b1, b2⟩ := hb
  refine ⟨_, fun j => ps_for (S.pass j) (S.calm j) (pi_range1 (hg j) (by rw [S.mg j]; exact hm) (h2 j) (hs j)) (g1 j) (b1 j) (hfs j), fun F σ H env ts D st q => h3 F σ H env ts _ st ?_⟩
  unfold sForM bindM at q
  cases el : ml env with
  | bad => rw [el] at q; exact q
  | exc x e => rw [el] at q; exact fun d H' s => q d σ H' s
  | ok us env1 =>
    rw [el] at q
    simp only at q
    intro xs H1 hl st1
    have hn1 := hn env us env1 el
    match us, hn1, xs, hl with
    | [u], _, [x], _ =>
      obtain ⟨O, st1⟩ := st1.ext
      have r := st1.has (t := (x, u)) (by simp)
      cases u with
      | int j =>
        by_cases hj : -(2 ^ 62) ≤ j ∧ j < 16777216
        · simp only [mOpt, rangeOf, if_pos hj] at q
          simp only [Rep] at r
          subst r
          exact ⟨j, rfl, hj.1, by omega, for_core (StO.tmp st1 fun t ht => .inl (List.mem_append_right _ ht)) (walk_intsF 0 j.toNat (by unfold line; omega)) g2 b2 q⟩
        · simp only [mOpt, rangeOf, if_neg hj] at q
          exact q.elim
      | _ => exact q.elim

/-! ### isinstance -/
theorem kit_sub (t u : String) (ht : t ∈ ["NoneType", "bool", "int", "str", "list", "tuple", "dict"]) (hu : u ∈ ["bool", "int", "str", "list", "tuple", "dict"]) : kitB t u = some (subTy t u) := by
  simp only [List.mem_cons, List.not_mem_nil, or_false] at ht hu
  rcases ht with rfl | rfl | rfl | rfl | rfl | rfl | rfl <;> rcases hu with rfl | rfl | rfl | rfl | rfl | rfl <;> decide +kernel
/-- the type of a value -/
def TyZ (K : PySem.W.Frag) (H : Hp) (x : V) (t : Value) : Prop := TyX K H x t ∨ (t = .type "dict" ∧ ∃ a o kvs, x = .ref a ∧ H a = some (.frz o (.dT kvs)))
theorem kit_ofZ {X : Cx} {pins : List (Addr × Obj)} {s : Shared} {x : V} {u t : Value} (I : Inv X pins σ H s) (rx : RelV x u) (ty : TyZ X.K H x t) : ∃ P : Heap → Prop, PySem.W.KitX X.K u t P ∧ P s.heap ∧ u ≠ .builtin "__main__.__loader__#opaque" := by
  rcases ty with ty | ⟨rfl, a, o, kvs, rfl, ea⟩
  · exact kit_of I rx ty
  · cases (show u = Value.ref a from rx)
    obtain ⟨_, _, _, xs, _, o, es, ep, h1, h2, _⟩ := (show ObjOk X.prog X.w H s.heap a (.frz o (.dT kvs)) from I.hok a _ ea)
    exact ⟨_, PySem.W.kitx_dict, ⟨o, h1, h2.1⟩, fun z => nomatch z⟩
def rIsZ (K : PySem.W.Frag) : List V → Hp → VK → Prop := fun xs H Q => ∃ (x c : V) (t u : Value) (b : Bool), xs = [x, c] ∧ ClsV c u ∧ TyZ K H x t ∧ PySem.W.kitOne K t u = some b ∧ Q (.bl b) H
def rIsZT (K : PySem.W.Frag) : List V → Hp → VK → Prop := fun xs H Q => ∃ (x : V) (tp : Addr) (cs : List V) (t : Value) (us : List Value) (b : Bool), xs = [x, .ref tp] ∧ H tp = some (.tup cs) ∧ Paired ClsV cs us ∧ TyZ K H x t ∧ PySem.W.kitAny K t us = some b ∧ Q (.bl b) H
theorem call_isZ {X : Cx} : CallR X (.builtin "isinstance") (rIsZ X.K) := by
  intro pins s σ H xs us Q I r h
  obtain ⟨x, c, t, u, b, rfl, k, ty, e, q⟩ := h
  obtain ⟨u1, u2, rfl, r1, r2⟩ := vals2 r
  have e2 := k.eq r2
  subst e2
  obtain ⟨P, Z, p, hx⟩ := kit_ofZ I r1 ty
  exact PySem.W.kia_one Z I.kIn p e hx fun tk => ⟨.bl b, H, I.tok tk, rfl, q⟩
theorem call_isZT {X : Cx} : CallR X (.builtin "isinstance") (rIsZT X.K) := by
  intro pins s σ H xs us Q I r h
  obtain ⟨x, tp, cs, t, ws, b, rfl, hT, k, ty, e, q⟩ := h
  obtain ⟨u1, u2, rfl, r1, r2⟩ := vals2 r
  cases (show u2 = Value.ref tp from r2)
  obtain ⟨P, Z, p, hx⟩ := kit_ofZ I r1 ty
  obtain ⟨_, its, rv, o, h1, h2, n, h3⟩ := (show ObjOk X.prog X.w H s.heap tp (.tup cs) from I.hok tp _ hT)
  have e3 := ClsV.all k rv
  subst e3
  obtain ⟨oc, od, dt, sl⟩ := o
  simp only at h2 h3
  subst h2 h3
  exact PySem.W.kia_tup Z I.kIn p h1 e hx fun tk => ⟨.bl b, H, I.tok tk, rfl, q⟩
theorem BRep.ty {K : Fr} {A : Av} {H : Hp} {p : PV} {x : V} {t : String} (h : BRep K A H p x) (e : tyName p = some t) : TyZ K H x (.type t) := by
  cases p with
  | none => cases e; rw [h.none]; exact .inl <| .base .non
  | bool b => cases e; rw [h.bool]; exact .inl <| .base (.bl b)
  | int i => cases e; rw [h.int]; exact .inl <| .base (.int i)
  | str s => cases e; rw [h.str]; exact .inl <| .base (.str s)
  | list ps =>
    cases e
    rcases h with h | ⟨a, rfl, us, h, _⟩
    · rw [Rep] at h
      obtain ⟨a, xs, rfl, hl, _⟩ := h
      rcases hl with ⟨_, r | ⟨o, r⟩⟩ | ⟨o, its, n, hk, hc, _⟩
      · exact .inl <| .base (.lst r)
      · exact .inl <| .base (.frz r)
      · exact .inl <| .kList hk hc
    · exact .inl <| .base (.lst h)
  | tuple ps =>
    cases e
    rcases h with h | ⟨a, rfl, h⟩
    · rw [Rep] at h
      obtain ⟨a, xs, rfl, hl, _⟩ := h
      exact .inl <| .base (.tup hl.2)
    · exact h.elim
  | dict tk kvs =>
    cases e
    rcases h with h | ⟨a, rfl, ⟨ht, us, h, _⟩ | ⟨ht, us, h, _⟩⟩
    · rw [Rep] at h
      obtain ⟨a, rfl, _, ⟨ht, ks, r | ⟨o, r⟩, _⟩ | ⟨ht, ks, r | ⟨o, r⟩, _⟩⟩ := h
      · exact .inl <| .base (.dK r)
      · exact .inl <| .fDict r
      · exact .inl <| .base (.dT r)
      · exact .inr ⟨rfl, a, o, ks, rfl, r⟩
    · exact .inl <| .base (.dK h)
    · exact .inl <| .base (.dT h)
  | fn _ _ => cases e
theorem tyName_mem {p : PV} {t : String} (e : tyName p = some t) : t ∈ ["NoneType", "bool", "int", "str", "list", "tuple", "dict"] := by
  cases p <;> cases e <;> decide
theorem kit_any {K : PySem.W.Frag} {t : String} (ht : t ∈ ["NoneType", "bool", "int", "str", "list", "tuple", "dict"]) : ∀ us : List String, (∀ u ∈ us, u ∈ ["bool", "int", "str", "list", "tuple", "dict"]) → PySem.W.kitAny K (.type t) (us.map Value.type) = some (us.any fun u => subTy t u)
  | [], _ => kitAny_nil
  | u :: us, h => by
    have h1 := kit_ty (K := K) (kit_sub t u ht (h u List.mem_cons_self))
    rw [List.map_cons, List.any_cons]
    refine kitAny_cons h1 (fun e => ?_) fun e => by rw [e]; rfl
    rw [e, Bool.false_or]
    exact kit_any ht us fun u hu => h u (List.mem_cons_of_mem _ hu)
theorem rIs_of {K : Fr} {A : Av} {H : Hp} {p c : PV} {x : V} {u : String} (hu : u ∈ ["bool", "int", "str", "list", "tuple", "dict"]) (r : BRep K A H p x) (e : oIsA [u] p = some c) {Q : VK} (q : ∀ z H', Same H H' → Rep K A H' c z → Q z H') : rIsZ K [x, .ty u] H Q := by
  unfold oIsA at e
  cases et : tyName p with
  | none => rw [et] at e; cases e
  | some t =>
    rw [et] at e
    cases e
    refine ⟨x, .ty u, .type t, .type u, subTy t u, rfl, .ty u, r.ty et, kit_ty (kit_sub t u (tyName_mem et) hu), ?_⟩
    exact q _ H (Same.refl H) (by rw [Rep]; simp)
/-- isinstance(a, T) -/
theorem xisa {x T : Str} {u : String} {p px : Pos} (S : Sits G X k W) (ha : XJ G X W BRep a pa) (hm : G.mg x = none) (hv : bootBuiltins x = some (.builtin "isinstance")) (hmT : G.mg T = none) (hvT : bootBuiltins T = some (.type u)) (hu : u ∈ ["bool", "int", "str", "list", "tuple", "dict"] := by decide)
    (hg : ∀ i, Gl (X i) x := by intro _; rfl) (hgT : ∀ i, Gl (X i) T := by intro _; rfl) (hn : x ≠ "__name__" := by decide) (hnT : T ≠ "__name__" := by decide) (hdb : (x == ("__debug__" : Str)) = false := by decide) (hdT : (T == ("__debug__" : Str)) = false := by decide)
    (hs : ∀ i, starEach [a, .Name T px] (X i).env = (false, eval a (X i).env) :: starEach [.Name T px] (X i).env := by intro _; rfl) (hs2 : ∀ i, starEach [.Name T px] (X i).env = (false, eval (.Name T px) (X i).env) :: starEach [] (X i).env := by intro _; rfl)
    (hpl : ∀ i, (backTo pos (starEach [.Name T px] (X i).env)).any (·.1) = false := by intro _; rfl) : XJ G X W Rep (.Call (.Name x p) [a, .Name T px] [] pos) (p1 (oIsA [u]) pa) := by
  obtain ⟨ta, h1, h2⟩ := ha
  refine ⟨tCB (rIsZ G.K) (tCons ta (tCons (tC (.ty u)) tNil)), fun i => ?_, fun A σ H env Q SS q => ?_⟩
  · have := pe_callB (p := p) (pos := pos) call_isZ (hg i) (by rw [S.mg i]; exact hm) hv (pa_cons (h1 i) (pa_cons (pe_bltn (pos := px) (v := .ty u) (hgT i) (by rw [S.mg i]; exact hmT) hvT rfl hnT hdT) pa_nil (hs2 i)) (hs i)) hn hdb (hs i) (hpl i)
    rw [S.K i] at this
    exact this
  · exact one (r := fun x H Q => rIsZ G.K [x, .ty u] H Q) (fun Q z => h2 A σ H env Q SS z) SS.live (fun A H a c x hl ra e Q q => rIs_of hu ra e q) q
/-- names of types, as they are written -/
inductive TysJ (G : Gm) {ι : Type} (X : ι → Cx) : List Expr → List String → Prop
  | nil : TysJ G X [] []
  | cons {T : Str} {u : String} {px : Pos} {es : List Expr} {us : List String} (hm : G.mg T = none) (hv : bootBuiltins T = some (.type u)) (r : TysJ G X es us) (hu : u ∈ ["bool", "int", "str", "list", "tuple", "dict"] := by decide) (hg : ∀ i, Gl (X i) T := by intro _; rfl) (hn : T ≠ "__name__" := by decide) (hd : (T == ("__debug__" : Str)) = false := by decide)
      (hs : ∀ i, starEach (.Name T px :: es) (X i).env = (false, eval (.Name T px) (X i).env) :: starEach es (X i).env := by intro _; rfl) : TysJ G X (.Name T px :: es) (u :: us)
theorem TysJ.args {S0 : Unit} (S : Sits G X k W) : ∀ {xs : List Expr} {us : List String}, TysJ G X xs us → (∀ u ∈ us, u ∈ ["bool", "int", "str", "list", "tuple", "dict"]) ∧ ∃ t : TA, (∀ i, PA (X i) xs t) ∧ ∀ (σ : St) H (Q : List V → Hp → Prop), Q (us.map V.ty) H → t σ H Q
  | _, _, .nil => ⟨(fun u z => by cases z), _, fun i => pa_nil, fun σ H Q q => q⟩
  | _, _, .cons hm hv r hu hg hn hd hs => by
    obtain ⟨ih1, t, ih2, ih3⟩ := TysJ.args (S0 := ()) S r
    exact ⟨(fun u z => by rcases List.mem_cons.mp z with rfl | z; exact hu; exact ih1 u z), tCons (tC (.ty _)) t, fun i => pa_cons (pe_bltn (v := .ty _) (hg i) (by rw [S.mg i]; exact hm) hv rfl hn hd) (ih2 i) (hs i), fun σ H Q q => ih3 σ H _ q⟩
theorem paired_cls : ∀ us : List String, Paired ClsV (us.map V.ty) (us.map Value.type)
  | [] => .nil
  | u :: us => .cons (.ty u) (paired_cls us)
/-- isinstance(a, (T, U)) -/
theorem xisaT {x : Str} {us : List String} {tes : List Expr} {p px : Pos} {kk : Nat} (S : Sits G X k W) (ha : XJ G X W BRep a pa) (hm : G.mg x = none) (hv : bootBuiltins x = some (.builtin "isinstance")) (hT : TysJ G X tes us) (hz : us.length ≤ 1000 := by decide)
    (hg : ∀ i, Gl (X i) x := by intro _; rfl) (hn : x ≠ "__name__" := by decide) (hdb : (x == ("__debug__" : Str)) = false := by decide)
    (hs : ∀ i, starEach [a, .Tuple tes kk px] (X i).env = (false, eval a (X i).env) :: starEach [.Tuple tes kk px] (X i).env := by intro _; rfl) (hs2 : ∀ i, starEach [.Tuple tes kk px] (X i).env = (false, eval (.Tuple tes kk px) (X i).env) :: starEach [] (X i).env := by intro _; rfl)
    (hpl : ∀ i, (backTo pos (starEach [.Tuple tes kk px] (X i).env)).any (·.1) = false := by intro _; rfl) : XJ G X W Rep (.Call (.Name x p) [a, .Tuple tes kk px] [] pos) (p1 (oIsA us) pa) := by
  obtain ⟨ta, h1, h2⟩ := ha
  obtain ⟨hu, t, h3, h4⟩ := TysJ.args (S0 := ()) S hT
  refine ⟨tCB (rIsZT G.K) (tCons ta (tCons (tTup t) tNil)), fun i => ?_, fun A σ H env Q SS q => ?_⟩
  · have := pe_callB (p := p) (pos := pos) call_isZT (hg i) (by rw [S.mg i]; exact hm) hv (pa_cons (h1 i) (pa_cons (pe_tup (pos := px) (x1 := kk) (h3 i)) pa_nil (hs2 i)) (hs i)) hn hdb (hs i) (hpl i)
    rw [S.K i] at this
    exact this
  · refine one (r := fun x H Q => tTup t σ H fun y H2 => rIsZT G.K [x, y] H2 Q) (fun Q z => h2 A σ H env Q SS z) SS.live (fun A H a c x hl ra e Q q => ?_) q
    refine h4 σ H _ ⟨by rw [List.length_map]; exact Nat.le_of_lt (small1000 hz), fun tp hp => ?_⟩
    unfold oIsA at e
    cases et : tyName a with
    | none => rw [et] at e; cases e
    | some ty =>
      rw [et] at e
      cases e
      refine ⟨x, tp, us.map V.ty, .type ty, us.map Value.type, _, rfl, upd_same, paired_cls us, (ra.same (same_new hp _)).ty et, kit_any (tyName_mem et) us hu, ?_⟩
      exact q _ _ (same_new hp _) (by rw [Rep])
end
end Pv
end
section
set_option autoImplicit false
set_option Elab.async false
set_option linter.all false
set_option maxRecDepth 100000
/-! Dicts: subscripts, in, puts, displays. -/
namespace Pv
open PySem PySem.Spec PyProof.Rows L2
variable [TN]
section
variable {K : Fr} {A : Av} {H : Hp}
theorem eqv_key : ∀ {p q : PV} {k l : Key}, keyOf p = some k → keyOf q = some l → eqv p q = decide (k = l)
  | .int i, .int j, k, l, h1, h2 => by simp only [keyOf, Option.some.injEq] at h1 h2; subst h1; subst h2; rw [eqv, Bool.eq_iff_iff]; simp
  | .str i, .str j, k, l, h1, h2 => by simp only [keyOf, Option.some.injEq] at h1 h2; subst h1; subst h2; rw [eqv, Bool.eq_iff_iff]; simp
  | .int i, .str j, k, l, h1, h2 => by simp only [keyOf, Option.some.injEq] at h1 h2; subst h1; subst h2; simp [eqv]
  | .str i, .int j, k, l, h1, h2 => by simp only [keyOf, Option.some.injEq] at h1 h2; subst h1; subst h2; simp [eqv]
  | .none, _, _, _, h1, _ => by cases h1
  | .bool _, _, _, _, h1, _ => by cases h1
  | .list _, _, _, _, h1, _ => by cases h1
  | .tuple _, _, _, _, h1, _ => by cases h1
  | .dict _ _, _, _, _, h1, _ => by cases h1
  | .fn _ _, _, _, _, h1, _ => by cases h1
  | .int _, .none, _, _, _, h1 => by cases h1
  | .int _, .bool _, _, _, _, h1 => by cases h1
  | .int _, .list _, _, _, _, h1 => by cases h1
  | .int _, .tuple _, _, _, _, h1 => by cases h1
  | .int _, .dict _ _, _, _, _, h1 => by cases h1
  | .int _, .fn _ _, _, _, _, h1 => by cases h1
  | .str _, .none, _, _, _, h1 => by cases h1
  | .str _, .bool _, _, _, _, h1 => by cases h1
  | .str _, .list _, _, _, _, h1 => by cases h1
  | .str _, .tuple _, _, _, _, h1 => by cases h1
  | .str _, .dict _ _, _, _, _, h1 => by cases h1
  | .str _, .fn _ _, _, _, _, h1 => by cases h1
theorem keysOf_cons {p : PV} {ps : List PV} {ks : List Key} (h : keysOf (p :: ps) = some ks) : ∃ k r, ks = k :: r ∧ keyOf p = some k ∧ keysOf ps = some r := by
  unfold keysOf at h
  cases e : keyOf p with
  | none => rw [e] at h; cases h
  | some k =>
    rw [e] at h
    cases e2 : keysOf ps with
    | none => rw [e2] at h; cases h
    | some r => rw [e2] at h; cases h; exact ⟨k, r, rfl, rfl, rfl⟩
theorem eqvs_keys : ∀ {ps qs : List PV} {ks ls : List Key}, keysOf ps = some ks → keysOf qs = some ls → eqvs ps qs = decide (ks = ls)
  | [], [], ks, ls, h1, h2 => by cases h1; cases h2; simp [eqvs]
  | [], q :: qs, ks, ls, h1, h2 => by
    obtain ⟨k, r, rfl, _, _⟩ := keysOf_cons h2
    cases h1
    simp [eqvs]
  | p :: ps, [], ks, ls, h1, h2 => by
    obtain ⟨k, r, rfl, _, _⟩ := keysOf_cons h1
    cases h2
    simp [eqvs]
  | p :: ps, q :: qs, ks, ls, h1, h2 => by
    obtain ⟨k, r, rfl, a1, a2⟩ := keysOf_cons h1
    obtain ⟨l, s, rfl, b1, b2⟩ := keysOf_cons h2
    rw [eqvs, eqv_key a1 b1, eqvs_keys a2 b2]
    by_cases h : k = l <;> by_cases h' : r = s <;> simp [h, h']
theorem eqv_tkey {p q : PV} {k l : List Key} (h1 : tkeyOf p = some k) (h2 : tkeyOf q = some l) : eqv p q = decide (k = l) := by
  cases p <;> (try cases h1) <;> cases q <;> (try cases h2)
  rw [eqv, eqvs_keys (by assumption) (by assumption)]
theorem rep_key {q : PV} {k : Key} {x : V} (h : keyOf q = some k) (r : Rep K A H q x) : x = kV k := by
  cases q <;> (try cases h) <;> (rw [Rep] at r; exact r)
theorem brep_key {q : PV} {k : Key} {x : V} (h : keyOf q = some k) (r : BRep K A H q x) : x = kV k := by
  rcases r with r | ⟨a, e, o⟩
  · exact rep_key h r
  · cases q <;> (try cases h) <;> exact o.elim
theorem reps_keys : ∀ {ps : List PV} {ks : List Key} {xs : List V}, keysOf ps = some ks → Reps K A H ps xs → xs = ks.map kV
  | [], ks, xs, h, r => by cases h; rw [Reps] at r; exact r
  | p :: ps, ks, xs, h, r => by
    obtain ⟨k, t, rfl, a1, a2⟩ := keysOf_cons h
    rw [Reps] at r
    obtain ⟨x, r', rfl, r1, r2⟩ := r
    rw [rep_key a1 r1, reps_keys a2 r2]; rfl
theorem brep_tkey {q : PV} {k : List Key} {x : V} (h : tkeyOf q = some k) (r : BRep K A H q x) : ∃ b, x = .ref b ∧ H b = some (.tup (k.map kV)) := by
  cases q <;> (try cases h)
  rename_i ps
  rcases r with r | ⟨a, e, o⟩
  · rw [Rep] at r
    obtain ⟨a, xs, rfl, t, r, _⟩ := r
    rw [reps_keys h r] at t
    exact ⟨a, rfl, t.2⟩
  · exact o.elim
theorem repK_find {q : PV} {k : Key} (hk : keyOf q = some k) : ∀ {kvs : List (PV × PV)} {ks : List (Key × V)}, RepK K A H kvs ks → match dGet kvs q with
    | some p => ∃ x, valV ks k = some x ∧ Rep K A H p x
    | none => valV ks k = none
  | [], ks, r => by rw [RepK] at r; subst r; rfl
  | (q', p) :: kvs, ks, r => by
    rw [RepK] at r
    obtain ⟨k', x, s, rfl, h1, h2, h3⟩ := r
    have e := eqv_key h1 hk
    by_cases h : k' = k
    · have e' : eqv q' q = true := by rw [e]; simp [h]
      simp only [dGet, List.find?_cons, e', Option.map_some]
      exact ⟨x, valV_pos h, h2⟩
    · have e' : eqv q' q = false := by rw [e]; simp [h]
      have ih := repK_find hk h3
      simp only [dGet, List.find?_cons, e'] at ih ⊢
      rw [valV_neg (p := (k', x)) h]
      exact ih
theorem repT_find {q : PV} {k : List Key} (hk : tkeyOf q = some k) : ∀ {kvs : List (PV × PV)} {ks : List (List Key × V)}, RepT K A H kvs ks → match dGet kvs q with
    | some p => ∃ x, valV ks k = some x ∧ Rep K A H p x
    | none => valV ks k = none
  | [], ks, r => by rw [RepT] at r; subst r; rfl
  | (q', p) :: kvs, ks, r => by
    rw [RepT] at r
    obtain ⟨k', x, s, rfl, h1, h2, h3⟩ := r
    have e := eqv_tkey h1 hk
    by_cases h : k' = k
    · have e' : eqv q' q = true := by rw [e]; simp [h]
      simp only [dGet, List.find?_cons, e', Option.map_some]
      exact ⟨x, valV_pos h, h2⟩
    · have e' : eqv q' q = false := by rw [e]; simp [h]
      have ih := repT_find hk h3
      simp only [dGet, List.find?_cons, e'] at ih ⊢
      rw [valV_neg (p := (k', x)) h]
      exact ih
/-- the two forms of a dict that is looked at -/
theorem BRep.dict {tk : Bool} {kvs : List (PV × PV)} {x : V} (h : BRep K A H (.dict tk kvs) x) : ∃ a, x = .ref a ∧ ((tk = false ∧ ∃ ks, Rd H a (.dK ks) ∧ RepK K A H kvs ks) ∨ (tk = true ∧ ∃ ks, Rd H a (.dT ks) ∧ RepT K A H kvs ks)) := by
  rcases h with h | ⟨a, e, h⟩
  · rw [Rep] at h
    obtain ⟨a, e, _, h⟩ := h
    exact ⟨a, e, h⟩
  · refine ⟨a, e, ?_⟩
    rcases h with ⟨ht, ks, h1, h2⟩ | ⟨ht, ks, h1, h2⟩
    · exact .inl ⟨ht, ks, .inl h1, h2⟩
    · exact .inr ⟨ht, ks, .inl h1, h2⟩
/-- what stands at the key, in the heap -/
theorem dget_at {tk : Bool} {kvs : List (PV × PV)} {q : PV} {x y : V} (h : BRep K A H (.dict tk kvs) x) (hq : BRep K A H q y) (hk : keyable tk q = true) : ∃ a, x = .ref a ∧ match dGet kvs q with
    | some p => ∃ v, DGet H a y (some v) ∧ Rep K A H p v
    | none => DGet H a y none := by
  obtain ⟨a, e, ⟨ht, ks, h1, h2⟩ | ⟨ht, ks, h1, h2⟩⟩ := h.dict
  · subst ht
    obtain ⟨k, ek⟩ := Option.isSome_iff_exists.mp hk
    have f := repK_find ek h2
    have ey := brep_key ek hq
    refine ⟨a, e, ?_⟩
    cases ed : dGet kvs q with
    | none => rw [ed] at f; exact .inl ⟨ks, k, h1, ey, f.symm⟩
    | some p => rw [ed] at f; obtain ⟨v, e1, e2⟩ := f; exact ⟨v, .inl ⟨ks, k, h1, ey, e1.symm⟩, e2⟩
  · subst ht
    obtain ⟨k, ek⟩ := Option.isSome_iff_exists.mp hk
    have f := repT_find ek h2
    obtain ⟨b, ey, eb⟩ := brep_tkey ek hq
    refine ⟨a, e, ?_⟩
    cases ed : dGet kvs q with
    | none => rw [ed] at f; exact .inr ⟨ks, k, b, h1, ey, eb, f.symm⟩
    | some p => rw [ed] at f; obtain ⟨v, e1, e2⟩ := f; exact ⟨v, .inr ⟨ks, k, b, h1, ey, eb, e1.symm⟩, e2⟩
end
section
variable {G : Gm} {X : Cx}
def rDGet : R2 := fun x y H Q => ∃ a v, x = .ref a ∧ DGet H a y (some v) ∧ Q v H
def rDIn (neg : Bool) : R2 := fun y x H Q => ∃ a o, x = .ref a ∧ DGet H a y o ∧ Q (.bl (if neg then !o.isSome else o.isSome)) H
theorem ix_dict (hu : X.A.units + 1 < cLine) : IxR X rDGet := by
  intro value slice pins s σ H x y v u Q I rx ry h hs
  obtain ⟨a, z, rfl, g, q⟩ := h
  cases rx
  have hT := dict_typeIs I g
  unfold subscriptTail
  refine wpAny_bind ?_
  rw [getitemInPython_of_ne hT.not_modules]
  refine wpAny_bind (wpAny_specialOf hT PySem.F.slot_dict_getitem.lookup ?_)
  have fin : wpAny (model X.prog X.w) X.A (subscripted slice false (.ref a) u) (fun r s₃ => wpAny (model X.prog X.w) X.A (letTemporaryGo value (.ref a) r >>= fun _ => pure r) (EP X pins σ Q) X.xe s₃) X.xe s := by
    rw [hs]
    refine wpAny_operating (wpAny_mono (d_getItem (Q := EP X pins σ Q) hu I g ry fun w' s3 I3 rw' => ⟨z, H, I3, rw', q⟩) (fun r s₃ h₃ => wpAny_bind (wpAny_letTemporaryGo (wpAny_pure h₃))) fun _ _ x => x)
  first
    | exact wpAny_pure (wpAny_bind fin)
    | exact wpAny_bind (wpAny_pure (wpAny_bind fin))
    | exact wpAny_bind fin
theorem op_din (hu : X.A.units + 1 < cLine) : OpR X (compareOp .In) (rDIn false) := by
  intro pins s σ H x y v u Q I rx ry h
  obtain ⟨a, o, rfl, g, q⟩ := h
  cases ry
  exact d_in hu I g rx fun s3 I3 => ⟨.bl o.isSome, H, I3, rfl, q⟩
theorem op_dnotin (hu : X.A.units + 1 < cLine) : OpR X (compareOp .NotIn) (rDIn true) := by
  intro pins s σ H x y v u Q I rx ry h
  obtain ⟨a, o, rfl, g, q⟩ := h
  cases ry
  exact d_notIn hu I g rx fun s3 I3 => ⟨.bl (!o.isSome), H, I3, rfl, q⟩
theorem j_dget : OpJ G rDGet oDGet := by
  intro A H a b c x y hl ra rb e Q q
  unfold oDGet at e
  split at e
  · rename_i tk kvs
    split at e
    · rename_i hk
      obtain ⟨l, ex, f⟩ := dget_at ra rb hk
      rw [e] at f
      obtain ⟨v, g, r⟩ := f
      exact ⟨l, v, ex, g, q v H (Same.refl H) r⟩
    · cases e
  · cases e
theorem j_din : OpJ G (rDIn false) oDIn := by
  intro A H a b c x y hl ra rb e Q q
  unfold oDIn at e
  split at e
  · rename_i tk kvs
    split at e
    · rename_i hk
      obtain ⟨l, ey, f⟩ := dget_at rb ra hk
      cases e
      cases ed : dGet kvs a with
      | none =>
        rw [ed] at f q
        exact ⟨l, none, ey, f, q _ H (Same.refl H) (by simp [Rep])⟩
      | some p =>
        rw [ed] at f q
        obtain ⟨v, g, r⟩ := f
        exact ⟨l, some v, ey, g, q _ H (Same.refl H) (by simp [Rep])⟩
    · cases e
  · cases e
theorem j_dnotin : OpJ G (rDIn true) oDNotIn := by
  intro A H a b c x y hl ra rb e Q q
  unfold oDNotIn at e
  split at e
  · rename_i tk kvs
    split at e
    · rename_i hk
      obtain ⟨l, ey, f⟩ := dget_at rb ra hk
      cases e
      cases ed : dGet kvs a with
      | none =>
        rw [ed] at f q
        exact ⟨l, none, ey, f, q _ H (Same.refl H) (by simp [Rep])⟩
      | some p =>
        rw [ed] at f q
        obtain ⟨v, g, r⟩ := f
        exact ⟨l, some v, ey, g, q _ H (Same.refl H) (by simp [Rep])⟩
    · cases e
  · cases e
end
end Pv
end
section
set_option autoImplicit false
set_option Elab.async false
set_option linter.all false
set_option maxRecDepth 100000
/-! Dicts: puts, displays; what is never reached. -/
namespace Pv
open PySem PySem.Spec PyProof.Rows L2
variable [TN]
section
variable {K : Fr} {A : Av} {H : Hp}
theorem RepK.len : ∀ {kvs : List (PV × PV)} {ks : List (Key × V)}, RepK K A H kvs ks → ks.length = kvs.length
  | [], _, h => by rw [RepK] at h; subst h; rfl
  | (q, p) :: r, _, h => by
    rw [RepK] at h
    obtain ⟨k, x, s, rfl, _, _, h3⟩ := h
    simp [RepK.len h3]
theorem RepT.len : ∀ {kvs : List (PV × PV)} {ks : List (List Key × V)}, RepT K A H kvs ks → ks.length = kvs.length
  | [], _, h => by rw [RepT] at h; subst h; rfl
  | (q, p) :: r, _, h => by
    rw [RepT] at h
    obtain ⟨k, x, s, rfl, _, _, h3⟩ := h
    simp [RepT.len h3]
theorem repK_any {q : PV} {k : Key} (hk : keyOf q = some k) : ∀ {kvs : List (PV × PV)} {ks : List (Key × V)}, RepK K A H kvs ks → (kvs.any fun z => eqv z.1 q) = ks.any fun z => decide (z.1 = k)
  | [], _, h => by rw [RepK] at h; subst h; rfl
  | (q', p) :: r, _, h => by
    rw [RepK] at h
    obtain ⟨k', x, s, rfl, h1, _, h3⟩ := h
    rw [List.any_cons, List.any_cons, repK_any hk h3, eqv_key h1 hk]
theorem repT_any {q : PV} {k : List Key} (hk : tkeyOf q = some k) : ∀ {kvs : List (PV × PV)} {ks : List (List Key × V)}, RepT K A H kvs ks → (kvs.any fun z => eqv z.1 q) = ks.any fun z => decide (z.1 = k)
  | [], _, h => by rw [RepT] at h; subst h; rfl
  | (q', p) :: r, _, h => by
    rw [RepT] at h
    obtain ⟨k', x, s, rfl, h1, _, h3⟩ := h
    rw [List.any_cons, List.any_cons, repT_any hk h3, eqv_tkey h1 hk]
theorem repK_map {q p : PV} {k : Key} {x : V} (hk : keyOf q = some k) (hp : Rep K A H p x) : ∀ {kvs : List (PV × PV)} {ks : List (Key × V)}, RepK K A H kvs ks → RepK K A H (kvs.map fun z => if eqv z.1 q then (z.1, p) else z) (ks.map fun z => if z.1 = k then (z.1, x) else z)
  | [], _, h => by rw [RepK] at h; subst h; simp [RepK]
  | (q', p') :: r, _, h => by
    rw [RepK] at h
    obtain ⟨k', x', s, rfl, h1, h2, h3⟩ := h
    have ih := repK_map hk hp h3
    have e := eqv_key h1 hk
    simp only [List.map_cons]
    by_cases hh : k' = k
    · have e' : eqv q' q = true := by rw [e]; simp [hh]
      rw [if_pos e', if_pos hh, RepK]
      exact ⟨k', x, _, rfl, h1, hp, ih⟩
    · have e' : ¬ eqv q' q = true := by rw [e]; simp [hh]
      rw [if_neg e', if_neg hh, RepK]
      exact ⟨k', x', _, rfl, h1, h2, ih⟩
theorem repT_map {q p : PV} {k : List Key} {x : V} (hk : tkeyOf q = some k) (hp : Rep K A H p x) : ∀ {kvs : List (PV × PV)} {ks : List (List Key × V)}, RepT K A H kvs ks → RepT K A H (kvs.map fun z => if eqv z.1 q then (z.1, p) else z) (ks.map fun z => if z.1 = k then (z.1, x) else z)
  | [], _, h => by rw [RepT] at h; subst h; simp [RepT]
  | (q', p') :: r, _, h => by
    rw [RepT] at h
    obtain ⟨k', x', s, rfl, h1, h2, h3⟩ := h
    have ih := repT_map hk hp h3
    have e := eqv_tkey h1 hk
    simp only [List.map_cons]
    by_cases hh : k' = k
    · have e' : eqv q' q = true := by rw [e]; simp [hh]
      rw [if_pos e', if_pos hh, RepT]
      exact ⟨k', x, _, rfl, h1, hp, ih⟩
    · have e' : ¬ eqv q' q = true := by rw [e]; simp [hh]
      rw [if_neg e', if_neg hh, RepT]
      exact ⟨k', x', _, rfl, h1, h2, ih⟩
theorem repK_app {q p : PV} {k : Key} {x : V} (hk : keyOf q = some k) (hp : Rep K A H p x) : ∀ {kvs : List (PV × PV)} {ks : List (Key × V)}, RepK K A H kvs ks → RepK K A H (kvs ++ [(q, p)]) (ks ++ [(k, x)])
  | [], _, h => by rw [RepK] at h; subst h; rw [List.nil_append, List.nil_append, RepK]; exact ⟨k, x, [], rfl, hk, hp, by rw [RepK]⟩
  | (q', p') :: r, _, h => by
    rw [RepK] at h
    obtain ⟨k', x', s, rfl, h1, h2, h3⟩ := h
    rw [List.cons_append, List.cons_append, RepK]
    exact ⟨k', x', _, rfl, h1, h2, repK_app hk hp h3⟩
theorem repT_app {q p : PV} {k : List Key} {x : V} (hk : tkeyOf q = some k) (hp : Rep K A H p x) : ∀ {kvs : List (PV × PV)} {ks : List (List Key × V)}, RepT K A H kvs ks → RepT K A H (kvs ++ [(q, p)]) (ks ++ [(k, x)])
  | [], _, h => by rw [RepT] at h; subst h; rw [List.nil_append, List.nil_append, RepT]; exact ⟨k, x, [], rfl, hk, hp, by rw [RepT]⟩
  | (q', p') :: r, _, h => by
    rw [RepT] at h
    obtain ⟨k', x', s, rfl, h1, h2, h3⟩ := h
    rw [List.cons_append, List.cons_append, RepT]
    exact ⟨k', x', _, rfl, h1, h2, repT_app hk hp h3⟩
theorem repK_put {q p : PV} {k : Key} {x : V} (hk : keyOf q = some k) (hp : Rep K A H p x) {kvs : List (PV × PV)} {ks : List (Key × V)} (h : RepK K A H kvs ks) : RepK K A H (dPut kvs q p) (putK ks k x) := by
  unfold dPut putK
  rw [repK_any hk h]
  split
  · exact repK_map hk hp h
  · exact repK_app hk hp h
theorem repT_put {q p : PV} {k : List Key} {x : V} (hk : tkeyOf q = some k) (hp : Rep K A H p x) {kvs : List (PV × PV)} {ks : List (List Key × V)} (h : RepT K A H kvs ks) : RepT K A H (dPut kvs q p) (putK ks k x) := by
  unfold dPut putK
  rw [repT_any hk h]
  split
  · exact repT_map hk hp h
  · exact repT_app hk hp h
theorem same_upd {Hx : Hp} {l : Addr} {o u0 : HO} (hO : A l) (hD : Hx l = some u0) (hpl : Pl u0) : Ext A A Hx (upd Hx l o) := ⟨fun b z => .inl z, fun c u q n => stay_upd hD hpl q fun z => n (by rw [z]; exact hO)⟩
/-- the writing of one place: list or dict -/
def rSetA : TSet := fun o i v H Q => rSetL o i v H Q ∨ rSetD o i v H Q
theorem set_any {X : Cx} (hu : X.A.units + 1 < cLine) : PSet X rSetA := fun pins s σ H o i v ov iv u Q I r1 r2 r3 h => h.elim (set_list pins s σ H o i v ov iv u Q I r1 r2 r3) (set_dict hu pins s σ H o i v ov iv u Q I r1 r2 r3)
theorem put_at {c c' q p : PV} {y v : V} {l : Addr} (hA : A l) (own : OwnAt K A H c l) (hq : BRep K A H q y) (hp : Rep K A H p v) (e : putAt c q p = some c') (Q : Hp → Prop)
    (h : ∀ o, OwnAt K A (upd H l o) c' l → Q (upd H l o)) : rSetA (.ref l) y v H Q := by
  unfold putAt at e
  split at e
  · rename_i xs k
    cases ej : ixOf xs.length k with
    | none => rw [ej] at e; cases e
    | some j =>
      rw [ej] at e
      cases e
      obtain ⟨us, h1, h2, h3⟩ := own
      refine .inl ⟨l, us, k, j, rfl, hq.int, h1, by rw [h2.length, ← ixOf_eq]; exact ej, h _ ⟨us.set j v, upd_same, reps_set (Reps.ext (same_upd (o := .lst (us.set j v)) hA h1 True.intro) h2) (hp.ext (same_upd (o := .lst (us.set j v)) hA h1 True.intro)) j, by rw [List.length_set]; exact h3⟩⟩
  · rename_i tk kvs
    split at e
    · rename_i hc
      cases e
      obtain ⟨hk, hl⟩ := hc
      refine .inr ?_
      rcases own with ⟨ht, ks, h1, h2⟩ | ⟨ht, ks, h1, h2⟩
      · subst ht
        obtain ⟨k, ek⟩ := Option.isSome_iff_exists.mp hk
        refine ⟨l, _, rfl, .inl ⟨ks, k, h1, brep_key ek hq, by rw [h2.len, ← line_eq]; exact hl, rfl⟩, h _ (.inl ⟨rfl, _, upd_same, repK_put ek (hp.ext (same_upd hA h1 True.intro)) (RepK.ext (same_upd hA h1 True.intro) h2)⟩)⟩
      · subst ht
        obtain ⟨k, ek⟩ := Option.isSome_iff_exists.mp hk
        obtain ⟨b, ey, eb⟩ := brep_tkey ek hq
        refine ⟨l, _, rfl, .inr ⟨ks, k, b, h1, ey, eb, by rw [h2.len, ← line_eq]; exact hl, rfl⟩, h _ (.inr ⟨rfl, _, upd_same, repT_put ek (hp.ext (same_upd hA h1 True.intro)) (RepT.ext (same_upd hA h1 True.intro) h2)⟩)⟩
    · cases e
  · cases e
end
section
variable {G : Gm} {ι : Type} {X : ι → Cx} {W : WX} {k : Nat} {e ix : Expr} {pa pi : PX} {pos : Pos}
theorem s_put (S : Sits G X k W) (i : Nat) {x : Str} {px ps1 : Pos} (he : XJ G X W Rep e pa) (hix : XJ G X W Rep ix pi) (hN : ∀ j, (X j).N[i]? = some x := by intro _; rfl) (hv : ∀ j, Vis (X j).env.scope x := by intro _; first | exact Or.inl rfl | exact Or.inr (Or.inl rfl) | exact Or.inr (Or.inr rfl))
    (hd : (x == ("__debug__" : Str)) = false := by decide) (hcd : (x == ("__classdict__" : Str)) = false := by decide)
    (ha : ∀ j v, assign (.Subscript (.Name x px) ix ps1) (X j).env v = (do
      let ov ← holding [v] (eval (.Name x px) (X j).env)
      let iv ← holding [v, ov] (eval ix (X j).env)
      standAt ps1
      holding [v, ov, iv] (setItem ov iv v)
      release [v, ov, iv] []) := by intro _ _; rfl)
    (hs : ∀ j, swapsWithSole [.Subscript (.Name x px) ix ps1] e pos.line (X j).env = pure false := by intro _; rfl) (hw : ∀ j, swappedStores [.Subscript (.Name x px) ix ps1] e (X j).env = pure none := by intro _; rfl)
    (h1 : ∀ j, (assignEach [.Subscript (.Name x px) ix ps1] (X j).env).map (·.2) = [assign (.Subscript (.Name x px) ix ps1) (X j).env] := by intro _; rfl) :
    S1 G X W (.Assign [.Subscript (.Name x px) ix ps1] e pos) (sPut i pi pa) := by
  obtain ⟨t, h3, h4⟩ := he
  obtain ⟨ti, h5, h6⟩ := hix
  refine ⟨_, fun j => ps_asg (h3 j) (pg_sub (pe_var (hN j) (hv j) hd hcd) (h5 j) (set_any (by have := (S.room j).un; omega)) (ha j)) (hs j) (hw j) (h1 j), fun F σ H env ts D st q => in_x st h4 ?_⟩
  unfold sPut at q
  cases ea : pa env with
  | bad => rw [ea] at q; exact q
  | exc x => rw [ea] at q; exact fun d H' s => q d σ H' s
  | ok c =>
    rw [ea] at q
    simp only [liftR_ok] at q
    intro y H1 st1
    split at q
    · rename_i b zs e0
      obtain ⟨O, st1⟩ := st1.ext
      obtain ⟨l, el, own1⟩ := st1.2.2.1.own i b _ e0
      refine ⟨.ref l, el, in_x st1.rep h6 ?_⟩
      cases ei : pi env with
      | bad => rw [ei] at q; exact q
      | exc x => rw [ei] at q; exact fun d H' s => q d σ H' s.drop
      | ok kv =>
        rw [ei] at q
        simp only [liftR_ok] at q
        split at q
        · rename_i c' ec
          intro u H2 st2
          obtain ⟨O2, st2⟩ := st2.ext
          obtain ⟨l2, el2, own2⟩ := st2.2.2.1.own i b _ e0
          have ell : l = l2 := by rw [el] at el2; cases el2; rfl
          subst ell
          have ru := st2.has (t := (u, kv)) List.mem_cons_self
          have ry := st2.has (t := (y, c)) (by simp)
          have hO : O2 l := st2.2.2.2.1 i b _ l e0 el
          refine put_at (.inl hO) own2 (.inl ru) ry ec _ fun o ow => q σ _ ?_
          refine StO.rep (O := O2) (StO.tmp (StO.write (p' := c') st2 e0 el ow) fun t ht => .inl (List.mem_cons_of_mem _ (List.mem_cons_of_mem _ ht)))
        · exact q.elim
    · exact q.elim
/-- {} -/
theorem f_dnewK : FJ G X W (.Dict [] [] pos) (pC (.dict false [])) := by
  refine ⟨_, fun i => pe_dnewK, fun A σ H env Q S q p hp => q _ _ (same_new hp _) ⟨p, rfl, hp, .inl ⟨rfl, [], upd_same, by rw [RepK]⟩⟩⟩
theorem f_dnewT : FJ G X W (.Dict [] [] pos) (pC (.dict true [])) := by
  refine ⟨_, fun i => pe_dnewT, fun A σ H env Q S q p hp => q _ _ (same_new hp _) ⟨p, rfl, hp, .inr ⟨rfl, [], upd_same, by rw [RepT]⟩⟩⟩
/-- what is never reached -/
theorem s_bad {st : Stmt} : S1 G X W st (fun _ => .bad) := ⟨fun _ _ _ => False, fun i => ⟨fun pins s σ H D I h => h.elim⟩, fun F σ H env ts D st q => q⟩
theorem ss_bad {sts : List Stmt} : SS G X W sts (fun _ => .bad) := ⟨fun _ _ _ => False, fun i => ⟨fun pins s σ H D I h => h.elim⟩, fun F σ H env ts D st q => q⟩
theorem x_bad {R : Fr → Av → Hp → PV → V → Prop} {e : Expr} : XJ G X W R e (fun _ => .bad) := ⟨fun _ _ _ => False, fun i => ⟨fun pins s σ H Q I h => h.elim⟩, fun A σ H env Q S q => q⟩
theorem t_bad {e : Expr} : TJ G X W e (fun _ => .bad) := ⟨fun _ _ _ => False, fun i => ⟨fun pins s σ H Q I h => h.elim⟩, fun A σ H env Q S q => q⟩
end
end Pv
end
section
set_option autoImplicit false
set_option Elab.async false
set_option linter.all false
set_option maxRecDepth 100000
/-! Two new things at once. -/
namespace Pv
open PySem PySem.Spec PyProof.Rows L2
variable [TN]
section
variable {G : Gm} {ι : Type} {X : ι → Cx} {W : WX} {k : Nat} {a b : Expr} {pa pb : PX} {ma : MX} {pos : Pos} {σ : St} {H H' : Hp} {env : Env} {F : Fp} {ts : List (V × PV)}
theorem SRep.more {K : Fr} {A : Av} {c : Addr} (h : SRep K A σ H env) (s : Same H H') (hn : H c = none) (hl : H' c ≠ none) (hc : ∀ q, H' c ≠ some (LamX.CodeO c q)) : SRep K (fun z => A z ∨ z = c) σ H' env := by
  have ex : Ext A (fun z => A z ∨ z = c) H H' := ⟨fun z q => q.imp id fun q => by rw [q]; exact hn, fun z o q _ => s z o q⟩
  refine ⟨fun z q => q.elim (fun q => same_live s h.live z q) fun q => by rw [q]; exact hl, h.len, fun j q e => ?_, fun j c q e => ?_, (h.tabs.same h.live s).add hc fun a z => z⟩
  · obtain ⟨y, f1, f2⟩ := h.slot j q e
    exact ⟨y, f1, f2.ext ex⟩
  · obtain ⟨y, f1, f2⟩ := h.own j c q e
    refine ⟨y, f1, ?_⟩
    cases q with
    | list zs => obtain ⟨us, u1, u2, u3⟩ := f2; exact ⟨us, s _ _ u1, Reps.ext ex u2, u3⟩
    | dict tk zs =>
      rcases f2 with ⟨ht, us, u1, u2⟩ | ⟨ht, us, u1, u2⟩
      · exact .inl ⟨ht, us, s _ _ u1, RepK.ext ex u2⟩
      · exact .inr ⟨ht, us, s _ _ u1, RepT.ext ex u2⟩
    | _ => exact f2.elim
theorem own_live {K : Fr} {A : Av} {c : Addr} {p : PV} (h : OwnAt K A H p c) : H c ≠ none := by
  cases p with
  | list _ => obtain ⟨_, e, _⟩ := h; rw [e]; exact Option.some_ne_none _
  | dict _ _ => rcases h with ⟨_, _, e, _⟩ | ⟨_, _, e, _⟩ <;> rw [e] <;> exact Option.some_ne_none _
  | _ => exact h.elim
theorem excRep_less {K : Fr} {A A' : Av} {d : Option Addr} {fs : List (String × PV)} (l : ∀ z, A' z → A z) (h : ExcRep K A H d fs) : ExcRep K A' H d fs := fun nz =>
  let ⟨a, m, f1, f2, f3, f4⟩ := h nz
  ⟨a, m, f1, fun z => f2 (l _ z), f3, fun f p fp => let ⟨v, g1, g2⟩ := f4 f p fp; ⟨v, g1, g2.ext (.less l)⟩⟩
theorem sparOO (S : Sits G X k W) (i j : Nat) {x y : Str} {px py pt pt2 : Pos} {kt k2 : Nat} (ha : FJ G X W a pa) (hb : FJ G X W b pb) (hi : ∀ m, (X m).N[i]? = some x := by intro _; rfl) (hj : ∀ m, (X m).N[j]? = some y := by intro _; rfl) (hij : i ≠ j := by decide)
    (hx : ∀ m, (X m).env.scope.names.lookup x = some .local := by intro _; rfl) (hy : ∀ m, (X m).env.scope.names.lookup y = some .local := by intro _; rfl)
    (hw : ∀ m, swappedStores [.Tuple [.Name x px, .Name y py] kt pt] (.Tuple [a, b] k2 pt2) (X m).env = pure (some [x, y]) := by intro _; rfl)
    (hs : ∀ m, swapsWithSole [.Tuple [.Name x px, .Name y py] kt pt] (.Tuple [a, b] k2 pt2) pos.line (X m).env = pure false := by intro _; rfl)
    (h1 : ∀ m, starEach [a, b] (X m).env = (false, eval a (X m).env) :: starEach [b] (X m).env := by intro _; rfl) (h2 : ∀ m, starEach [b] (X m).env = (false, eval b (X m).env) :: starEach [] (X m).env := by intro _; rfl) :
    S1 G X W (.Assign [.Tuple [.Name x px, .Name y py] kt pt] (.Tuple [a, b] k2 pt2) pos) (sParOO i j pa pb) := by
  obtain ⟨ta, ha, ha'⟩ := ha
  obtain ⟨tb, hb, hb'⟩ := hb
  refine ⟨_, fun m => ps_par (S.calm m) (S.nd m) (hi m) (hj m) hij (hx m) (hy m) (pa_cons (ha m) (pa_cons (hb m) pa_nil (h2 m)) (h1 m)) (hw m) (hs m), fun F σ H env ts D st q => ?_⟩
  have st0 := st
  obtain ⟨O, st⟩ := st.ext
  refine ha' _ σ H env _ st.2.2.1 ?_
  unfold sParOO at q
  cases ea : pa env with
  | bad => rw [ea] at q; exact q
  | exc x =>
    rw [ea] at q
    intro d H' s ex
    exact q d σ H' (st0.same s) (excRep_less (fun _ z => .inr z) ex)
  | ok c =>
    rw [ea] at q
    simp only [liftR_ok] at q
    intro y1 H1 s1 ⟨a1, e1, n1, o1⟩
    refine hb' _ σ H1 env _ (SRep.more st.2.2.1 s1 n1 (own_live o1) (let ⟨_, e1, e2⟩ := o1.pl; pl_nc e1 e2)) ?_
    cases eb : pb env with
    | bad => rw [eb] at q; exact q
    | exc x =>
      rw [eb] at q
      intro d H' s ex
      exact q d σ H' (st0.same (s1.trans s)) (excRep_less (fun _ z => .inl (.inr z)) ex)
    | ok c2 =>
      rw [eb] at q
      simp only [liftR_ok] at q
      intro y2 H2 s2 ⟨a2, e2, n2, o2⟩
      refine ⟨y1, y2, rfl, ?_⟩
      by_cases hi' : i < env.length
      · have st1 := StO.own1 st s1 e1 n1 o1 hi'
        by_cases hj' : j < env.length
        · refine q _ H2 (StO.own st1 s2 e2 n2 ?_ (by simpa using hj'))
          have e : (fun z => ((O z ∨ z = a1) ∨ F.B z) ∨ z = a2) = (fun z => ((O z ∨ F.B z) ∨ z = a1) ∨ z = a2) := by
            funext z
            exact propext ⟨fun h => by rcases h with ((h | h) | h) | h <;> simp [h], fun h => by rcases h with ((h | h) | h) | h <;> simp [h]⟩
          rw [e]; exact o2
        · refine q _ H2 ?_
          rw [List.set_eq_of_length_le (show (σ.set i (some y1)).length ≤ j by rw [List.length_set, st.2.2.1.len]; exact Nat.le_of_not_lt hj'), List.set_eq_of_length_le (show (env.set i (Sl.o false c)).length ≤ j by rw [List.length_set]; exact Nat.le_of_not_lt hj')]
          exact (StO.rep st1).same s2
      · refine q _ H2 ?_
        rw [List.set_eq_of_length_le (show σ.length ≤ i by rw [st.2.2.1.len]; exact Nat.le_of_not_lt hi'), List.set_eq_of_length_le (show env.length ≤ i from Nat.le_of_not_lt hi')]
        by_cases hj' : j < env.length
        · have o2' : OwnAt G.F (fun z => (O z ∨ F.B z) ∨ z = a2) H2 c2 a2 := by
            have ex : Ext (fun z => ((O z ∨ F.B z) ∨ z = a1) ∨ z = a2) (fun z => (O z ∨ F.B z) ∨ z = a2) H2 H2 := .less fun z q => q.elim (fun q => .inl (.inl q)) .inr
            cases c2 with
            | list zs => obtain ⟨us, u1, u2, u3⟩ := o2; exact ⟨us, u1, Reps.ext ex u2, u3⟩
            | dict tk zs =>
              rcases o2 with ⟨ht, us, u1, u2⟩ | ⟨ht, us, u1, u2⟩
              · exact .inl ⟨ht, us, u1, RepK.ext ex u2⟩
              · exact .inr ⟨ht, us, u1, RepT.ext ex u2⟩
            | _ => exact o2.elim
          exact StO.own (st.same s1) s2 e2 n2 o2' hj'
        · rw [List.set_eq_of_length_le (show σ.length ≤ j by rw [st.2.2.1.len]; exact Nat.le_of_not_lt hj'), List.set_eq_of_length_le (show env.length ≤ j from Nat.le_of_not_lt hj')]
          exact st0.same (s1.trans s2)
theorem sparMO (S : Sits G X k W) (i j : Nat) {x y : Str} {px py pt pt2 : Pos} {kt k2 : Nat} (ha : MJ G X W a ma) (hb : FJ G X W b pb) (hi : ∀ m, (X m).N[i]? = some x := by intro _; rfl) (hj : ∀ m, (X m).N[j]? = some y := by intro _; rfl) (hij : i ≠ j := by decide)
    (hx : ∀ m, (X m).env.scope.names.lookup x = some .local := by intro _; rfl) (hy : ∀ m, (X m).env.scope.names.lookup y = some .local := by intro _; rfl)
    (hw : ∀ m, swappedStores [.Tuple [.Name x px, .Name y py] kt pt] (.Tuple [a, b] k2 pt2) (X m).env = pure (some [x, y]) := by intro _; rfl)
    (hs : ∀ m, swapsWithSole [.Tuple [.Name x px, .Name y py] kt pt] (.Tuple [a, b] k2 pt2) pos.line (X m).env = pure false := by intro _; rfl)
    (h1 : ∀ m, starEach [a, b] (X m).env = (false, eval a (X m).env) :: starEach [b] (X m).env := by intro _; rfl) (h2 : ∀ m, starEach [b] (X m).env = (false, eval b (X m).env) :: starEach [] (X m).env := by intro _; rfl) :
    S1 G X W (.Assign [.Tuple [.Name x px, .Name y py] kt pt] (.Tuple [a, b] k2 pt2) pos) (sParMO i j ma pb) := by
  obtain ⟨ta, ha, ha'⟩ := ha
  obtain ⟨tb, hb, hb'⟩ := hb
  refine ⟨_, fun m => ps_par (S.calm m) (S.nd m) (hi m) (hj m) hij (hx m) (hy m) (pa_cons (ha m) (pa_cons (hb m) pa_nil (h2 m)) (h1 m)) (hw m) (hs m), fun F σ H env ts D st q => ha' F σ H env ts _ st ?_⟩
  unfold sParMO bindM at q
  cases ea : ma env with
  | bad => rw [ea] at q; exact q
  | exc x e => rw [ea] at q; exact fun d H' s => q d σ H' s
  | ok c env1 =>
    rw [ea] at q
    simp only at q
    intro y1 H1 st1
    have st1' := st1
    obtain ⟨O, st1⟩ := st1.ext
    refine hb' _ σ H1 env1 _ st1.2.2.1 ?_
    cases eb : pb env1 with
    | bad => rw [eb] at q; exact q
    | exc x =>
      rw [eb] at q
      intro d H' s ex
      exact q d σ H' (st1'.drop.same s) (excRep_less (fun _ z => .inr z) ex)
    | ok c2 =>
      rw [eb] at q
      simp only [liftR_ok] at q
      intro y2 H2 s2 ⟨a2, e2, n2, o2⟩
      refine ⟨y1, y2, rfl, ?_⟩
      rw [List.set_comm _ _ hij]
      rw [List.set_comm _ _ hij] at q
      refine q _ H2 (StRep.put ?_)
      by_cases hj' : j < env1.length
      · exact StO.own st1 s2 e2 n2 o2 hj'
      · rw [List.set_eq_of_length_le (show σ.length ≤ j by rw [st1.2.2.1.len]; exact Nat.le_of_not_lt hj'), List.set_eq_of_length_le (show env1.length ≤ j from Nat.le_of_not_lt hj')]
        exact st1'.same s2
end
end Pv
end
section
set_option autoImplicit false
set_option Elab.async false
set_option linter.all false
set_option maxRecDepth 100000
/-! tuple(range(..)), list(range(..)); functions that change what they are lent. -/
namespace Pv
open PySem PySem.Spec PyProof.Rows L2
variable [TN]
section
variable {K : Fr} {A : Av} {H : Hp}
theorem reps_ints (lo : Int) : ∀ l : List Nat, Reps K A H (l.map fun (k : Nat) => .int (lo + (k : Int))) (l.map fun (k : Nat) => V.int (lo + (k : Int)))
  | [] => by rw [List.map_nil, List.map_nil, Reps]
  | k :: l => by rw [List.map_cons, List.map_cons, Reps]; exact ⟨_, _, rfl, by rw [Rep], reps_ints lo l⟩
theorem rangeOf1 {a : PV} {ps : List PV} (h : rangeOf [a] = some ps) : ∃ j : Int, a = .int j ∧ RgOk 0 j ∧ ps = intsFrom 0 j.toNat ∧ ps.length ≤ line := by
  cases a with
  | int j =>
    simp only [rangeOf] at h
    split at h
    · rename_i hj
      cases h
      refine ⟨j, rfl, ⟨by omega, by omega, by omega, by omega, by omega⟩, rfl, ?_⟩
      unfold intsFrom line
      rw [List.length_map, List.length_range]
      omega
    · cases h
  | _ => cases h
theorem reps_rg (j : Int) : Reps K A H (intsFrom 0 j.toNat) (rgV 0 j) := by
  unfold rgV intsFrom
  rw [show (j - 0).toNat = j.toNat by rw [Int.sub_zero]]
  exact reps_ints 0 _
end
section
variable {G : Gm} {ι : Type} {X : ι → Cx} {W : WX} {k : Nat} {a : Expr} {pa : PX} {ma : MX} {pos : Pos}
theorem x_tupR {p p2 rpos : Pos} (S : Sits G X k W) (ht : G.mg "tuple" = none) (hr : G.mg "range" = none) (ha : XJ G X W BRep a pa) (hgt : ∀ i, Gl (X i) "tuple" := by intro _; rfl) (hgr : ∀ i, Gl (X i) "range" := by intro _; rfl)
    (h1 : ∀ i, starEach [.Call (.Name "range" p2) [a] [] rpos] (X i).env = (false, eval (.Call (.Name "range" p2) [a] [] rpos) (X i).env) :: starEach [] (X i).env := by intro _; rfl)
    (h2 : ∀ i, starEach [a] (X i).env = (false, eval a (X i).env) :: starEach [] (X i).env := by intro _; rfl) : XJ G X W Rep (.Call (.Name "tuple" p) [.Call (.Name "range" p2) [a] [] rpos] [] pos) (p1 fTupR pa) := by
  obtain ⟨ta, h3, h4⟩ := ha
  refine ⟨_, fun i => pe_tupRg (S.calm i) (hgt i) (by rw [S.mg i]; exact ht) (prg_1 (hgr i) (by rw [S.mg i]; exact hr) (h3 i) (h2 i)) (h1 i), fun A σ H env Q SS q => h4 A σ H env _ SS ?_⟩
  unfold p1 at q
  cases ea : pa env with
  | bad => rw [ea] at q; exact q
  | exc x => rw [ea] at q; exact q
  | ok c =>
    rw [ea] at q
    simp only [Rp.ok_bind] at q
    intro x H1 s1 r1
    cases er : rangeOf [c] with
    | none => simp only [fTupR, er, Option.map_none] at q; exact q.elim
    | some ps =>
      simp only [fTupR, er, Option.map_some] at q
      obtain ⟨j, rfl, ok, rfl, hl⟩ := rangeOf1 er
      refine ⟨j, r1.int, ok, fun w hw => q _ _ (s1.trans (same_new hw _)) ?_⟩
      show Rep G.F A _ (.tuple (intsFrom 0 j.toNat)) _
      rw [Rep]
      exact ⟨w, _, rfl, ⟨fun z => same_live s1 SS.live w z hw, upd_same⟩, reps_rg j, hl⟩
theorem m_tupR {p p2 rpos : Pos} (S : Sits G X k W) (ht : G.mg "tuple" = none) (hr : G.mg "range" = none) (ha : MJ G X W a ma) (hgt : ∀ i, Gl (X i) "tuple" := by intro _; rfl) (hgr : ∀ i, Gl (X i) "range" := by intro _; rfl)
    (h1 : ∀ i, starEach [.Call (.Name "range" p2) [a] [] rpos] (X i).env = (false, eval (.Call (.Name "range" p2) [a] [] rpos) (X i).env) :: starEach [] (X i).env := by intro _; rfl)
    (h2 : ∀ i, starEach [a] (X i).env = (false, eval a (X i).env) :: starEach [] (X i).env := by intro _; rfl) : MJ G X W (.Call (.Name "tuple" p) [.Call (.Name "range" p2) [a] [] rpos] [] pos) (mk1 fTupR ma) := by
  obtain ⟨ta, h3, h4⟩ := ha
  refine ⟨_, fun i => pe_tupRg (S.calm i) (hgt i) (by rw [S.mg i]; exact ht) (prg_1 (hgr i) (by rw [S.mg i]; exact hr) (h3 i) (h2 i)) (h1 i), fun F σ H env ts Q st q => h4 F σ H env ts _ st (MEnd.bind q fun c env1 ea q1 x H1 st1 => ?_)⟩
  cases er : rangeOf [c] with
  | none => simp only [mOpt, fTupR, er, Option.map_none] at q1; exact q1.elim
  | some ps =>
    simp only [mOpt, fTupR, er, Option.map_some] at q1
    obtain ⟨j, rfl, ok, rfl, hl⟩ := rangeOf1 er
    obtain ⟨O, st1⟩ := st1.ext
    have rx := st1.has (t := (x, .int j)) List.mem_cons_self
    simp only [Rep] at rx
    refine ⟨j, rx, ok, fun w hw => q1 _ _ (StO.rep (O := O) (StO.tmp (st1.same (same_new hw _)) fun t ht => ?_))⟩
    rcases List.mem_cons.mp ht with rfl | ht
    · refine .inr ?_
      rw [Rep]
      exact ⟨w, _, rfl, ⟨fun z => st1.live w z hw, upd_same⟩, reps_rg j, hl⟩
    · exact .inl (List.mem_cons_of_mem _ ht)
theorem f_lstR {p p2 rpos : Pos} (S : Sits G X k W) (ht : G.mg "list" = none) (hr : G.mg "range" = none) (ha : XJ G X W BRep a pa) (hgt : ∀ i, Gl (X i) "list" := by intro _; rfl) (hgr : ∀ i, Gl (X i) "range" := by intro _; rfl)
    (h1 : ∀ i, starEach [.Call (.Name "range" p2) [a] [] rpos] (X i).env = (false, eval (.Call (.Name "range" p2) [a] [] rpos) (X i).env) :: starEach [] (X i).env := by intro _; rfl)
    (h2 : ∀ i, starEach [a] (X i).env = (false, eval a (X i).env) :: starEach [] (X i).env := by intro _; rfl) : FJ G X W (.Call (.Name "list" p) [.Call (.Name "range" p2) [a] [] rpos] [] pos) (p1 fLstR pa) := by
  obtain ⟨ta, h3, h4⟩ := ha
  refine ⟨_, fun i => pe_listRg (S.calm i) (hgt i) (by rw [S.mg i]; exact ht) (prg_1 (hgr i) (by rw [S.mg i]; exact hr) (h3 i) (h2 i)) (h1 i), fun A σ H env Q SS q => h4 A σ H env _ SS ?_⟩
  unfold p1 at q
  cases ea : pa env with
  | bad => rw [ea] at q; exact q
  | exc x => rw [ea] at q; exact q
  | ok c =>
    rw [ea] at q
    simp only [Rp.ok_bind] at q
    intro x H1 s1 r1
    cases er : rangeOf [c] with
    | none => simp only [fLstR, er, Option.map_none] at q; exact q.elim
    | some ps =>
      simp only [fLstR, er, Option.map_some] at q
      obtain ⟨j, rfl, ok, rfl, hl⟩ := rangeOf1 er
      exact ⟨j, r1.int, ok, fun w hw => q _ _ (s1.trans (same_new hw _)) (fr_new (same_live s1 SS.live) s1 hw (reps_rg j) hl)⟩
end
/-! ### functions that change what they are lent -/
theorem FnThere.hasIO {G : Gm} {x : Str} {ps : List Str} {st : Stmt} {N : List Str} {n nn k : Nat} {m : SM} (t : FnThere G x ps st) (Sc : FnScope N ps (defScope st)) (hps : ps.length = n) (hN : N.length = nn)
    (hb : ∀ {f : Addr} (cdv : Value) (A : Around) (outer : List PySem.Env) (s : Shared) (H : Hp) (E : XK), Sits G (bodyX G N x (defScope st) f cdv A outer s H E) k (bodyW E) → SS G (bodyX G N x (defScope st) f cdv A outer s H E) (bodyW E) (defBody st) m) :
    FnHas G (k + 1) x ps (spM G n (runIO nn m)) := by
  obtain ⟨f, fd, F, hm, hbd⟩ := t
  exact ⟨f, fd, fn_io F Sc hps hN (fun cdv A outer s H E S => hb cdv A outer s H E S), hm, F.kp, hbd⟩
theorem FnThere.noneIO {G : Gm} {x : Str} {ps : List Str} {st : Stmt} {n : Nat} (t : FnThere G x ps st) (hps : ps.length = n) : FnHas G 0 x ps (spM G n fun _ => .bad) := by
  obtain ⟨f, fd, F, hm, hbd⟩ := t
  refine ⟨f, fd, ⟨fun vs H Q E h => by rw [h.1, hps], fun A outer s H args us vs Q E _ _ _ _ h => ?_⟩, hm, F.kp, hbd⟩
  obtain ⟨_, _, _, _, _, h⟩ := h
  exact h.elim
end Pv
end
section
set_option autoImplicit false
set_option Elab.async false
set_option linter.all false
set_option maxRecDepth 100000
/-! for over a value whose making changes what the frame holds; two new things, by a tuple. -/
namespace Pv
open PySem PySem.Spec PyProof.Rows L2
variable [TN]
section
variable {G : Gm} {ι : Type} {X : ι → Cx} {W : WX} {k : Nat} {a b iter tg : Expr} {pa pb : PX} {ma : MX} {pos : Pos} {m : SM}
theorem s_forM {g : GX} {ts' : List Nat} {body : List Stmt} (S : Sits G X k W) (ha : MJ G X W iter ma) (hgt : GJ G X tg g ts') (hb : SS G X W body m)
    (hfs : ∀ j x, foldedSetIterable iter (X j).env x = pure x := by intro _ _; rfl) {fpos : Pos} :
    S1 G X W (.For tg iter body [] fpos) (sForM (bindM ma fun x => mOpt (seqOf x)) g m) := by
  obtain ⟨t, h2, h3⟩ := ha
  obtain ⟨gt, g1, g2⟩ := hgt
  obtain ⟨tb, b1, b2⟩ := hb
  have hp : ∀ j, PI (X j) tg iter (fun σ H R => iList G.K t σ H R ∨ iTup G.K t σ H R) := fun j => by
    have := pi_or (pi_list (tg := tg) (h2 j)) (pi_tup (h2 j))
    rw [S.K j] at this
    exact this
  refine ⟨_, fun j => ps_for (S.pass j) (S.calm j) (hp j) (g1 j) (b1 j) (hfs j), fun F σ H env ts D st q => ?_⟩
  unfold sForM bindM at q
  cases ea : ma env with
  | bad => rw [ea] at q; exact q.elim
  | exc x e => rw [ea] at q; exact .inl (h3 F σ H env ts _ st (by rw [ea]; exact fun d H' s => q d σ H' s))
  | ok u env1 =>
    rw [ea] at q
    simp only at q
    cases u with
    | list ps =>
      refine .inl (h3 F σ H env ts _ st ?_)
      rw [ea]
      intro x H1 st1
      obtain ⟨O, st1⟩ := st1.ext
      have r := st1.has (t := (x, .list ps)) List.mem_cons_self
      rw [Rep] at r
      obtain ⟨l, xs, rfl, r3, r4, hz⟩ := r
      exact ⟨l, rfl, ⟨xs, r3.sq⟩, for_core (StO.tmp st1 fun t ht => .inl (List.mem_cons_of_mem _ ht)) (walk_seqL r3 r4 hz) g2 b2 q⟩
    | tuple ps =>
      refine .inr (h3 F σ H env ts _ st ?_)
      rw [ea]
      intro x H1 st1
      obtain ⟨O, st1⟩ := st1.ext
      have r := st1.has (t := (x, .tuple ps)) List.mem_cons_self
      rw [Rep] at r
      obtain ⟨l, xs, rfl, r3, r4, hz⟩ := r
      exact ⟨l, rfl, ⟨xs, r3.sq⟩, for_core (StO.tmp st1 fun t ht => .inl (List.mem_cons_of_mem _ ht)) (walk_seqT r3 r4 hz) g2 b2 q⟩
    | _ => exact q.elim
/-- cells are set through a tuple -/
theorem sparOOc (S : Sits G X k W) (i j : Nat) {x y : Str} {px py pt pt2 : Pos} {kt k2 : Nat} (ha : FJ G X W a pa) (hb : FJ G X W b pb) (hi : ∀ m, (X m).N[i]? = some x := by intro _; rfl) (hj : ∀ m, (X m).N[j]? = some y := by intro _; rfl)
    (hx : ∀ j, Loc (X j).env.scope x := by intro _; first | exact Or.inl rfl | exact Or.inr rfl) (hf : ∀ j, (X j).fn x = true ∨ (X j).env.scope.names.lookup x = some .local := by intro _; first | exact Or.inl rfl | exact Or.inr rfl)
    (hy : ∀ j, Loc (X j).env.scope y := by intro _; first | exact Or.inl rfl | exact Or.inr rfl) (hfy : ∀ j, (X j).fn y = true ∨ (X j).env.scope.names.lookup y = some .local := by intro _; first | exact Or.inl rfl | exact Or.inr rfl)
    (hs : ∀ j, swapsWithSole [.Tuple [.Name x px, .Name y py] kt pt] (.Tuple [a, b] k2 pt2) pos.line (X j).env = pure false := by intro _; rfl) (hw : ∀ j, swappedStores [.Tuple [.Name x px, .Name y py] kt pt] (.Tuple [a, b] k2 pt2) (X j).env = pure none := by intro _; rfl)
    (h1 : ∀ j, (assignEach [.Tuple [.Name x px, .Name y py] kt pt] (X j).env).map (·.2) = [assign (.Tuple [.Name x px, .Name y py] kt pt) (X j).env] := by intro _; rfl)
    (hn : ∀ i, (assignEach [.Name x px, .Name y py] (X i).env).length = 2 := by intro _; rfl) (hst : ∀ i, (assignEach [.Name x px, .Name y py] (X i).env).findIdx? (·.1) = none := by intro _; rfl)
    (hs1 : ∀ j, (assignEach [.Name x px, .Name y py] (X j).env).map (·.2) = assign (.Name x px) (X j).env :: (assignEach [.Name y py] (X j).env).map (·.2) := by intro _; rfl)
    (hs2 : ∀ j, (assignEach [.Name y py] (X j).env).map (·.2) = assign (.Name y py) (X j).env :: (assignEach [] (X j).env).map (·.2) := by intro _; rfl)
    (h2 : ∀ m, starEach [a, b] (X m).env = (false, eval a (X m).env) :: starEach [b] (X m).env := by intro _; rfl) (h3 : ∀ m, starEach [b] (X m).env = (false, eval b (X m).env) :: starEach [] (X m).env := by intro _; rfl) :
    S1 G X W (.Assign [.Tuple [.Name x px, .Name y py] kt pt] (.Tuple [a, b] k2 pt2) pos) (sParOO i j pa pb) := by
  obtain ⟨ta, ha, ha'⟩ := ha
  obtain ⟨tb, hb, hb'⟩ := hb
  have hg : ∀ m, PG (X m) (.Tuple [.Name x px, .Name y py] kt pt) (gTup G.K 2 (L2.gCons (gName i) (L2.gCons (gName j) L2.gNil))) := fun m => by
    have := pg_tup (k := kt) (pos := pt) (n := 2) (S.calm m) (pgs_cons (pg_name (pos := px) (S.nd m) (hi m) (hx m) (hf m)) (pgs_cons (pg_name (pos := py) (S.nd m) (hj m) (hy m) (hfy m)) pgs_nil (hs2 m)) (hs1 m)) (hn m) (hst m)
    rw [S.K m] at this
    exact this
  refine ⟨_, fun m => ps_asg (pe_tup (pa_cons (ha m) (pa_cons (hb m) pa_nil (h3 m)) (h2 m))) (hg m) (hs m) (hw m) (h1 m), fun F σ H env ts D st q => ?_⟩
  have st0 := st
  obtain ⟨O, st⟩ := st.ext
  refine ha' _ σ H env _ st.2.2.1 ?_
  unfold sParOO at q
  cases ea : pa env with
  | bad => rw [ea] at q; exact q
  | exc x =>
    rw [ea] at q
    intro d H' s ex
    exact q d σ H' (st0.same s) (excRep_less (fun _ z => .inr z) ex)
  | ok c =>
    rw [ea] at q
    simp only [liftR_ok] at q
    intro y1 H1 s1 ⟨a1, e1, n1, o1⟩
    refine hb' _ σ H1 env _ (SRep.more st.2.2.1 s1 n1 (own_live o1) (let ⟨_, e1, e2⟩ := o1.pl; pl_nc e1 e2)) ?_
    cases eb : pb env with
    | bad => rw [eb] at q; exact q
    | exc x =>
      rw [eb] at q
      intro d H' s ex
      exact q d σ H' (st0.same (s1.trans s)) (excRep_less (fun _ z => .inl (.inr z)) ex)
    | ok c2 =>
      rw [eb] at q
      simp only [liftR_ok] at q
      intro y2 H2 s2 ⟨a2, e2, n2, o2⟩
      refine ⟨by rw [List.length_cons, List.length_cons, List.length_nil, sizeLine_eq]; decide, fun w hw => ⟨w, [y1, y2], rfl, .of upd_same, rfl, y1, [y2], rfl, y2, [], rfl, rfl, ?_⟩⟩
      have s3 : Same H2 (upd H2 w (.tup [y1, y2])) := same_new hw _
      by_cases hi' : i < env.length
      · have st1 := StO.own1 st s1 e1 n1 o1 hi'
        by_cases hj' : j < env.length
        · refine q _ _ (StRep.same (StO.own st1 s2 e2 n2 ?_ (by simpa using hj')) s3)
          have e : (fun z => ((O z ∨ z = a1) ∨ F.B z) ∨ z = a2) = (fun z => ((O z ∨ F.B z) ∨ z = a1) ∨ z = a2) := by
            funext z
            exact propext ⟨fun h => by rcases h with ((h | h) | h) | h <;> simp [h], fun h => by rcases h with ((h | h) | h) | h <;> simp [h]⟩
          rw [e]; exact o2
        · refine q _ _ ?_
          rw [List.set_eq_of_length_le (show (σ.set i (some y1)).length ≤ j by rw [List.length_set, st.2.2.1.len]; exact Nat.le_of_not_lt hj'), List.set_eq_of_length_le (show (env.set i (Sl.o false c)).length ≤ j by rw [List.length_set]; exact Nat.le_of_not_lt hj')]
          exact ((StO.rep st1).same s2).same s3
      · refine q _ _ ?_
        rw [List.set_eq_of_length_le (show σ.length ≤ i by rw [st.2.2.1.len]; exact Nat.le_of_not_lt hi'), List.set_eq_of_length_le (show env.length ≤ i from Nat.le_of_not_lt hi')]
        by_cases hj' : j < env.length
        · have o2' : OwnAt G.F (fun z => (O z ∨ F.B z) ∨ z = a2) H2 c2 a2 := by
            have ex : Ext (fun z => ((O z ∨ F.B z) ∨ z = a1) ∨ z = a2) (fun z => (O z ∨ F.B z) ∨ z = a2) H2 H2 := .less fun z q => q.elim (fun q => .inl (.inl q)) .inr
            cases c2 with
            | list zs => obtain ⟨us, u1, u2, u3⟩ := o2; exact ⟨us, u1, Reps.ext ex u2, u3⟩
            | dict tk zs =>
              rcases o2 with ⟨ht, us, u1, u2⟩ | ⟨ht, us, u1, u2⟩
              · exact .inl ⟨ht, us, u1, RepK.ext ex u2⟩
              · exact .inr ⟨ht, us, u1, RepT.ext ex u2⟩
            | _ => exact o2.elim
          exact (StO.own (st.same s1) s2 e2 n2 o2' hj').same s3
        · rw [List.set_eq_of_length_le (show σ.length ≤ j by rw [st.2.2.1.len]; exact Nat.le_of_not_lt hj'), List.set_eq_of_length_le (show env.length ≤ j from Nat.le_of_not_lt hj')]
          exact st0.same ((s1.trans s2).trans s3)
/-! ### a[b] of lists, tuples, dicts -/
theorem x_sub (S : Sits G X k W) (ha : XJ G X W BRep a pa) (hb : XJ G X W BRep b pb) (hs : PlainIx b) : XJ G X W Rep (.Subscript a b pos) (p2 oSub pa pb) :=
  x_ix (r := fun x y H Q => rIxS2 G.K x y H Q ∨ rDGet x y H Q) (OpJ.or j_ix j_dget) (fun i => IxR.or (by rw [← S.K i]; exact ix_S2) (ix_dict (by have := (S.room i).un; omega))) ha hb hs
theorem m_sub {ma mb : MX} (S : Sits G X k W) (ha : MJ G X W a ma) (hb : MJ G X W b mb) (hs : PlainIx b) : MJ G X W (.Subscript a b pos) (mk2 oSub ma mb) :=
  m_ix (r := fun x y H Q => rIxS2 G.K x y H Q ∨ rDGet x y H Q) (OpJ.or j_ix j_dget) (fun i => IxR.or (by rw [← S.K i]; exact ix_S2) (ix_dict (by have := (S.room i).un; omega))) ha hb hs
end
end Pv
end
section
set_option autoImplicit false
set_option Elab.async false
set_option linter.all false
set_option maxRecDepth 100000
/-! for over the keys of a dict, which is locked meanwhile. -/
namespace Pv
open PySem PySem.Spec PyProof.Rows L2
variable [TN]
section
variable {K : Fr} {A : Av} {H H' : Hp}
def nofrz (u : HO) : Prop := ∀ o v, u ≠ .frz o v
structure Rkp (A : Av) (H H' : Hp) : Prop where
  rd : ∀ a w, ¬ A a → nofrz w → Rd H a w → Rd H' a w
  tp : ∀ a xs, ¬ A a → H a = some (.tup xs) → H' a = some (.tup xs)
  ex : ∀ a φ, H a = some (.ext φ) → H' a = some (.ext φ)
mutual
theorem Rep.rkp (e : Rkp A H H') : ∀ {p : PV} {x : V}, Rep K A H p x → Rep K A H' p x
  | .none, _, h => h
  | .bool _, _, h => h
  | .int _, _, h => h
  | .str _, _, h => h
  | .list ps, x, h => by
    rw [Rep] at h ⊢
    obtain ⟨a, xs, e1, hl, hr, hz⟩ := h
    exact ⟨a, xs, e1, hl.elim (fun h => .inl ⟨h.1, e.rd a _ h.1 (fun _ _ z => by cases z) h.2⟩) .inr, Reps.rkp e hr, hz⟩
  | .tuple ps, x, h => by
    rw [Rep] at h ⊢
    obtain ⟨a, xs, e1, hl, hr, hz⟩ := h
    exact ⟨a, xs, e1, ⟨hl.1, e.tp a xs hl.1 hl.2⟩, Reps.rkp e hr, hz⟩
  | .dict tk kvs, x, h => by
    rw [Rep] at h ⊢
    obtain ⟨a, e1, hn, ⟨ht, ks, r, q⟩ | ⟨ht, ks, r, q⟩⟩ := h
    · exact ⟨a, e1, hn, .inl ⟨ht, ks, e.rd a _ hn (fun _ _ z => by cases z) r, RepK.rkp e q⟩⟩
    · exact ⟨a, e1, hn, .inr ⟨ht, ks, e.rd a _ hn (fun _ _ z => by cases z) r, RepT.rkp e q⟩⟩
  | .fn i (q :: qs), x, h => by
    rw [Rep] at h ⊢
    obtain ⟨a, l, e1, h1, h2⟩ := h
    refine ⟨a, l, e1, fun p hp => ?_, h2⟩
    obtain ⟨n1, ⟨φ, n2⟩, n3⟩ := h1 p hp
    refine ⟨n1, ⟨φ, n2⟩, ?_⟩
    rw [n2] at n3 ⊢
    exact e.ex _ _ n3
  | .fn i [], x, h => by
    rw [Rep] at h ⊢
    obtain ⟨a, c, dv, pm, ctv, e1, n1, n2, h1, h2, h3⟩ := h
    refine ⟨a, c, dv, pm, ctv, e1, n1, n2, e.ex a _ h1, e.ex c _ h2, ?_⟩
    revert h3
    cases (K.L i).dfl with
    | false => exact fun h3 => h3
    | true => exact fun ⟨d, q1, q2, q3⟩ => ⟨d, q1, q2, e.tp d _ q2 q3⟩
theorem Reps.rkp (e : Rkp A H H') : ∀ {ps : List PV} {xs : List V}, Reps K A H ps xs → Reps K A H' ps xs
  | [], _, h => by rw [Reps] at h ⊢; exact h
  | p :: ps, xs, h => by
    rw [Reps] at h ⊢
    obtain ⟨x, r, e1, h1, h2⟩ := h
    exact ⟨x, r, e1, Rep.rkp e h1, Reps.rkp e h2⟩
theorem RepK.rkp (e : Rkp A H H') : ∀ {ps : List (PV × PV)} {xs : List (Key × V)}, RepK K A H ps xs → RepK K A H' ps xs
  | [], _, h => by rw [RepK] at h ⊢; exact h
  | (q, p) :: ps, xs, h => by
    rw [RepK] at h ⊢
    obtain ⟨k, x, s, e1, hk, h1, h2⟩ := h
    exact ⟨k, x, s, e1, hk, Rep.rkp e h1, RepK.rkp e h2⟩
theorem RepT.rkp (e : Rkp A H H') : ∀ {ps : List (PV × PV)} {xs : List (List Key × V)}, RepT K A H ps xs → RepT K A H' ps xs
  | [], _, h => by rw [RepT] at h ⊢; exact h
  | (q, p) :: ps, xs, h => by
    rw [RepT] at h ⊢
    obtain ⟨k, x, s, e1, hk, h1, h2⟩ := h
    exact ⟨k, x, s, e1, hk, Rep.rkp e h1, RepT.rkp e h2⟩
end
theorem rkp_lock {d : Addr} {o : Obj} {ks : List (Key × V)} (hd : H d = some (.dK ks)) : Rkp A H (upd H d (.frz o (.dK ks))) where
  rd := fun a w _ nf r => by
    by_cases e : a = d
    · subst e
      rcases r with r | ⟨o', r⟩
      · rw [hd] at r; cases r; exact .inr ⟨o, upd_same⟩
      · rw [hd] at r; cases r
    · rcases r with r | ⟨o', r⟩
      · exact .inl (by rw [upd_ne e]; exact r)
      · exact .inr ⟨o', by rw [upd_ne e]; exact r⟩
  tp := fun a xs _ h => by
    by_cases e : a = d
    · subst e; rw [hd] at h; cases h
    · rw [upd_ne e]; exact h
  ex := fun a φ h => by
    by_cases e : a = d
    · subst e; rw [hd] at h; cases h
    · rw [upd_ne e]; exact h
theorem rkp_unlock {d : Addr} {o : Obj} {ks : List (Key × V)} (hd : H d = some (.frz o (.dK ks))) : Rkp A H (upd H d (.dK ks)) where
  rd := fun a w _ nf r => by
    by_cases e : a = d
    · subst e
      rcases r with r | ⟨o', r⟩
      · rw [hd] at r; cases r; exact absurd rfl (nf _ _)
      · rw [hd] at r; cases r; exact .inl upd_same
    · rcases r with r | ⟨o', r⟩
      · exact .inl (by rw [upd_ne e]; exact r)
      · exact .inr ⟨o', by rw [upd_ne e]; exact r⟩
  tp := fun a xs _ h => by
    by_cases e : a = d
    · subst e; rw [hd] at h; cases h
    · rw [upd_ne e]; exact h
  ex := fun a φ h => by
    by_cases e : a = d
    · subst e; rw [hd] at h; cases h
    · rw [upd_ne e]; exact h
theorem OwnAt.rkp {p : PV} {a : Addr} (e : Rkp A H H') (ha : H' a = H a) (h : OwnAt K A H p a) : OwnAt K A H' p a := by
  cases p with
  | list zs => obtain ⟨us, u1, u2, u3⟩ := h; exact ⟨us, by rw [ha]; exact u1, Reps.rkp e u2, u3⟩
  | dict tk zs =>
    rcases h with ⟨ht, us, u1, u2⟩ | ⟨ht, us, u1, u2⟩
    · exact .inl ⟨ht, us, by rw [ha]; exact u1, RepK.rkp e u2⟩
    · exact .inr ⟨ht, us, by rw [ha]; exact u1, RepT.rkp e u2⟩
  | _ => exact h.elim
end
section
variable {G : Gm} {ι : Type} {X : ι → Cx} {W : WX} {k : Nat} {σ : St} {H H' : Hp} {env : Env} {F : Fp} {ts : List (V × PV)}
/-- the frame's heap changes at d alone, which is not avoided -/
theorem SRep.rkp {A : Av} {d : Addr} {w : HO} (h : SRep G.F A σ H env) {u0 : HO} (hu : H d = some u0) (hpl : Pl u0) (nd : ¬ A d) (e : Rkp A H (upd H d w)) (h4 : ∀ (i : Nat) (b : Bool) (p : PV) (a : Addr), env[i]? = some (.o b p) → σ[i]? = some (some (.ref a)) → A a) : SRep G.F A σ (upd H d w) env := by
  have na : ∀ a, A a → upd H d w a = H a := fun a z => upd_ne fun q => nd (by rw [← q]; exact z)
  refine ⟨fun a z => by rw [na a z]; exact h.live a z, h.len, fun j q e1 => ?_, fun j c q e1 => ?_, ⟨tabs_upd hu hpl h.tabs.tabs, fun a q z => by rw [na a z]; exact h.tabs.nc a q z⟩⟩
  · obtain ⟨y, f1, f2⟩ := h.slot j q e1
    exact ⟨y, f1, f2.rkp e⟩
  · obtain ⟨y, f1, f2⟩ := h.own j c q e1
    exact ⟨y, f1, f2.rkp e (na y (h4 j c q y e1 f1))⟩
/-- the frame while d is locked -/
def lkF (F : Fp) (O : Av) (H : Hp) (d : Addr) (w : HO) : Fp := ⟨upd H d w, O, F.B, F.L⟩
theorem StO.lock {O : Av} {d : Addr} {o : Obj} {ks : List (Key × V)} (st : StO G.F F O σ H env ts) (hd : H d = some (.dK ks)) (nd : ¬ (O d ∨ F.B d)) : StO G.F (lkF F O H d (.frz o (.dK ks))) O σ (upd H d (.frz o (.dK ks))) env ts := by
  obtain ⟨h1, h2, h3, h4, h5, h6, h7⟩ := st
  have e : Rkp (fun a => O a ∨ F.B a) H (upd H d (.frz o (.dK ks))) := rkp_lock hd
  exact ⟨fun a z => .inl z, fun a u q n => Stay.refl q, h3.rkp hd True.intro nd e fun i b p a e1 e2 => .inl (h4 i b p a e1 e2), h4, h5, h6, fun t ht => (h7 t ht).rkp e⟩
theorem StO.unlock {O O0 : Av} {H0 : Hp} {d : Addr} {o : Obj} {ks : List (Key × V)} (c1 : ∀ a, O0 a → F.I a ∨ F.H0 a = none) (c2 : ∀ a o, F.H0 a = some o → ¬ F.I a → Stay F.H0 H0 a o) (hd0 : H0 d = some (.dK ks)) (nd0 : ¬ O0 d) (st : StO G.F (lkF F O0 H0 d (.frz o (.dK ks))) O σ H env ts) (nB : ¬ F.B d) : H d = some (.frz o (.dK ks)) ∧ StO G.F F O σ (upd H d (.dK ks)) env ts := by
  obtain ⟨h1, h2, h3, h4, h5, h6, h7⟩ := st
  have nO : ¬ O d := fun z => by
    rcases h1 d z with q | q
    · exact nd0 q
    · have q' : upd H0 d (.frz o (.dK ks)) d = none := q
      rw [upd_same] at q'; cases q'
  have hd : H d = some (.frz o (.dK ks)) := h2 d _ (show upd H0 d (.frz o (.dK ks)) d = _ from upd_same) nd0
  have nd : ¬ (O d ∨ F.B d) := fun z => z.elim nO nB
  have e : Rkp (fun a => O a ∨ F.B a) H (upd H d (.dK ks)) := rkp_unlock hd
  refine ⟨hd, fun a z => ?_, fun a u q n => ?_, SRep.rkp (A := fun a => O a ∨ F.B a) h3 hd True.intro nd e fun i b p a e1 e2 => .inl (h4 i b p a e1 e2), h4, h5, h6, fun t ht => Rep.rkp e (h7 t ht)⟩
  · rcases h1 a z with q | q
    · exact c1 a q
    · have q' : upd H0 d (.frz o (.dK ks)) a = none := q
      by_cases hi : F.I a
      · exact .inl hi
      · refine .inr ?_
        cases ea : F.H0 a with
        | none => rfl
        | some u =>
          have l := (c2 a u ea hi).live
          by_cases ne : a = d
          · subst ne; rw [upd_same] at q'; cases q'
          · rw [upd_ne ne] at q'; exact absurd q' l
  · by_cases ne : a = d
    · subst ne
      have s := c2 a u q n
      cases u <;> first | (have s' : H0 a = some _ := s; rw [hd0] at s'; cases s'; exact upd_same) | (have s' : H0 a = some _ := s; rw [hd0] at s'; cases s') | (obtain ⟨⟨_, s'⟩, _⟩ := s; rw [hd0] at s'; cases s')
    · refine (c2 a u q n).trans fun v ev => (stay_upd hd0 True.intro ev ne (o := .frz o (.dK ks))).trans fun v' ev' => ?_
      refine (h2 a v' ev' fun z => ?_).trans fun v2 ev2 => stay_upd hd True.intro ev2 ne
      rcases c1 a z with w | w
      · exact n w
      · rw [w] at q; cases q
theorem ps_or {X : Cx} {st : Stmt} {t u : TS} (h : PS X st t) (h' : PS X st u) : PS X st (fun D σ H => t D σ H ∨ u D σ H) := ⟨fun pins s σ H D I q => q.elim (h.run pins s σ H D I) (h'.run pins s σ H D I)⟩
theorem repK_keys {K : Fr} {A : Av} {H : Hp} : ∀ {kvs : List (PV × PV)} {ks : List (Key × V)} {i : Nat} {k : Key} {v : V}, RepK K A H kvs ks → ks[i]? = some (k, v) → ∃ p, (kvs.map (·.1))[i]? = some p ∧ keyOf p = some k
  | [], _, i, k, v, h, e => by rw [RepK] at h; subst h; simp at e
  | (q, p) :: r, _, i, k, v, h, e => by
    rw [RepK] at h
    obtain ⟨k', x, s, rfl, h1, h2, h3⟩ := h
    cases i with
    | zero => simp only [List.getElem?_cons_zero, Option.some.injEq, Prod.mk.injEq] at e; obtain ⟨rfl, rfl⟩ := e; exact ⟨q, rfl, h1⟩
    | succ i => simp only [List.getElem?_cons_succ] at e; obtain ⟨p', h4, h5⟩ := repK_keys h3 e; exact ⟨p', by simpa using h4, h5⟩
theorem key_rep {K : Fr} {A : Av} {H : Hp} {p : PV} {k : Key} (h : keyOf p = some k) : Rep K A H p (kV k) := by
  cases p <;> (try cases h) <;> (rw [Rep]; rfl)
theorem walk_keysF {K : Fr} {A : Av} {H : Hp} {d : Addr} {o : Obj} {kvs : List (PV × PV)} {ks : List (Key × V)} (hd : H d = some (.frz o (.dK ks))) (nd : ¬ A d) (r : RepK K A H kvs ks) (hz : kvs.length ≤ line) :
    WalkOk K A true H (kvs.map (·.1)) (Itk d o ks) (fun H => H d = some (.frz o (.dK ks))) (fun i H x H' => H' = H ∧ ∃ k v, ks[i]? = some (k, v) ∧ x = kV k) := by
  have hl : ks.length = (kvs.map (·.1)).length := by rw [List.length_map, r.len]
  refine ⟨by rw [List.length_map]; exact hz, by rw [← hl]; exact walk_keys, fun H' g => g.keep.ext.kp d _ hd nd, fun i x H1 H2 A' hi g ha _ y => ?_⟩
  obtain ⟨rfl, k, v, e, rfl⟩ := y
  obtain ⟨p, e1, e2⟩ := repK_keys r e
  exact ⟨Same.refl _, p, e1, key_rep e2⟩
theorem s_forD (S : Sits G X k W) (i : Nat) {x : Str} {px fpos : Pos} {tg : Expr} {g : GX} {ts' : List Nat} {body : List Stmt} {m : SM} (hgt : GJ G X tg g ts') (hb : SS G X W body m) (hN : ∀ j, (X j).N[i]? = some x := by intro _; rfl) (hv : ∀ j, Vis (X j).env.scope x := by intro _; first | exact Or.inl rfl | exact Or.inr (Or.inl rfl) | exact Or.inr (Or.inr rfl))
    (hd : (x == ("__debug__" : Str)) = false := by decide) (hcd : (x == ("__classdict__" : Str)) = false := by decide) (hfs : ∀ j y, foldedSetIterable (.Name x px) (X j).env y = pure y := by intro _ _; rfl) :
    S1 G X W (.For tg (.Name x px) body [] fpos) (sForD i g m) := by
  obtain ⟨gt, g1, g2⟩ := hgt
  obtain ⟨tb, b1, b2⟩ := hb
  have hp := fun j => ps_for (pos := fpos) (S.pass j) (S.calm j) (pi_keys (tg := tg) (pe_var (pos := px) (hN j) (hv j) hd hcd)) (g1 j) (b1 j) (hfs j)
  refine ⟨_, fun j => ps_or (ps_lock (hp j)) (hp j), fun F σ H env ts D st q => ?_⟩
  unfold sForD at q
  split at q
  · rename_i kvs e0
    split at q
    · rename_i hz
      have st0 := st
      obtain ⟨O, st⟩ := st.ext
      obtain ⟨y, f1, f2⟩ := st.2.2.1.slot i _ e0
      rw [Rep] at f2
      obtain ⟨d, rfl, nd, ⟨_, ks, r, rk⟩ | ⟨z, _⟩⟩ := f2
      · rcases r with r | ⟨o, r⟩
        · refine .inl ⟨d, .dK ks, r, True.intro, fun od => ?_⟩
          have nO : ¬ O d := fun z => nd (.inl z)
          have st2 := StO.lock (o := od) st r nd
          have rk2 : RepK G.F (fun a => O a ∨ F.B a) (upd H d (.frz od (.dK ks))) kvs ks := RepK.rkp (rkp_lock r) rk
          refine ⟨.ref d, f1, d, od, rfl, .inl ⟨ks, upd_same, for_core (F := lkF F O H d (.frz od (.dK ks))) st2 (walk_keysF upd_same nd rk2 hz) g2 b2 ?_⟩⟩
          have nB : ¬ F.B d := fun z => nd (.inr z)
          cases eg : forGo g m (kvs.map (·.1)) env with
          | bad => rw [eg] at q; exact q
          | exc x e => rw [eg] at q; exact q.elim
          | ok f env2 =>
            rw [eg] at q
            cases f with
            | next => exact fun σ' H' st' => by obtain ⟨O', st'⟩ := st'.ext; obtain ⟨u1, u2⟩ := StO.unlock st.1 st.2.1 r nO st' nB; exact ⟨u1, q σ' _ u2.rep⟩
            | brk => exact fun σ' H' st' => by obtain ⟨O', st'⟩ := st'.ext; obtain ⟨u1, u2⟩ := StO.unlock st.1 st.2.1 r nO st' nB; exact ⟨u1, q σ' _ u2.rep⟩
            | cnt => exact fun σ' H' st' => by obtain ⟨O', st'⟩ := st'.ext; obtain ⟨u1, u2⟩ := StO.unlock st.1 st.2.1 r nO st' nB; exact ⟨u1, q σ' _ u2.rep⟩
            | ret p => exact fun x σ' H' st' => by obtain ⟨O', st'⟩ := st'.ext; obtain ⟨u1, u2⟩ := StO.unlock st.1 st.2.1 r nO st' nB; exact ⟨u1, q x σ' _ u2.rep⟩
        · refine .inr ⟨.ref d, f1, d, o, rfl, .inl ⟨ks, r, for_core st (walk_keysF r nd rk hz) g2 b2 ?_⟩⟩
          cases eg : forGo g m (kvs.map (·.1)) env with
          | bad => rw [eg] at q; exact q
          | exc x e => rw [eg] at q; exact q.elim
          | ok f env2 => rw [eg] at q; exact q
      · cases z
    · exact q.elim
  · exact q.elim
end
end Pv
end
section
set_option autoImplicit false
set_option Elab.async false
set_option linter.all false
set_option maxRecDepth 100000
/-! Dict comprehensions. -/
namespace Pv
open PySem PySem.Spec PyProof.Rows L2
variable [TN]
theorem dc_it {J : It} {n : Nat} {Gd : Hp → Prop} {Y : Nat → Hp → V → Hp → Prop} (w : Walk J n Gd Y) {g : TG} {tt : TT} {tk tv : TE} {vs : List Nat} {σ : St} {H1 : Hp} {D : Addr} {Qd : Hp → Prop} (Pv : Nat → Hp → Prop) (h0 : Pv 0 (upd H1 D (.dK []))) (hG : ∀ i H, i ≤ n → Pv i H → Gd H)
    (hs : ∀ i x H H', i < n → Pv i H → Y i H x H' → g x (wipe σ vs) H' fun σ2 H2 => wipe σ2 vs = wipe σ vs ∧ tt σ2 H2 fun b H3 =>
      if b = true then tk σ2 H3 fun y H4 => tv σ2 H4 fun z H5 => ∃ kvs k, y = kV k ∧ H5 D = some (.dK kvs) ∧ kvs.length < sizeLine ∧ Pv (i + 1) (upd H5 D (.dK (putK kvs k z))) else Pv (i + 1) H3) (hd : ∀ H, Pv n H → Qd H) :
    ∃ W : Nat → Nat → Hp → Prop, (∃ m, W 0 m (upd H1 D (.dK []))) ∧ ∀ i m H, W i m H →
      (J.stop i H ∧ Qd H) ∨ (J.go i H ∧ ∃ Nx : Hp → Prop, (∀ H', Nx H' → ∃ m', m' < m ∧ W (i + 1) m' H') ∧ ∀ x H', J.yld i H x H' → g x (wipe σ vs) H' fun σ2 H2 => wipe σ2 vs = wipe σ vs ∧ tt σ2 H2 fun b H3 =>
        if b = true then tk σ2 H3 fun y H4 => tv σ2 H4 fun z H5 => ∃ kvs k, y = kV k ∧ H5 D = some (.dK kvs) ∧ kvs.length < sizeLine ∧ Nx (upd H5 D (.dK (putK kvs k z))) else Nx H3) := by
  refine ⟨fun i m H => m = n - i ∧ i ≤ n ∧ Pv i H, ⟨n, by simp, Nat.zero_le _, h0⟩, ?_⟩
  rintro i m H ⟨rfl, hi, p⟩
  have q := hG i H hi p
  by_cases hlt : i < n
  · refine .inr ⟨w.goes i H hlt q, Pv (i + 1), fun H' p' => ⟨n - (i + 1), by omega, rfl, hlt, p'⟩, fun x H' y => hs i x H H' hlt p (w.yields i H x H' hlt q y)⟩
  · have e : i = n := by omega
    subst e
    exact .inl ⟨w.stops H q, hd H p⟩
section
variable {G : Gm} {ι : Type} {X : ι → Cx} {W : WX} {k : Nat} {pk pv : PX} {pos : Pos} {tg iter kx vx : Expr} {ifs : List Expr}
theorem SRep.inD {A : Av} {σ : St} {H H1 Hc : Hp} {env : Env} {D : Addr} (SS : SRep G.F A σ H env) (s1 : Same H H1) (nD : H1 D = none) (h : Same H1 Hc) (l : Hc D ≠ none) (lc : ∀ q, Hc D ≠ some (LamX.CodeO D q)) : SRep G.F (fun a => A a ∨ a = D) σ Hc env := by
  have live1 : ∀ a, A a → H1 a ≠ none := same_live s1 SS.live
  refine ⟨fun a z => z.elim (same_live h live1 a) fun z => by rw [z]; exact l, SS.len, fun j pj ej => ?_, fun j bj pj ej => ?_, ((SS.tabs.same SS.live s1).same live1 h).add lc fun a z => z⟩
  · obtain ⟨xj, f1, f2⟩ := SS.slot j pj ej
    exact ⟨xj, f1, ((f2.same s1).ext (A' := fun a => A a ∨ a = D) ⟨fun a z => z.elim .inl fun z => .inr (by rw [z]; exact nD), fun a o z _ => Stay.refl z⟩).same h⟩
  · obtain ⟨xj, f1, f2⟩ := SS.own j bj pj ej
    refine ⟨xj, f1, ?_⟩
    have f3 := f2.same s1
    have f4 : OwnAt G.F (fun a => A a ∨ a = D) H1 pj xj := by
      cases pj with
      | list zs =>
        obtain ⟨us, u1, u2, u3⟩ := f3
        exact ⟨us, u1, Reps.ext ⟨fun a z => z.elim .inl fun z => .inr (by rw [z]; exact nD), fun a o z _ => Stay.refl z⟩ u2, u3⟩
      | dict tk zs =>
        rcases f3 with ⟨ht, us, u1, u2⟩ | ⟨ht, us, u1, u2⟩
        · exact .inl ⟨ht, us, u1, RepK.ext ⟨fun a z => z.elim .inl fun z => .inr (by rw [z]; exact nD), fun a o z _ => Stay.refl z⟩ u2⟩
        · exact .inr ⟨ht, us, u1, RepT.ext ⟨fun a z => z.elim .inl fun z => .inr (by rw [z]; exact nD), fun a o z _ => Stay.refl z⟩ u2⟩
      | _ => exact f3.elim
    exact f4.same h
theorem dcomp_sim {scope : Scope} {own : List Nat} {ts : List Nat} {p : LX} {g : GX} {tc : TX} {wi : TI} {gt : TG} {tt : TT} {tk tv : TE} (hts : ∀ i ∈ ts, i ∈ own)
    (hw : ∀ A σ H env R, SRep G.F A σ H env → WEnd G A W σ H false R (p env) → wi σ H R)
    (hg : ∀ A H p x l, Rep G.F A H p x → g p = some l → l.map (·.1) = ts ∧ ∃ l', Stores G.F A H l l' ∧ ∀ σ Q, Q (setV σ l') H → gt x σ H Q)
    (ht : ∀ A σ H env Q, SRep G.F A σ H env → TEnd G A noW σ H Q (tc env) → tt σ H Q)
    (hk : ∀ A σ H env Q, SRep G.F A σ H env → XEnd G A noW σ H (fun c x H' => Rep G.F A H' c x) Q (pk env) → tk σ H Q)
    (he : ∀ A σ H env Q, SRep G.F A σ H env → XEnd G A noW σ H (fun c x H' => Rep G.F A H' c x) Q (pv env) → tv σ H Q)
    (A : Av) (σ : St) (H : Hp) (env : Env) (Q : VK) (SS : SRep G.F A σ H env) (q : XEnd G A W σ H (fun c x H' => Rep G.F A H' c x) Q (pDComp own p g tc pk pv env)) : tDc wi gt tt tk tv own σ H Q := by
  refine hw A σ H env _ SS ?_
  unfold pDComp at q
  cases ep : p env with
  | bad => rw [ep] at q; exact q.elim
  | exc x => rw [ep] at q; exact q
  | ok ps =>
    rw [ep] at q
    simp only [Rp.ok_bind] at q
    intro J H1 Gd Y s1 wk D nD
    cases eg : dcompGo g tc pk pv (wipes env own) ps [] with
    | bad => rw [eg] at q; exact q.elim
    | exc x => rw [eg] at q; exact q.elim
    | ok ys =>
      rw [eg] at q
      have q' : ∀ x H', Same H H' → Rep G.F A H' (.dict false ys) x → Q x H' := q
      have live1 : ∀ a, A a → H1 a ≠ none := same_live s1 SS.live
      have nA : ¬ A D := na_new live1 nD
      refine dc_it wk.walk (fun i Hc => ∃ ks acc rest, i + rest.length = ps.length ∧ ps.drop i = rest ∧ Same H1 Hc ∧ Hc D = some (.dK ks) ∧ RepK G.F (fun a => A a ∨ a = D) Hc acc ks ∧ dcompGo g tc pk pv (wipes env own) rest acc = .ok ys) ?_ ?_ ?_ ?_
      · exact ⟨[], [], ps, by omega, rfl, same_new nD _, upd_same, by rw [RepK], eg⟩
      · rintro i Hc - ⟨ks, acc, rest, h1, h2, h3, h4, h6, h7⟩
        exact wk.good Hc (.of h3)
      · rintro i x Hc H2 hi ⟨ks, acc, rest, h1, h2, h3, h4, h6, h7⟩ y
        have live2 : ∀ a, A a → Hc a ≠ none := same_live h3 live1
        obtain ⟨s2, p0, e0, r0⟩ := wk.item i x Hc H2 (fun a => A a ∨ a = D) hi (.of h3) (fun a z => z.elim .inl fun z => .inr (by rw [z]; exact nD)) (fun a z => z.elim (live2 a) fun z => by rw [z, h4]; exact Option.some_ne_none _) y
        have e1 : rest = p0 :: ps.drop (i + 1) := by
          rw [← h2, List.drop_eq_getElem?_toList_append, e0]
          rfl
        rw [e1, dcompGo] at h7
        cases egp : g p0 with
        | none => rw [egp] at h7; cases h7
        | some l0 =>
          rw [egp] at h7
          simp only [ofOpt_some, Rp.ok_bind] at h7
          have SW : SRep G.F (fun a => A a ∨ a = D) (wipe σ own) H2 (wipes env own) :=
            SRep.wipes (SRep.inD SS s1 nD (h3.trans s2) (by rw [s2 _ _ h4]; exact Option.some_ne_none _) (pl_nc (s2 _ _ h4) True.intro)) own
          obtain ⟨k1, l', st, kk⟩ := hg _ H2 p0 x l0 r0 egp
          refine kk (wipe σ own) _ ⟨?_, ?_⟩
          · rw [wipe_setV fun z hz => hts _ ?_]
            · apply List.ext_getElem?
              intro j
              exact wipe_wipe σ own j
            · rw [← k1, ← st.keys]
              exact List.mem_map.mpr ⟨z, hz, rfl⟩
          have S1 := SW.puts st
          refine ht _ _ H2 _ _ S1 ?_
          cases ec : tc (puts (Pv.wipes env own) l0) with
          | bad => rw [ec] at h7; cases h7
          | exc x => rw [ec] at h7; cases h7
          | ok bb =>
            rw [ec] at h7
            simp only [Rp.ok_bind] at h7
            intro H3 s3
            have lenrest : (ps.drop (i + 1)).length + (i + 1) = ps.length := by
              rw [List.length_drop]; omega
            cases bb with
            | false =>
              rw [if_neg Bool.false_ne_true]
              simp only [Bool.false_eq_true, if_false] at h7
              exact ⟨ks, acc, ps.drop (i + 1), by omega, rfl, h3.trans (s2.trans s3), s3 _ _ (s2 _ _ h4), RepK.ext (.same (s2.trans s3)) h6, h7⟩
            | true =>
              rw [if_pos rfl]
              simp only [if_true] at h7
              refine hk _ _ H3 _ _ (S1.same s3) ?_
              cases ek : pk (puts (Pv.wipes env own) l0) with
              | bad => rw [ek] at h7; cases h7
              | exc x => rw [ek] at h7; cases h7
              | ok q0 =>
                rw [ek] at h7
                simp only [Rp.ok_bind] at h7
                intro y H4 s4 ry
                refine he _ _ H4 _ _ ((S1.same s3).same s4) ?_
                cases ee : pv (puts (Pv.wipes env own) l0) with
                | bad => rw [ee] at h7; cases h7
                | exc x => rw [ee] at h7; cases h7
                | ok y0 =>
                  rw [ee] at h7
                  simp only [Rp.ok_bind] at h7
                  split at h7
                  · rename_i hc
                    obtain ⟨hk1, hl⟩ := hc
                    obtain ⟨kk, ekk⟩ := Option.isSome_iff_exists.mp (show (keyOf q0).isSome = true from hk1)
                    intro z H5 s5 rz
                    have hD5 : H5 D = some (.dK ks) := s5 _ _ (s4 _ _ (s3 _ _ (s2 _ _ h4)))
                    have up : Ext (fun a => A a ∨ a = D) (fun a => A a ∨ a = D) H5 (upd H5 D (.dK (putK ks kk z))) := ⟨fun a z => .inl z, fun a o q nz => stay_upd hD5 True.intro q fun e => nz (.inr e)⟩
                    refine ⟨ks, kk, rep_key ekk ry, hD5, by rw [h6.len, ← line_eq]; exact hl, putK ks kk z, dPut acc q0 y0, ps.drop (i + 1), by omega, rfl, same_updN (h3.trans (s2.trans (s3.trans (s4.trans s5)))) nD hD5 True.intro, upd_same, ?_, h7⟩
                    · exact repK_put ekk (rz.ext up) (RepK.ext up (RepK.ext (.same (s2.trans (s3.trans (s4.trans s5)))) h6))
                  · cases h7
      · rintro Hc ⟨ks, acc, rest, h1, h2, h3, h4, h6, h7⟩
        have e1 : rest = [] := by
          rw [← h2]
          exact List.drop_eq_nil_of_le (Nat.le_refl _)
        rw [e1, dcompGo] at h7
        cases h7
        refine q' _ _ (s1.trans h3) ?_
        rw [Rep]
        exact ⟨D, rfl, nA, .inl ⟨rfl, ks, .inl h4, RepK.ext ⟨fun a z => .inl (.inl z), fun a o z _ => Stay.refl z⟩ h6⟩⟩
theorem x_dcomp {scope : Scope} {own : List (Str × Nat)} {ts : List Nat} {p : LX} {g : GX} {tc : TX} (S : Sits G X k W) (hw : WlJ G X W false tg iter p) (ok : ∀ i, BlkOk (X i).N (X i).env.scope scope own)
    (hg : GJ G (blkF X scope) tg g ts) (ht : TsJ G (blkF X scope) noW ifs tc) (hk : XJ G (blkF X scope) noW Rep kx pk) (he : XJ G (blkF X scope) noW Rep vx pv) (hts : ∀ i ∈ ts, i ∈ own.map (·.2)) (hs : ∀ i x, foldedSetIterable iter (X i).env x = pure x := by intro _ _; rfl) :
    XJ G X W Rep (.DictComp kx vx [⟨tg, iter, ifs, 0⟩] scope pos) (pDComp (own.map (·.2)) p g tc pk pv) := by
  obtain ⟨wi, w1, w2⟩ := hw
  obtain ⟨gt, g1, g2⟩ := hg
  obtain ⟨tt, t1, t2⟩ := ht
  obtain ⟨tk, k1, k2⟩ := hk
  obtain ⟨tv, e1, e2⟩ := he
  exact ⟨_, fun i => pe_dc (S.calm i) (S.nd i) (w1 i) (ok i) (fun s H C cl fp => g1 (i, s, H, C, cl, fp)) (fun s H C cl fp => t1 (i, s, H, C, cl, fp)) (fun s H C cl fp => k1 (i, s, H, C, cl, fp)) (fun s H C cl fp => e1 (i, s, H, C, cl, fp)) (hs i), dcomp_sim (scope := scope) hts w2 g2 t2 k2 e2⟩
end
end Pv
end
section
set_option autoImplicit false
set_option Elab.async false
set_option linter.all false
set_option maxRecDepth 100000
/-! raise of own classes without own __init__. -/
namespace Pv
open PySem PySem.Spec PyProof.Rows L2
variable [TN]
section
variable {G : Gm} {ι : Type} {X : ι → Cx} {W : WX} {k : Nat} {e : Expr} {es : List Expr} {l : LX} {pos cpos p : Pos}
/-- what is known of an own error class -/
structure ErrAt (G : Gm) (x : Str) (c : String) (B newId initId : String) (bmB : List Value) : Prop where
  facts : ExcBaseFacts B newId initId bmB
  ex : ∃ C, G.mg x = some (.ref C) ∧ PySem.W.excIn G.K C bmB newId = true ∧ PySem.W.keepIn G.K (.ref C) = true ∧ PySem.W.subIn G.K (.ref C) (.type "BaseException") = some true ∧ PySem.W.typeIn G.K (.ref C) = some (.type "type") ∧ G.cls c = .ref C
theorem s_raise {x : Str} {c : String} {B newId initId : String} {bmB : List Value} (S : Sits G X k W) (er : ErrAt G x c B newId initId bmB) (ha : AJ G X W Rep (e :: es) l) (hz : ∀ env us, l env = .ok us → us.length ≤ sizeLine) (hg : ∀ i, Gl (X i) x := by intro _; rfl)
    (hdb : (x == ("__debug__" : Str)) = false := by decide) (he : ∀ i, starEach (e :: es) (X i).env = (false, eval e (X i).env) :: starEach es (X i).env := by intro _; rfl) (hpl : ∀ i, (backTo cpos (starEach es (X i).env)).any (·.1) = false := by intro _; rfl) :
    S1 G X W (.Raise (some (.Call (.Name x p) (e :: es) [] cpos)) none pos) (sRaise c l) := by
  obtain ⟨F, C, gC, hq, kC, r1, r2, ec⟩ := er
  obtain ⟨t, h1, h2⟩ := ha
  refine ⟨_, fun i => ps_raise (S.calm i) (S.takes i) (pmk_ownA F (by rw [S.K i]; exact hq) (by rw [S.mg i]; exact gC) (by rw [S.K i]; exact kC) (raises_own (by rw [S.K i]; exact r1) (by rw [S.K i]; exact r2)) (hg i) (h1 i) hdb (he i) (hpl i)), fun F' σ H env ts D st q => in_a st h2 ?_⟩
  unfold sRaise at q
  cases el : l env with
  | bad => rw [el] at q; exact q
  | exc x => rw [el] at q; exact fun d H' s => q d σ H' s
  | ok us =>
    rw [el] at q
    simp only [liftR_ok] at q
    intro xs H' hl s
    refine ⟨by rw [hl]; exact hz env us el, ?_⟩
    have := q none σ H' (StRep.sub s fun t ht => List.mem_append_right _ ht) (fun n => absurd rfl n)
    rw [← ec]; exact this
end
end Pv
end
section
set_option autoImplicit false
set_option Elab.async false
set_option linter.all false
set_option maxRecDepth 100000
/-! name.pop(k) -/
namespace Pv
open PySem PySem.Spec PyProof.Rows L2
variable [TN]
theorem reps_erase {K : Fr} {A : Av} {H : Hp} : ∀ {ps : List PV} {xs : List V}, Reps K A H ps xs → ∀ j, Reps K A H (ps.eraseIdx j) (xs.eraseIdx j)
  | [], _, r, _ => by rw [Reps] at r; subst r; exact .nil
  | q :: ps, xs, r, j => by
    rw [Reps] at r
    obtain ⟨y, s, rfl, r1, r2⟩ := r
    cases j with
    | zero => exact r2
    | succ j => rw [List.eraseIdx_cons_succ, List.eraseIdx_cons_succ, Reps]; exact ⟨y, _, rfl, r1, reps_erase r2 j⟩
section
variable {G : Gm} {ι : Type} {X : ι → Cx} {W : WX} {k : Nat} {e : Expr} {ma : MX}
theorem m_popAt (S : Sits G X k W) (i : Nat) {x : Str} {px pa1 pc1 : Pos} (he : MJ G X W e ma) (hN : ∀ j, (X j).N[i]? = some x := by intro _; rfl) (hv : ∀ j, Vis (X j).env.scope x := by intro _; first | exact Or.inl rfl | exact Or.inr (Or.inl rfl) | exact Or.inr (Or.inr rfl))
    (hd : (x == ("__debug__" : Str)) = false := by decide) (hcd : (x == ("__classdict__" : Str)) = false := by decide)
    (hbase : ∀ j, attributeBase (.Name x px) "pop" (X j).env (eval (.Name x px) (X j).env) = eval (.Name x px) (X j).env := by intro _; rfl)
    (hfew : ∀ j, ((backTo pc1 (starEach [e] (X j).env)).all (fun x => !x.1) && (backToKw pc1 (keywordEach [] (X j).env)).all (fun x => x.1.isSome) && decide (([e] : List Expr).length + ([] : List Keyword).length + (if ([] : List Keyword).isEmpty then 0 else 1) < 30)) = true := by intro _; rfl)
    (hline : (pa1.endLine == pc1.line) = true := by rfl) (hst : ∀ j, starEach [e] (X j).env = (false, eval e (X j).env) :: starEach [] (X j).env := by intro _; rfl) (hplain : ∀ j, (backTo pc1 (starEach [] (X j).env)).any (·.1) = false := by intro _; rfl) :
    MJ G X W (.Call (.Attribute (.Name x px) "pop" pa1) [e] [] pc1) (mPopAt i ma) := by
  obtain ⟨t, h1, h2⟩ := he
  refine ⟨tBM G.K "list" rPopAt (tVar i) (tCons t tNil), fun j => ?_, fun F σ H env ts Q st q => ?_⟩
  · have := pe_bm (cpos := pc1) (apos := pa1) PySem.F.plainAttrs_list PySem.F.slot_list_pop PySem.F.type_list_pop mt_popAt (pe_var (pos := px) (hN j) (hv j) hd hcd) (pa_cons (h1 j) pa_nil (hst j)) (hbase j) (hfew j) hline (hst j) (hplain j)
    rw [S.K j] at this
    exact this
  unfold mPopAt at q
  split at q
  · rename_i b0 zs0 e0
    obtain ⟨O, st⟩ := st.ext
    obtain ⟨l, el, xs, hH, hr, hz2⟩ := st.2.2.1.own i b0 _ e0
    refine ⟨.ref l, el, .inl ⟨rfl, xs, .of hH⟩, h2 F σ H env ts _ st.rep (MEnd.bind q fun c env1 ea q1 y H' st' => ?_)⟩
    split at q1
    · rename_i b zs e1
      obtain ⟨O', st'⟩ := st'.ext
      obtain ⟨l', el', xs', hH', hr', hz2'⟩ := st'.2.2.1.own i b _ e1
      have ell : l = l' := by rw [el] at el'; cases el'; rfl
      subst ell
      cases c with
      | int kk =>
        simp only at q1
        split at q1
        · rename_i jj ej
          split at q1
          · rename_i p ep
            have ry := st'.has (t := (y, .int kk)) List.mem_cons_self
            simp only [Rep] at ry
            obtain ⟨v, e2, rv⟩ := hr'.get' ep
            have hxl := hr'.length
            obtain ⟨s1, s2, s3, s4⟩ := ixN_seq (show ixN zs.length kk = some jj from ej)
            have hl63 := line63
            have hzl : zs.length ≤ sizeLine := by rw [← line_eq]; exact hz2'
            have hO : O' l := st'.2.2.2.1 i b _ l e1 el'
            have ex : Ext (fun a => O' a ∨ F.B a) (fun a => O' a ∨ F.B a) H' (upd H' l (.lst (xs'.eraseIdx jj))) := ⟨fun b z => .inl z, fun c u q n => stay_upd (by assumption) (by exact True.intro) q fun z => n (.inl (by rw [z]; exact hO))⟩
            refine ⟨l, xs', kk, jj, v, rfl, by rw [ry], hH', by omega, by omega, by rw [hxl]; exact s1, e2, q1 v _ (StO.rep (O := O') (StO.tmp (StO.write (p' := .list (zs.eraseIdx jj)) st' e1 el' ⟨xs'.eraseIdx jj, upd_same, reps_erase (Reps.ext ex hr') jj, ?_⟩) fun t ht => ?_))⟩
            · have := List.length_eraseIdx_le zs jj
              omega
            · rcases List.mem_cons.mp ht with rfl | ht
              · exact .inr (rv.ext ex)
              · exact .inl (List.mem_cons_of_mem _ ht)
          · exact q1.elim
        · exact q1.elim
      | _ => exact q1.elim
    · exact q1.elim
  · exact q.elim
end
end Pv
end
section
set_option autoImplicit false
set_option Elab.async false
set_option linter.all false
set_option maxRecDepth 100000
/-! List comprehensions of two clauses. -/
namespace Pv
open PySem PySem.Spec PyProof.Rows L2
variable [TN]
section
variable {G : Gm} {ι : Type} {X : ι → Cx} {W : WX} {k : Nat} {pa : PX} {pos : Pos} {tg iter tg1 iter1 elt : Expr} {ifs ifs1 : List Expr}
/-- the inner loop: what the new list at D holds grows by what the mirror makes -/
theorem inner_sim {A : Av} {D : Addr} {σ2 : St} {env1 : Env} {vs1 ts1 : List Nat} {g1 : GX} {tc1 : TX} {gt1 : TG} {tt1 : TT} {te : TE} (hts1 : ∀ i ∈ ts1, i ∈ vs1) (Nx : Hp → Prop)
    (hg1 : ∀ A H p x l, Rep G.F A H p x → g1 p = some l → l.map (·.1) = ts1 ∧ ∃ l', Stores G.F A H l l' ∧ ∀ σ Q, Q (setV σ l') H → gt1 x σ H Q)
    (ht1 : ∀ A σ H env Q, SRep G.F A σ H env → TEnd G A noW σ H Q (tc1 env) → tt1 σ H Q)
    (he : ∀ A σ H env Q, SRep G.F A σ H env → XEnd G A noW σ H (fun c x H' => Rep G.F A H' c x) Q (pa env) → te σ H Q)
    {H4 : Hp} {J1 : It} {Gd : Hp → Prop} {Y : Nat → Hp → V → Hp → Prop} {ys us done0 : List PV} {acc0 : List V} (nA : ¬ A D) (wk : WalkOk G.F (fun a => A a ∨ a = D) true H4 ys J1 Gd Y)
    (hS : ∀ H, Keep (fun a => a = D) H4 H → H D ≠ none → (∀ q, H D ≠ some (LamX.CodeO D q)) → SRep G.F (fun a => A a ∨ a = D) σ2 H env1) (hD : H4 D = some (.lst acc0)) (hr : Reps G.F (fun a => A a ∨ a = D) H4 done0 acc0) (hm : compGo g1 tc1 pa (wipes env1 vs1) ys = .ok us) (hz : done0.length + us.length < line)
    (hN : ∀ H acc, Keep (fun a => a = D) H4 H → H D = some (.lst acc) → Reps G.F (fun a => A a ∨ a = D) H (done0 ++ us) acc → Nx H) :
    ∃ W1 : Nat → Nat → Hp → Prop, (∃ m, W1 0 m H4) ∧ ∀ j k H, W1 j k H →
      (J1.stop j H ∧ Nx H) ∨ (J1.go j H ∧ ∃ Nx1 : Hp → Prop, (∀ H', Nx1 H' → ∃ k', k' < k ∧ W1 (j + 1) k' H') ∧ ∀ x H', J1.yld j H x H' → gt1 x (wipe σ2 vs1) H' fun σ3 H5 => wipe σ3 vs1 = wipe σ2 vs1 ∧ tt1 σ3 H5 fun b H6 =>
        if b = true then te σ3 H6 fun y H7 => ∃ acc, H7 D = some (.lst acc) ∧ acc.length < sizeLine ∧ Nx1 (upd H7 D (.lst (acc ++ [y]))) else Nx1 H6) := by
  refine ⟨fun i m Hc => m = ys.length - i ∧ i ≤ ys.length ∧ ∃ acc done rest, i + rest.length = ys.length ∧ ys.drop i = rest ∧ Keep (fun a => a = D) H4 Hc ∧ Hc D = some (.lst acc) ∧ Reps G.F (fun a => A a ∨ a = D) Hc (done0 ++ done) acc ∧ ∃ more, compGo g1 tc1 pa (wipes env1 vs1) rest = .ok more ∧ us = done ++ more,
    ⟨ys.length, by simp, Nat.zero_le _, acc0, [], ys, by omega, rfl, fun a o h _ => Stay.refl h, hD, by rw [List.append_nil]; exact hr, us, hm, rfl⟩, ?_⟩
  rintro i m Hc ⟨rfl, hi, acc, done, rest, h1, h2, h3, h4, h6, more, h7, h8⟩
  have gk : Goes true (fun a => A a ∨ a = D) H4 Hc := by
    unfold Goes
    rw [if_pos rfl]
    exact fun a o q n => h3 a o q fun z => n (.inr z)
  have q := wk.good Hc gk
  by_cases hlt : i < ys.length
  · refine .inr ⟨wk.walk.goes i Hc hlt q, fun Hc => ∃ acc done rest, i + 1 + rest.length = ys.length ∧ ys.drop (i + 1) = rest ∧ Keep (fun a => a = D) H4 Hc ∧ Hc D = some (.lst acc) ∧ Reps G.F (fun a => A a ∨ a = D) Hc (done0 ++ done) acc ∧ ∃ more, compGo g1 tc1 pa (wipes env1 vs1) rest = .ok more ∧ us = done ++ more,
      fun H' p' => ⟨ys.length - (i + 1), by omega, rfl, hlt, p'⟩, fun x H2 y => ?_⟩
    have y := wk.walk.yields i Hc x H2 hlt q y
    have SC := hS Hc h3 (by rw [h4]; exact Option.some_ne_none _) (pl_nc h4 True.intro)
    obtain ⟨s2, p0, e0, r0⟩ := wk.item i x Hc H2 (fun a => A a ∨ a = D) hlt gk (fun a z => .inl z) SC.live y
    have e1 : rest = p0 :: ys.drop (i + 1) := by
      rw [← h2, List.drop_eq_getElem?_toList_append, e0]
      rfl
    rw [e1, compGo] at h7
    cases egp : g1 p0 with
    | none => rw [egp] at h7; cases h7
    | some l0 =>
      rw [egp] at h7
      simp only [ofOpt_some, Rp.ok_bind] at h7
      have SW : SRep G.F (fun a => A a ∨ a = D) (wipe σ2 vs1) H2 (wipes env1 vs1) := SRep.wipes (SC.same s2) vs1
      obtain ⟨k1, l', st, kk⟩ := hg1 _ H2 p0 x l0 r0 egp
      refine kk (wipe σ2 vs1) _ ⟨?_, ?_⟩
      · rw [wipe_setV fun z hz => hts1 _ ?_]
        · apply List.ext_getElem?
          intro j
          exact wipe_wipe σ2 vs1 j
        · rw [← k1, ← st.keys]
          exact List.mem_map.mpr ⟨z, hz, rfl⟩
      have S1 := SW.puts st
      refine ht1 _ _ H2 _ _ S1 ?_
      cases ec : tc1 (puts (Pv.wipes env1 vs1) l0) with
      | bad => rw [ec] at h7; cases h7
      | exc x => rw [ec] at h7; cases h7
      | ok bb =>
        rw [ec] at h7
        simp only [Rp.ok_bind] at h7
        intro H3 s3
        have lenrest : (ys.drop (i + 1)).length + (i + 1) = ys.length := by
          rw [List.length_drop]; omega
        cases bb with
        | false =>
          rw [if_neg Bool.false_ne_true]
          simp only [Bool.false_eq_true, if_false] at h7
          exact ⟨acc, done, ys.drop (i + 1), by omega, rfl, fun a o q n => (h3 a o q n).same (s2.trans s3), s3 _ _ (s2 _ _ h4), h6.same (s2.trans s3), more, h7, h8⟩
        | true =>
          rw [if_pos rfl]
          simp only [if_true] at h7
          refine he _ _ H3 _ _ (S1.same s3) ?_
          cases ee : pa (puts (Pv.wipes env1 vs1) l0) with
          | bad => rw [ee] at h7; cases h7
          | exc x => rw [ee] at h7; cases h7
          | ok y0 =>
            rw [ee] at h7
            simp only [Rp.ok_bind] at h7
            cases er : compGo g1 tc1 pa (Pv.wipes env1 vs1) (ys.drop (i + 1)) with
            | bad => rw [er] at h7; cases h7
            | exc x => rw [er] at h7; cases h7
            | ok more' =>
              rw [er] at h7
              cases h7
              intro z H4' s4 rz
              have hD4 : H4' D = some (.lst acc) := s4 _ _ (s3 _ _ (s2 _ _ h4))
              have up : Ext (fun a => A a ∨ a = D) (fun a => A a ∨ a = D) H4' (upd H4' D (.lst (acc ++ [z]))) := ⟨fun a z => .inl z, fun a o q nz => stay_upd hD4 True.intro q fun e => nz (.inr e)⟩
              have hlen : acc.length = done0.length + done.length := by rw [h6.length, List.length_append]
              have hus : us.length = done.length + (1 + more'.length) := by rw [h8, List.length_append, List.length_cons]; omega
              refine ⟨acc, hD4, ?_, acc ++ [z], done ++ [y0], ys.drop (i + 1), by omega, rfl, fun a o q n => ?_, upd_same, ?_, more', er, by simp [h8]⟩
              · rw [← line_eq]; omega
              · exact ((h3 a o q n).same (s2.trans (s3.trans s4))).trans fun u eu => stay_upd hD4 True.intro eu n
              · rw [← List.append_assoc]
                exact (Reps.ext up (h6.same (s2.trans (s3.trans s4)))).append (.one (rz.ext up))
  · have ei : i = ys.length := by omega
    subst ei
    have e1 : rest = [] := by
      rw [← h2]
      exact List.drop_eq_nil_of_le (Nat.le_refl _)
    rw [e1, compGo] at h7
    cases h7
    rw [List.append_nil] at h8
    subst h8
    exact .inl ⟨wk.walk.stops Hc q, hN Hc acc h3 h4 h6⟩
end
end Pv
end
section
set_option autoImplicit false
set_option Elab.async false
set_option linter.all false
set_option maxRecDepth 100000
/-! List comprehensions of two clauses: the outer loop. -/
namespace Pv
open PySem PySem.Spec PyProof.Rows L2
variable [TN]
theorem Stores.ext {K : Fr} {A A' : Av} {H H' : Hp} (e : Ext A A' H H') : ∀ {l : List (Nat × PV)} {l' : List (Nat × V)}, Stores K A H l l' → Stores K A' H' l l'
  | [], l', h => h
  | (i, p) :: r, l', ⟨x, s, e1, h1, h2⟩ => ⟨x, s, e1, h1.ext e, Stores.ext e h2⟩
section
variable {G : Gm} {ι : Type} {X : ι → Cx} {W : WX} {k : Nat} {pa : PX} {pos : Pos} {tg iter tg1 iter1 elt : Expr} {ifs ifs1 : List Expr}
theorem comp2_sim {own vs1 ts ts1 : List Nat} {p w1 : LX} {g g1 : GX} {tc tc1 : TX} {wi wi1 : TI} {gt gt1 : TG} {tt tt1 : TT} {te : TE} (hts : ∀ i ∈ ts, i ∈ own) (hts1 : ∀ i ∈ ts1, i ∈ vs1)
    (hw : ∀ A σ H env R, SRep G.F A σ H env → WEnd G A W σ H false R (p env) → wi σ H R)
    (hg : ∀ A H p x l, Rep G.F A H p x → g p = some l → l.map (·.1) = ts ∧ ∃ l', Stores G.F A H l l' ∧ ∀ σ Q, Q (setV σ l') H → gt x σ H Q)
    (ht : ∀ A σ H env Q, SRep G.F A σ H env → TEnd G A noW σ H Q (tc env) → tt σ H Q)
    (hw1 : ∀ A σ H env R, SRep G.F A σ H env → WEnd G A noW σ H true R (w1 env) → wi1 σ H R)
    (hg1 : ∀ A H p x l, Rep G.F A H p x → g1 p = some l → l.map (·.1) = ts1 ∧ ∃ l', Stores G.F A H l l' ∧ ∀ σ Q, Q (setV σ l') H → gt1 x σ H Q)
    (ht1 : ∀ A σ H env Q, SRep G.F A σ H env → TEnd G A noW σ H Q (tc1 env) → tt1 σ H Q)
    (he : ∀ A σ H env Q, SRep G.F A σ H env → XEnd G A noW σ H (fun c x H' => Rep G.F A H' c x) Q (pa env) → te σ H Q)
    (A : Av) (σ : St) (H : Hp) (env : Env) (Q : VK) (SS : SRep G.F A σ H env) (q : XEnd G A W σ H (fun c x H' => Rep G.F A H' c x) Q (pComp2 own vs1 p g tc w1 g1 tc1 pa env)) : tLc2 wi gt tt wi1 gt1 tt1 te own vs1 σ H Q := by
  refine hw A σ H env _ SS ?_
  unfold pComp2 at q
  cases ep : p env with
  | bad => rw [ep] at q; exact q.elim
  | exc x => rw [ep] at q; exact q
  | ok ps =>
    rw [ep] at q
    simp only [Rp.ok_bind] at q
    intro J H1 Gd Y s1 wk D nD
    cases eg : comp2Go g tc w1 vs1 g1 tc1 pa (wipes env own) ps with
    | bad => rw [eg] at q; exact q.elim
    | exc x => rw [eg] at q; exact q.elim
    | ok ys =>
      rw [eg] at q
      have q0 : XEnd G A W σ H (fun c x H' => Rep G.F A H' c x) Q (if ys.length < line then .ok (.list ys) else .bad) := q
      split at q0
      case isFalse => exact q0.elim
      rename_i hz
      have q' : ∀ x H', Same H H' → Rep G.F A H' (.list ys) x → Q x H' := q0
      have live1 : ∀ a, A a → H1 a ≠ none := same_live s1 SS.live
      have nA : ¬ A D := na_new live1 nD
      refine ⟨fun i m Hc => m = ps.length - i ∧ i ≤ ps.length ∧ ∃ acc done rest, i + rest.length = ps.length ∧ ps.drop i = rest ∧ Same H1 Hc ∧ Hc D = some (.lst acc) ∧ Reps G.F (fun a => A a ∨ a = D) Hc done acc ∧ ∃ more, comp2Go g tc w1 vs1 g1 tc1 pa (wipes env own) rest = .ok more ∧ ys = done ++ more,
        ⟨ps.length, by simp, Nat.zero_le _, [], [], ps, by omega, rfl, same_new nD _, upd_same, .nil, ys, eg, rfl⟩, ?_⟩
      rintro i m Hc ⟨rfl, hi, acc, done, rest, h1, h2, h3, h4, h6, more, h7, h8⟩
      have q := wk.good Hc (.of h3)
      by_cases hlt : i < ps.length
      · refine .inr ⟨wk.walk.goes i Hc hlt q, fun Hc => ∃ acc done rest, i + 1 + rest.length = ps.length ∧ ps.drop (i + 1) = rest ∧ Same H1 Hc ∧ Hc D = some (.lst acc) ∧ Reps G.F (fun a => A a ∨ a = D) Hc done acc ∧ ∃ more, comp2Go g tc w1 vs1 g1 tc1 pa (wipes env own) rest = .ok more ∧ ys = done ++ more,
          fun H' p' => ⟨ps.length - (i + 1), by omega, rfl, hlt, p'⟩, fun x H2 y => ?_⟩
        have y := wk.walk.yields i Hc x H2 hlt q y
        have live2 : ∀ a, A a → Hc a ≠ none := same_live h3 live1
        obtain ⟨s2, p0, e0, r0⟩ := wk.item i x Hc H2 (fun a => A a ∨ a = D) hlt (.of h3) (fun a z => z.elim .inl fun z => .inr (by rw [z]; exact nD)) (fun a z => z.elim (live2 a) fun z => by rw [z, h4]; exact Option.some_ne_none _) y
        have e1 : rest = p0 :: ps.drop (i + 1) := by
          rw [← h2, List.drop_eq_getElem?_toList_append, e0]
          rfl
        rw [e1, comp2Go] at h7
        cases egp : g p0 with
        | none => rw [egp] at h7; cases h7
        | some l0 =>
          rw [egp] at h7
          simp only [ofOpt_some, Rp.ok_bind] at h7
          have SW : SRep G.F (fun a => A a ∨ a = D) (wipe σ own) H2 (wipes env own) :=
            SRep.wipes (SRep.inD SS s1 nD (h3.trans s2) (by rw [s2 _ _ h4]; exact Option.some_ne_none _) (pl_nc (s2 _ _ h4) True.intro)) own
          obtain ⟨k1, l', st, kk⟩ := hg _ H2 p0 x l0 r0 egp
          refine kk (wipe σ own) _ ⟨?_, ?_⟩
          · rw [wipe_setV fun z hz => hts _ ?_]
            · apply List.ext_getElem?
              intro j
              exact wipe_wipe σ own j
            · rw [← k1, ← st.keys]
              exact List.mem_map.mpr ⟨z, hz, rfl⟩
          have S1 := SW.puts st
          refine ht _ _ H2 _ _ S1 ?_
          cases ec : tc (puts (Pv.wipes env own) l0) with
          | bad => rw [ec] at h7; cases h7
          | exc x => rw [ec] at h7; cases h7
          | ok bb =>
            rw [ec] at h7
            simp only [Rp.ok_bind] at h7
            intro H3 s3
            have lenrest : (ps.drop (i + 1)).length + (i + 1) = ps.length := by
              rw [List.length_drop]; omega
            cases bb with
            | false =>
              rw [if_neg Bool.false_ne_true]
              simp only [Bool.false_eq_true, if_false] at h7
              exact ⟨acc, done, ps.drop (i + 1), by omega, rfl, h3.trans (s2.trans s3), s3 _ _ (s2 _ _ h4), h6.same (s2.trans s3), more, h7, h8⟩
            | true =>
              rw [if_pos rfl]
              simp only [if_true] at h7
              refine hw1 _ _ H3 _ _ (S1.same s3) ?_
              cases ew : w1 (puts (Pv.wipes env own) l0) with
              | bad => rw [ew] at h7; cases h7
              | exc x => rw [ew] at h7; cases h7
              | ok zs =>
                rw [ew] at h7
                simp only [Rp.ok_bind] at h7
                cases ei : compGo g1 tc1 pa (wipes (puts (Pv.wipes env own) l0) vs1) zs with
                | bad => rw [ei] at h7; cases h7
                | exc x => rw [ei] at h7; cases h7
                | ok us =>
                  rw [ei] at h7
                  simp only [Rp.ok_bind] at h7
                  cases er : comp2Go g tc w1 vs1 g1 tc1 pa (Pv.wipes env own) (ps.drop (i + 1)) with
                  | bad => rw [er] at h7; cases h7
                  | exc x => rw [er] at h7; cases h7
                  | ok more' =>
                    rw [er] at h7
                    cases h7
                    intro J1 H4 Gd1 Y1 s4 wk1
                    have sAll : Same Hc H4 := s2.trans (s3.trans s4)
                    have hD4 : H4 D = some (.lst acc) := sAll _ _ h4
                    have same1 : ∀ Hx, Keep (fun a => a = D) H4 Hx → Same H1 Hx := fun Hx kp a o qa => by
                      have nz : a ≠ D := fun e => by rw [e, nD] at qa; cases qa
                      exact ((h3 _ _ qa).same sAll).trans fun u eu => kp a u eu nz
                    refine inner_sim (A := A) (done0 := done) (acc0 := acc) hts1 _ hg1 ht1 he nA wk1 (fun Hx kp nn nc => ?_) hD4 (h6.same sAll) ei ?_ fun Hx acc' kp hDx rx => ?_
                    · refine SRep.puts (SRep.wipes (SRep.inD SS s1 nD (same1 Hx kp) nn nc) own) (Stores.ext ⟨fun a z => .inl z, fun a o qa nz => ((s3 _ _ qa).same s4).trans fun u eu => kp a u eu fun z => nz (.inr z)⟩ st)
                    · rw [h8, List.length_append, List.length_append] at hz; omega
                    · exact ⟨acc', done ++ us, ps.drop (i + 1), by omega, rfl, same1 Hx kp, hDx, rx, more', er, by rw [h8, List.append_assoc]⟩
      · have ei : i = ps.length := by omega
        subst ei
        have e1 : rest = [] := by
          rw [← h2]
          exact List.drop_eq_nil_of_le (Nat.le_refl _)
        rw [e1, comp2Go] at h7
        cases h7
        rw [List.append_nil] at h8
        subst h8
        refine .inl ⟨wk.walk.stops Hc q, q' _ _ (s1.trans h3) ?_⟩
        rw [Rep]
        exact ⟨D, acc, rfl, .inl ⟨nA, .inl h4⟩, Reps.ext ⟨fun a z => .inl (.inl z), fun a o z _ => Stay.refl z⟩ h6, Nat.le_of_lt hz⟩
theorem x_comp2 {scope : Scope} {own : List (Str × Nat)} {vs1 ts ts1 : List Nat} {p w1 : LX} {g g1 : GX} {tc tc1 : TX} (S : Sits G X k W) (hw : WlJ G X W false tg iter p) (ok : ∀ i, BlkOk (X i).N (X i).env.scope scope own)
    (hg : GJ G (blkF X scope) tg g ts) (ht : TsJ G (blkF X scope) noW ifs tc) (hw1 : WlJ G (blkF X scope) noW true tg1 iter1 w1) (hg1 : GJ G (blkF X scope) tg1 g1 ts1) (ht1 : TsJ G (blkF X scope) noW ifs1 tc1) (he : XJ G (blkF X scope) noW Rep elt pa)
    (hts : ∀ i ∈ ts, i ∈ own.map (·.2)) (hts1 : ∀ i ∈ ts1, i ∈ vs1) (hv : ∀ i ∈ vs1, i ∈ own.map (·.2)) (hs : ∀ i x, foldedSetIterable iter (X i).env x = pure x := by intro _ _; rfl) (hs1 : ∀ env x, foldedSetIterable iter1 env x = pure x := by intro _ _; rfl) :
    XJ G X W Rep (.ListComp elt [⟨tg, iter, ifs, 0⟩, ⟨tg1, iter1, ifs1, 0⟩] scope pos) (pComp2 (own.map (·.2)) vs1 p g tc w1 g1 tc1 pa) := by
  obtain ⟨wi, w1', w2⟩ := hw
  obtain ⟨gt, g1', g2⟩ := hg
  obtain ⟨tt, t1, t2⟩ := ht
  obtain ⟨wi1, v1, v2⟩ := hw1
  obtain ⟨gt1, h1, h2⟩ := hg1
  obtain ⟨tt1, u1, u2⟩ := ht1
  obtain ⟨te, e1, e2⟩ := he
  exact ⟨_, fun i => pe_lc2 (S.calm i) (S.nd i) (w1' i) (ok i) hv (fun s H C cl fp => g1' (i, s, H, C, cl, fp)) (fun s H C cl fp => t1 (i, s, H, C, cl, fp)) (fun s H C cl fp => v1 (i, s, H, C, cl, fp)) (fun s H C cl fp => h1 (i, s, H, C, cl, fp)) (fun s H C cl fp => u1 (i, s, H, C, cl, fp)) (fun s H C cl fp => e1 (i, s, H, C, cl, fp)) (hs i) hs1, comp2_sim hts hts1 w2 g2 t2 v2 h2 u2 e2⟩
end
end Pv
end
section
set_option autoImplicit false
set_option Elab.async false
set_option linter.all false
set_option maxRecDepth 100000
/-! Set comprehensions of two clauses, ints: the loops. -/
namespace Pv
open PySem PySem.Spec PyProof.Rows L2
variable [TN]
section
variable {prog : Program} {w : World} {A : Around} {R : Result → Shared → Prop} {s : Shared} {elt t0 i0 t1 i1 : Expr} {ifs0 ifs1 : List Expr} {scope : Scope} {pos : Pos} {it acc : Value} {env : PySem.Env}
/-- what is raised within the block leaves it -/
abbrev Out (prog : Program) (w : World) (A : Around) (env : PySem.Env) (R : Result → Shared → Prop) : Value → Shared → Prop := notedBy (model prog w) A env fun e s' => R (.error e) s'
/-- one turn up to the tests' answer: the next item, stored; what follows on yes, on no, at the end -/
def TurnOk (prog : Program) (w : World) (A : Around) (env : PySem.Env) (t : Expr) (ifs : List Expr) (it : Value) (E : Value → Shared → Prop) (stop yes no : Shared → Prop) (s : Shared) : Prop :=
  wpAny (model prog w) A (pyNext it) (fun r s₁ => match r with
    | none => stop s₁
    | some v => wpAny (model prog w) A (letOwnedTupleGo t it v) (fun _ s₂ => wpAny (model prog w) A (assign t env v) (fun _ s₃ =>
        wpAny (model prog w) A (forIn ifs true fun c r => if r = true then do let ok ← isTrue c env (eval c env); pure (ForInStep.yield ok) else pure (ForInStep.yield r)) (fun ok s₄ => if ok = true then yes s₄ else no s₄) E s₃) E s₂) E s₁) E s
theorem set_loop0 (hs : ∀ x, foldedSetIterable i1 env x = pure x) (I : Nat → Shared → Prop)
    (turn : ∀ n s, I n s → TurnOk prog w A env t0 ifs0 it (Out prog w A env R) (R (.ok .next))
      (fun s => wpAny (model prog w) A (eval i1 env) (fun x s₄ => wpAny (model prog w) A (pyIter x) (fun it1 s₅ =>
        codeAny (model prog w) A (.compStart (.SetComp elt [⟨t0, i0, ifs0, 0⟩, ⟨t1, i1, ifs1, 0⟩] scope pos) 1 it1 acc env) (fun r s' => match r with
          | .ok _ => ∃ m, m < n ∧ I m s'
          | .error _ => False) s₅) (Out prog w A env R) s₄) (Out prog w A env R) s)
      (fun s => ∃ m, m < n ∧ I m s) s) (n : Nat) (h : I n s) :
    codeAny (model prog w) A (.compLoop (.SetComp elt [⟨t0, i0, ifs0, 0⟩, ⟨t1, i1, ifs1, 0⟩] scope pos) 0 it acc env) R s := by
  refine codeAny_loop rfl I (fun n s hI => ?_) n h
  show wpAny _ A ((compTurn (.SetComp elt [⟨t0, i0, ifs0, 0⟩, ⟨t1, i1, ifs1, 0⟩] scope pos) 0 it acc env).onRaise (fun x => do noteFrame x env; theTreesLotGoes x)) _ _ s
  refine wpAny_noted ?_
  unfold compTurn
  refine wpAny_bind (wpAny_standAt (wpAny_bind (wpAny_mono (turn n s hI) (fun r s₁ h₁ => ?_) fun _ _ z => z)))
  cases r with
  | none => exact wpAny_pure h₁
  | some v =>
    refine wpAny_bind (wpAny_mono h₁ (fun _ s₂ h₂ => ?_) fun _ _ z => z)
    refine wpAny_bind (wpAny_mono h₂ (fun _ s₃ h₃ => wpAny_bind (wpAny_mono h₃ (fun ok s₄ h₄ => ?_) fun _ _ z => z)) fun _ _ z => z)
    cases ok with
    | false => exact wpAny_pure ⟨rfl, h₄⟩
    | true =>
      refine wpAny_bind (wpAny_mono h₄ (fun x s₅ h₅ => ?_) fun _ _ z => z)
      refine wpAny_bind (wpAny_standAt (wpAny_bind (wpAny_of_eq (hs x) (wpAny_bind (wpAny_holding (wpAny_mono h₅ (fun it1 s₆ h₆ => ?_) fun _ _ z => z))))))
      refine wpAny_bind (wpAny_runOwn ?_)
      rw [Around.mark_none]
      refine codeAny_mono h₆ fun r s' hr => ?_
      cases r with
      | ok f =>
        first
          | exact wpAny_pure ⟨rfl, hr⟩
          | exact wpAny_bind (wpAny_pure (wpAny_pure ⟨rfl, hr⟩))
      | error e => exact hr.elim
theorem set_loop1 (I : Nat → Shared → Prop)
    (turn : ∀ n s, I n s → TurnOk prog w A env t1 ifs1 it (Out prog w A env R) (R (.ok .next))
      (fun s => wpAny (model prog w) A (eval elt env) (fun x s₄ => wpAny (model prog w) A (call (.builtin "set.add") [acc, x]) (fun _ s₅ => ∃ m, m < n ∧ I m s₅) (Out prog w A env R) s₄) (Out prog w A env R) s)
      (fun s => ∃ m, m < n ∧ I m s) s) (n : Nat) (h : I n s) :
    codeAny (model prog w) A (.compLoop (.SetComp elt [⟨t0, i0, ifs0, 0⟩, ⟨t1, i1, ifs1, 0⟩] scope pos) 1 it acc env) R s := by
  refine codeAny_loop rfl I (fun n s hI => ?_) n h
  show wpAny _ A ((compTurn (.SetComp elt [⟨t0, i0, ifs0, 0⟩, ⟨t1, i1, ifs1, 0⟩] scope pos) 1 it acc env).onRaise (fun x => do noteFrame x env; theTreesLotGoes x)) _ _ s
  refine wpAny_noted ?_
  unfold compTurn
  refine wpAny_bind (wpAny_standAt (wpAny_bind (wpAny_mono (turn n s hI) (fun r s₁ h₁ => ?_) fun _ _ z => z)))
  cases r with
  | none => exact wpAny_pure h₁
  | some v =>
    refine wpAny_bind (wpAny_mono h₁ (fun _ s₂ h₂ => ?_) fun _ _ z => z)
    refine wpAny_bind (wpAny_mono h₂ (fun _ s₃ h₃ => wpAny_bind (wpAny_mono h₃ (fun ok s₄ h₄ => ?_) fun _ _ z => z)) fun _ _ z => z)
    cases ok with
    | false => exact wpAny_pure ⟨rfl, h₄⟩
    | true =>
      exact wpAny_bind (wpAny_bind (wpAny_mono h₄ (fun x s₅ h₅ => wpAny_bind (wpAny_standAt (wpAny_bind (wpAny_mono h₅ (fun _ s₆ h₆ => wpAny_pure (wpAny_pure ⟨rfl, h₆⟩)) fun _ _ z => z)))) fun _ _ z => z))
theorem set_start1 (h0 : codeAny (model prog w) A (.compLoop (.SetComp elt [⟨t0, i0, ifs0, 0⟩, ⟨t1, i1, ifs1, 0⟩] scope pos) 1 it acc env) R s)
    (h : wpAny (model prog w) A (pyIter it) (fun it' s' => codeAny (model prog w) A (.compLoop (.SetComp elt [⟨t0, i0, ifs0, 0⟩, ⟨t1, i1, ifs1, 0⟩] scope pos) 1 it' acc env) R s') (Out prog w A env R) s) :
    codeAny (model prog w) A (.compStart (.SetComp elt [⟨t0, i0, ifs0, 0⟩, ⟨t1, i1, ifs1, 0⟩] scope pos) 1 it acc env) R s := by
  refine codeAny_of_tree ?_
  show wpAny _ _ ((compStart (.SetComp elt [⟨t0, i0, ifs0, 0⟩, ⟨t1, i1, ifs1, 0⟩] scope pos) 1 it acc env).onRaise (fun x => do noteFrame x env; standAt theWindowsPlace)) _ _ s
  refine wpAny_notedAt ?_
  unfold compStart
  show wpAny _ _ (ask >>= _) _ _ s
  refine wpAny_bind (wpAny_askSetting (wpAny_ite ?_))
  split
  · first
      | exact wpAny_bind (wpAny_pure (wpAny_pure (And.intro rfl h0)))
      | exact wpAny_pure (And.intro rfl h0)
  · first
      | exact wpAny_bind (wpAny_rule (wpAny_bind (wpAny_standAt (wpAny_bind (wpAny_mono h (fun it' s' h' => wpAny_pure (And.intro rfl h')) fun _ _ x => x)))))
      | (refine wpAny_bind (wpAny_rule ?_); show wpAny _ _ (standAt i1.pos >>= _) _ _ s; exact wpAny_bind (wpAny_standAt (wpAny_bind (wpAny_mono h (fun it' s' h' => wpAny_pure (And.intro rfl h')) fun _ _ x => x))))
end
end Pv
end
section
set_option autoImplicit false
set_option Elab.async false
set_option linter.all false
set_option maxRecDepth 100000
/-! Set comprehensions of two clauses, ints: a turn; the inner loop. -/
namespace Pv
open PySem PySem.Spec PyProof.Rows L2
variable [TN]
section
variable {Z : Cx} {pins : List (Addr × Obj)} {σ : St} {H : Hp} {s : Shared} {tg : Expr} {ifs : List Expr} {J : It} {fp : List Addr} {it : Addr} {tn : Nat → Heap → Prop} {g : TG} {tt : TT} {i : Nat}
theorem quietly {α : Type} {M : Model} {A : Around} {t : Sem α} {Q Q' : α → Shared → Prop} {E E' : Value → Shared → Prop} (hx : E = fun _ _ => False) (h : wpAny M A t Q E s) (hQ : ∀ a s, Q a s → Q' a s) : wpAny M A t Q' E' s :=
  wpAny_mono h hQ fun _ _ z => by rw [hx] at z; exact z.elim
/-- the loop ends -/
theorem turn_stop {E : Value → Shared → Prop} {stop yes no : Shared → Prop} (T : Turn Z.prog Z.w Z.K tg J fp it tn) (hc : Z.calm = true) (I : Inv Z pins σ H s) (nf : ∀ b ∈ fp, FpOk Z pins H b) (st : tn i s.heap) (hs : J.stop i H) (k : ∀ s', Inv Z pins σ H s' → stop s') :
    TurnOk Z.prog Z.w Z.A Z.env tg ifs (.ref it) E stop yes no s :=
  quietly rfl (T.done Z rfl rfl rfl hc i pins s σ H (fun _ _ => False) I nf st hs) fun r s' ⟨e, I'⟩ => by
    subst e
    exact k s' I'
/-- the loop goes on: P, what the iterator stands on, stays in view until the turn's end -/
theorem turn_go {E : Value → Shared → Prop} {stop yes no : Shared → Prop} {Kp : St → Prop} {yesR noR : St → Hp → Prop} (hx : Z.xe = fun _ _ => False) (T : Turn Z.prog Z.w Z.K tg J fp it tn) (hc : Z.calm = true) (pg : PG Z tg g) (pt : PTs Z ifs tt) (I : Inv Z pins σ H s) (nf : ∀ b ∈ fp, FpOk Z pins H b) (st : tn i s.heap) (hg : J.go i H)
    (step : ∀ x H', J.yld i H x H' → g x σ H' fun σ2 H2 => Kp σ2 ∧ tt σ2 H2 fun b H3 => if b = true then yesR σ2 H3 else noR σ2 H3)
    (k : ∀ (P : List (Addr × Obj)), (∀ {σ' : St} {H' : Hp} {s' : Shared}, Inv Z (pins ++ P) σ' H' s' → tn (i + 1) s'.heap ∧ ∀ b ∈ fp, H' b = none) → ∀ σ2 H3 s', Kp σ2 → Inv Z (pins ++ P) σ2 H3 s' → (yesR σ2 H3 → yes s') ∧ (noR σ2 H3 → no s')) :
    TurnOk Z.prog Z.w Z.A Z.env tg ifs (.ref it) E stop yes no s := by
  refine quietly rfl (T.item Z rfl rfl rfl hc i pins s σ H (fun _ _ => False) I nf st hg) fun r s1 ⟨u, e, h1⟩ => ?_
  subst e
  refine quietly rfl h1 fun _ s2 ⟨x, H2, I2, r2, y2, st2, n2⟩ => ?_
  have I2' := I2.pinned (fun b hb => ⟨n2 b hb, (nf b hb).2⟩) (T.obj _ _ st2)
  refine quietly hx (pg.run _ s2 σ H2 x u _ I2' r2 (step x H2 y2)) fun _ s3 ⟨σ3, H3, I3, hk, q3⟩ => ?_
  refine quietly hx (pt.run _ s3 σ3 H3 _ I3 q3) fun b s4 ⟨H4, I4, q4⟩ => ?_
  obtain ⟨k1, k2⟩ := k (pinsAt fp s2.heap) (fun {σ' H' s'} I' => by
    have pin' : ∀ b ∈ fp, ∀ o, s2.heap.get? b = some o → s'.heap.get? b = some o ∧ H' b = none := fun b hb o e =>
      let z := I'.pin (b, o) (List.mem_append_right _ (List.mem_append_right _ (mem_pinsAt hb e)))
      ⟨z.1, z.2.1⟩
    refine ⟨T.keep _ _ _ st2 fun b hb o e => (pin' b hb o e).1, fun b hb => ?_⟩
    obtain ⟨o, e, _⟩ := T.obj _ _ st2 b hb
    exact (pin' b hb o e).2) σ3 H4 s4 hk I4
  cases b with
  | true => exact k1 q4
  | false => exact k2 q4
end
section
variable {Z : Cx} {pins : List (Addr × Obj)} {σ8 : St} {H9 : Hp} {s9 : Shared} {elt t0 i0 t1 i1 : Expr} {ifs0 ifs1 : List Expr} {scope : Scope} {pos : Pos} {D : Addr}
/-- what the inner loop wishes -/
def tIn2 (w : World) (D : Addr) (g1 : TG) (tt1 : TT) (te : TE) (vs1 : List Nat) (σ2 : St) (Nx : Hp → Prop) : It → Hp → Prop := fun J1 H4 => ∃ W1 : Nat → Nat → Hp → Prop, (∃ m, W1 0 m H4) ∧ ∀ j k H, W1 j k H →
  (J1.stop j H ∧ Nx H) ∨ (J1.go j H ∧ ∃ Nx1 : Hp → Prop, (∀ H', Nx1 H' → ∃ k', k' < k ∧ W1 (j + 1) k' H') ∧ ∀ x H', J1.yld j H x H' → g1 x (wipe σ2 vs1) H' fun σ3 H5 => wipe σ3 vs1 = wipe σ2 vs1 ∧ tt1 σ3 H5 fun b H6 =>
    if b = true then te σ3 H6 fun y H7 => rSAdd w (.ref D) [y] H7 fun _ H8 => Nx1 H8 else Nx1 H6)
theorem set_inner {wi1 : TI} {g1 : TG} {tt1 : TT} {te : TE} {vs1 : List Nat} {Nx : Hp → Prop} {Rr : Shared → Prop} {R : Result → Shared → Prop} (hx : Z.xe = fun _ _ => False) (hc : Z.calm = true) (pi1 : PI Z t1 i1 wi1) (pg1 : PG Z t1 g1) (pt1 : PTs Z ifs1 tt1) (pe : PE Z elt te)
    (I9 : Inv Z pins σ8 H9 s9) (q9 : wi1 σ8 H9 (tIn2 Z.w D g1 tt1 te vs1 σ8 Nx)) (fin : ∀ s' H', Inv Z pins (wipe σ8 vs1) H' s' → Nx H' → Rr s') :
    wpAny (model Z.prog Z.w) Z.A (eval i1 Z.env) (fun x s₄ => wpAny (model Z.prog Z.w) Z.A (pyIter x) (fun it1 s₅ =>
      codeAny (model Z.prog Z.w) Z.A (.compStart (.SetComp elt [⟨t0, i0, ifs0, 0⟩, ⟨t1, i1, ifs1, 0⟩] scope pos) 1 it1 (.ref D) Z.env) (fun r s' => match r with
        | .ok _ => Rr s'
        | .error _ => False) s₅) (Out Z.prog Z.w Z.A Z.env R) s₄) (Out Z.prog Z.w Z.A Z.env R) s9 := by
  refine quietly hx (pi1.run pins s9 σ8 H9 _ I9 q9) fun xv s10 h10 => quietly hx h10 fun itv s11 h11 => ?_
  obtain ⟨it1, fp1, tn1, J1, H11, e1, I11, T1, st11, f11, W1, ⟨m1, w1⟩, turn1⟩ := h11
  subst e1
  have ok1 : ∀ {H' : Hp}, (∀ b ∈ fp1, H' b = none) → ∀ b ∈ fp1, FpOk Z pins H' b := fun hn b hb => ⟨hn b hb, (f11 b hb).2⟩
  have loop1 : codeAny (model Z.prog Z.w) Z.A (.compLoop (.SetComp elt [⟨t0, i0, ifs0, 0⟩, ⟨t1, i1, ifs1, 0⟩] scope pos) 1 (.ref it1) (.ref D) Z.env) (fun r s' => match r with
        | .ok _ => Rr s'
        | .error _ => False) s11 := by
    refine set_loop1 (fun k s' => ∃ j H', Inv Z pins (wipe σ8 vs1) H' s' ∧ tn1 j s'.heap ∧ (∀ b ∈ fp1, H' b = none) ∧ W1 j k H') ?_ m1 ⟨0, H11, I11.weak (wipe_length _ _) (fun j v e => (wipe_some e).1), st11, fun b hb => (f11 b hb).1, w1⟩
    rintro k s12 ⟨j, H12, I12, st12, n12, w12⟩
    rcases turn1 j k H12 w12 with ⟨stop1, nx1⟩ | ⟨go1, Nx1, hNx1, step1⟩
    · exact turn_stop T1 hc I12 (ok1 n12) st12 stop1 fun s' I' => fin s' H12 I' nx1
    · refine turn_go hx T1 hc pg1 pt1 I12 (ok1 n12) st12 go1 step1 fun P back σ3 H6 s' hw I' => ?_
      have next : ∀ {s' : Shared} {H' : Hp}, Inv Z (pins ++ P) σ3 H' s' → Nx1 H' → ∃ m, m < k ∧ ∃ j H', Inv Z pins (wipe σ8 vs1) H' s' ∧ tn1 j s'.heap ∧ (∀ b ∈ fp1, H' b = none) ∧ W1 j m H' := fun {s' H'} I'' nx => by
        obtain ⟨m', hm, w'⟩ := hNx1 H' nx
        obtain ⟨b1, b2⟩ := back I''
        exact ⟨m', hm, j + 1, H', I''.unpinned.weak (by rw [← hw, wipe_length]) (fun j v e => by rw [← hw] at e; exact (wipe_some e).1), b1, b2, w'⟩
      refine ⟨fun q => ?_, fun q => next I' q⟩
      refine quietly hx (pe.run _ s' σ3 H6 _ I' q) fun z s17 ⟨yv, H17, I17, r17, q17⟩ => ?_
      exact quietly hx (mt_sadd _ s17 σ3 H17 (.ref D) [yv] (.ref D) [z] _ I17 rfl (.cons r17 .nil) q17) fun _ s18 ⟨_, H18, I18, _, q18⟩ => next I18 q18
  exact set_start1 loop1 (T1.self Z.A 0 _ _ _ st11 loop1)
end
end Pv
end
section
set_option autoImplicit false
set_option Elab.async false
set_option linter.all false
set_option maxRecDepth 100000
/-! Set comprehensions of two clauses, ints: the whole. -/
namespace Pv
open PySem PySem.Spec PyProof.Rows L2
variable [TN]
section
variable {X : Cx} {elt t0 i0 t1 i1 : Expr} {ifs0 ifs1 : List Expr} {scope : Scope} {pos : Pos}
def tSc2 (w : World) (wi : TI) (g : TG) (tt : TT) (wi1 : TI) (g1 : TG) (tt1 : TT) (te : TE) (vs vs1 : List Nat) : TE := fun σ H Q => wi σ H fun J H1 => ∀ D, H1 D = none → ∃ W : Nat → Nat → Hp → Prop, (∃ m, W 0 m (upd H1 D (SetO w D (fun _ => false) 0))) ∧ ∀ i m H, W i m H →
  (J.stop i H ∧ Q (.ref D) H) ∨ (J.go i H ∧ ∃ Nx : Hp → Prop, (∀ H', Nx H' → ∃ m', m' < m ∧ W (i + 1) m' H') ∧ ∀ x H', J.yld i H x H' → g x (wipe σ vs) H' fun σ2 H2 => wipe σ2 vs = wipe σ vs ∧ tt σ2 H2 fun b H3 =>
    if b = true then wi1 σ2 H3 (tIn2 w D g1 tt1 te vs1 σ2 Nx) else Nx H3)
theorem setR_fresh {h : Heap} (w : World) : SetR w (h.push { cls := .type "set", dict := none, data := .set #[] 0 (.fresh 0 0 (!w.params.followText "set-order")) }) h.objs.size (fun _ => false) 0 :=
  ⟨_, #[], 0, _, Heap.get?_push_size _ rfl, ⟨rfl, rfl, rfl⟩, rfl, (fun e he => by simp at he), (by simp), (fun k => by simp), (by decide), (by rfl), rfl, List.Pairwise.nil, by
    show _ ∨ (!w.params.followText "set-order") = true
    cases w.params.followText "set-order"
    · exact .inr rfl
    · exact .inl rfl⟩
theorem pe_sc2 {own : List (Str × Nat)} {vs1 : List Nat} {wi wi1 : TI} {g g1 : TG} {tt tt1 : TT} {te : TE} (hc : X.calm = true) (hN : X.N.Nodup) (hi : PI X t0 i0 wi) (ok : BlkOk X.N X.env.scope scope own) (hv : ∀ i ∈ vs1, i ∈ own.map (·.2))
    (hg : ∀ (s : Shared) (H : Hp) (C : Addr) (cl : List (Str × Addr)) (fp : List Addr), PG (X.blk s H scope (compEnvC scope cl C X.env) fp) t0 g) (ht : ∀ (s : Shared) (H : Hp) (C : Addr) (cl : List (Str × Addr)) (fp : List Addr), PTs (X.blk s H scope (compEnvC scope cl C X.env) fp) ifs0 tt)
    (hi1 : ∀ (s : Shared) (H : Hp) (C : Addr) (cl : List (Str × Addr)) (fp : List Addr), PI (X.blk s H scope (compEnvC scope cl C X.env) fp) t1 i1 wi1)
    (hg1 : ∀ (s : Shared) (H : Hp) (C : Addr) (cl : List (Str × Addr)) (fp : List Addr), PG (X.blk s H scope (compEnvC scope cl C X.env) fp) t1 g1) (ht1 : ∀ (s : Shared) (H : Hp) (C : Addr) (cl : List (Str × Addr)) (fp : List Addr), PTs (X.blk s H scope (compEnvC scope cl C X.env) fp) ifs1 tt1)
    (he : ∀ (s : Shared) (H : Hp) (C : Addr) (cl : List (Str × Addr)) (fp : List Addr), PE (X.blk s H scope (compEnvC scope cl C X.env) fp) elt te) (hs : ∀ x, foldedSetIterable i0 X.env x = pure x := by intro _; rfl) (hs1 : ∀ env x, foldedSetIterable i1 env x = pure x := by intro _ _; rfl) :
    PE X (.SetComp elt [⟨t0, i0, ifs0, 0⟩, ⟨t1, i1, ifs1, 0⟩] scope pos) (tSc2 X.w wi g tt wi1 g1 tt1 te (own.map (·.2)) vs1) := by
  refine ⟨fun pins s σ H Q I h => ?_⟩
  rw [PpSet.eval_SetComp]
  have hfree : ∀ y ∈ scope.names, y.2 = .free → ∃ c, X.env.cells.lookup y.1 = some c := fun y hy e => (ok.free y hy e).elim (fun k => I.ok.has _ (.inl k)) fun k => I.ok.has _ (.inr k)
  refine wpAny_comprehension_free (use := none) rfl hs (closure_ok hfree) ok.kind (fun y hy e => by rw [ok.uniq y hy, e]) (thn (hi.run pins s σ H _ I h) fun xv s1 hx => thn hx fun itv s2 h2 => ?_)
  obtain ⟨it, fp, tn, J, H2, e, I2, T, st2, f2, q⟩ := h2
  subst e
  refine PpSet.newSet_ok (newEnv_comp ?_)
  generalize hD : s2.heap.objs.size = D
  obtain ⟨W, ⟨m0, w0⟩, turn⟩ := q D (I2.hok.fresh (Nat.le_of_eq hD))
  generalize hs3 : ({ s2 with heap := s2.heap.push { cls := .type "set", dict := none, data := .set #[] 0 (.fresh 0 0 (!X.w.params.followText "set-order")) } } : Shared) = s3
  have keep3 : ∀ b o, s2.heap.get? b = some o → s3.heap.get? b = some o := fun b o e => by rw [← hs3]; exact Heap.get?_push_of_some _ e
  have size3 : s3.heap.objs.size = s2.heap.objs.size + 1 := by rw [← hs3]; exact Heap.size_push _ _
  generalize hH3 : upd H2 D (SetO X.w D (fun _ => false) 0) = H3 at w0
  have I3 : Inv X pins σ H3 s3 := by
    rw [← hs3, ← hH3]
    refine I2.laid (t' := s2.toks) (fun b o e => Heap.get?_push_of_some _ e) (Nat.le_of_eq hD) ?_
    rw [← hD]
    exact setO_new (setR_fresh X.w)
  have f3 : ∀ b ∈ fp, FpOk X pins H3 b ∧ b < s3.heap.objs.size := fun b hb => by
    obtain ⟨o, e, _⟩ := T.obj _ _ st2 b hb
    have hlt := Heap.lt_size e
    refine ⟨⟨?_, (f2 b hb).2⟩, by rw [size3]; exact Nat.lt_succ_of_lt hlt⟩
    rw [← hH3, upd_ne (by rw [← hD]; exact Nat.ne_of_lt hlt)]
    exact (f2 b hb).1
  have I4 := block_start I3 ok hN f3
  have pg := hg s3 H3 s3.heap.objs.size (cellsFrom (s3.heap.objs.size + 1) scope.names (cloFrom X.env.cells scope.names [])) fp
  have pt := ht s3 H3 s3.heap.objs.size (cellsFrom (s3.heap.objs.size + 1) scope.names (cloFrom X.env.cells scope.names [])) fp
  have pe := he s3 H3 s3.heap.objs.size (cellsFrom (s3.heap.objs.size + 1) scope.names (cloFrom X.env.cells scope.names [])) fp
  have pi1 := hi1 s3 H3 s3.heap.objs.size (cellsFrom (s3.heap.objs.size + 1) scope.names (cloFrom X.env.cells scope.names [])) fp
  have pg1 := hg1 s3 H3 s3.heap.objs.size (cellsFrom (s3.heap.objs.size + 1) scope.names (cloFrom X.env.cells scope.names [])) fp
  have pt1 := ht1 s3 H3 s3.heap.objs.size (cellsFrom (s3.heap.objs.size + 1) scope.names (cloFrom X.env.cells scope.names [])) fp
  show codeAny _ _ (.compStart (.SetComp elt [⟨t0, i0, ifs0, 0⟩, ⟨t1, i1, ifs1, 0⟩] scope pos) 0 (.ref it) (.ref D) (compEnvC scope (cellsFrom (s3.heap.objs.size + 1) scope.names (cloFrom X.env.cells scope.names [])) s3.heap.objs.size X.env)) (compPost (model X.prog X.w) X.A X.xe none _ (.ref D) s3.heap.objs.size) { s3 with heap := pushCells (s3.heap.push { cls := .type "dict", data := .dict #[] }) scope.names }
  generalize hce : compEnvC scope (cellsFrom (s3.heap.objs.size + 1) scope.names (cloFrom X.env.cells scope.names [])) s3.heap.objs.size X.env = ce at I4 pg pt pe pi1 pg1 pt1 ⊢
  have cL : ce.locals = s3.heap.objs.size := by subst hce; rfl
  generalize hs4 : ({ s3 with heap := pushCells (s3.heap.push { cls := .type "dict", data := .dict #[] }) scope.names } : Shared) = s4 at I4 ⊢
  have st4 : tn 0 s4.heap := T.keep _ _ _ st2 fun b _ o e => by rw [← hs4]; exact pushCells_keeps _ _ _ _ (Heap.get?_push_of_some _ (keep3 b o e))
  have stat : ∀ {σ' : St} {H' : Hp} {s' : Shared}, Inv (X.blk s3 H3 scope ce fp) [] σ' H' s' → (∀ b ∈ fp, H' b = none) → ∀ b ∈ fp, FpOk (X.blk s3 H3 scope ce fp) [] H' b := fun {σ' H' s'} I' hn b hb =>
    ⟨hn b hb, (I'.ok.exf b hb).1, I'.ok.exfs b hb, .inl hb, fun x c e => (I'.ok.exf b hb).2 x c e, fun p hp => absurd (show p ∈ ([] : List (Addr × Obj)) ++ [] from hp) (by simp)⟩
  refine PpSet.codeAny_compStart_set ?loop (T.self X.A 0 _ _ _ st4 ?loop)
  refine set_loop0 (hs1 ce) (fun n s' => ∃ i H', Inv (X.blk s3 H3 scope ce fp) [] (wipe σ (own.map (·.2))) H' s' ∧ tn i s'.heap ∧ (∀ b ∈ fp, H' b = none) ∧ W i n H') ?_ m0 ⟨0, H3, I4, st4, fun b hb => (f3 b hb).1.1, w0⟩
  rintro n s5 ⟨i, H5, I5, st5, n5, w5⟩
  rcases turn i n H5 w5 with ⟨stop, qq⟩ | ⟨go, Nx, hNx, step⟩
  · refine turn_stop (Z := X.blk s3 H3 scope ce fp) T hc I5 (stat I5 n5) st5 stop fun s6 I6 => ?_
    have I7 : Inv X pins σ H5 s6 := I3.call' (ch := fp) I6.os I6.base I6.hok I6.bare fun b hb => ⟨(f3 b hb).1.2.2.2.1, (f3 b hb).1.2.1, (f3 b hb).1.2.2.2.2.1, (f3 b hb).1.2.2.2.2.2⟩
    have nC : H5 s3.heap.objs.size = none := by
      have z : H5 ce.locals = none := I6.free
      rw [cL] at z
      exact z
    obtain ⟨m, hn, _⟩ := I6.loc
    have hn : s6.heap.Ns ce.locals m := hn
    rw [cL] at hn
    obtain ⟨g0, g1, g2, g3, g4, g5⟩ := I3.fpOk (Nat.le_refl _) nC
    exact ⟨m, hn, fun h'' sb => ⟨.ref D, H5, I7.turned (t' := s6.toks) (fun b o hb e => (sb.2 b hb).trans e) g0 g1 g3 g4 g5, rfl, qq⟩⟩
  · refine turn_go (Z := X.blk s3 H3 scope ce fp) rfl T hc pg pt I5 (stat I5 n5) st5 go step fun P back σ8 H9 s9 hw I9 => ?_
    have next : ∀ {σ9 : St} {s' : Shared} {H' : Hp}, Inv (X.blk s3 H3 scope ce fp) ([] ++ P) σ9 H' s' → (wipe σ (own.map (·.2))).length = σ9.length → (∀ (j : Nat) v, (wipe σ (own.map (·.2)))[j]? = some (some v) → σ9[j]? = some (some v)) → Nx H' →
        ∃ m, m < n ∧ ∃ i H', Inv (X.blk s3 H3 scope ce fp) [] (wipe σ (own.map (·.2))) H' s' ∧ tn i s'.heap ∧ (∀ b ∈ fp, H' b = none) ∧ W i m H' := fun {σ9 s' H'} I' hl hk nx => by
      obtain ⟨m', hm, w'⟩ := hNx H' nx
      obtain ⟨b1, b2⟩ := back I'
      exact ⟨m', hm, i + 1, H', (I'.unpinned (pins := [])).weak hl hk, b1, b2, w'⟩
    have hl8 : (wipe σ (own.map (·.2))).length = σ8.length := by rw [← hw, wipe_length]
    have hk8 : ∀ (j : Nat) v, (wipe σ (own.map (·.2)))[j]? = some (some v) → σ8[j]? = some (some v) ∧ (wipe σ8 vs1)[j]? = some (some v) := fun j v e => by
      rw [← hw] at e
      obtain ⟨e1, e2⟩ := wipe_some e
      exact ⟨e1, by rw [wipe_out fun z => e2 (hv j z)]; exact e1⟩
    refine ⟨fun q => ?_, fun q => next I9 hl8 (fun j v e => (hk8 j v e).1) q⟩
    exact set_inner (Z := X.blk s3 H3 scope ce fp) rfl hc pi1 pg1 pt1 pe I9 q fun s' H' I' nx => next I' (hl8.trans (wipe_length σ8 vs1).symm) (fun j v e => (hk8 j v e).2) nx
end
end Pv
end
section
set_option autoImplicit false
set_option Elab.async false
set_option linter.all false
set_option maxRecDepth 100000
/-! Set comprehensions of two clauses: the mirror. -/
namespace Pv
open PySem PySem.Spec PyProof.Rows L2
variable [TN]
theorem setO_code {w : World} {D c : Addr} {S : Int → Bool} {n : Nat} {q : Str} : SetO w D S n ≠ LamX.CodeO c q := fun z => by
  unfold SetO LamX.CodeO at z
  have e := HO.ext.inj z
  obtain ⟨ob, hob⟩ : ∃ ob : Obj, ob = { cls := .none, data := .fields #[.none, .str q 0] } := ⟨_, rfl⟩
  let fr : Obj := { cls := .none, data := .freed }
  let h0 : Heap := { objs := (Array.replicate c fr).push ob }
  have hc : h0.get? c = some ob := by
    have q1 : h0.objs[c]? = some ob := by
      show ((Array.replicate c fr).push ob)[c]? = some ob
      rw [Array.getElem?_push, if_pos (by simp)]
    show (match h0.objs[c]? with | some ⟨_, _, .freed, _⟩ => none | o => o) = some ob
    rw [q1, hob]
  have r : SetR w h0 D S n := by
    have e' := congrFun e h0
    exact (iff_of_eq e').mpr ⟨ob, #[.none, .str q 0], 0, hc, by rw [hob], rfl⟩
  obtain ⟨o, es, ep, t, h1, _, h2, _⟩ := r
  have h1' : h0.get? D = some o := h1
  rcases Nat.lt_trichotomy D c with l | l | l
  · have q1 : h0.objs[D]? = some fr := by
      show ((Array.replicate c fr).push ob)[D]? = some fr
      rw [Array.getElem?_push]
      simp [Nat.ne_of_lt l, l]
    have : h0.get? D = none := by
      show (match h0.objs[D]? with | some ⟨_, _, .freed, _⟩ => none | o => o) = none
      rw [q1]
    rw [this] at h1'; cases h1'
  · rw [l, hc] at h1'
    cases h1'
    rw [hob] at h2; cases h2
  · have q1 : h0.objs[D]? = none := by
      show ((Array.replicate c fr).push ob)[D]? = none
      rw [Array.getElem?_eq_none]
      simp; omega
    have : h0.get? D = none := by
      show (match h0.objs[D]? with | some ⟨_, _, .freed, _⟩ => none | o => o) = none
      rw [q1]
    rw [this] at h1'; cases h1'
/-- what is no table, and no code object, is written -/
theorem stay_upd2 {H : Hp} {D a : Addr} {u o v : HO} (h : H D = some u) (n : NT u) (nc : ∀ c q, u ≠ LamX.CodeO c q) (q : H a = some v) (ne : a ≠ D) : Stay H (upd H D o) a v := by
  have e : upd H D o a = some v := by rw [upd_ne ne]; exact q
  have tb : ∀ qq, LamX.TabS H a qq → LamX.TabS (upd H D o) a qq := fun qq t => by
    obtain ⟨ps, h1, h2, h3⟩ := t
    refine ⟨ps, by rw [upd_ne ne]; exact h1, h2, fun pos cv hc => ?_⟩
    obtain ⟨c, e1, e2⟩ := h3 pos cv hc
    refine ⟨c, e1, ?_⟩
    rw [upd_ne]
    · exact e2
    · intro z
      rw [z, h] at e2; exact nc _ _ (Option.some.inj e2)
  cases v <;> first | exact e | exact ⟨⟨_, e⟩, fun qq _ => tb qq⟩
/-- the set at D has just these ints -/
def SetAt (w : World) (D : Addr) (H : Hp) (done : List PV) : Prop := ∃ S n xs, H D = some (SetO w D S n) ∧ intsOf done = some xs ∧ (∀ k, S k = true ↔ k ∈ xs) ∧ n ≤ xs.length
theorem SetAt.there {w : World} {D : Addr} {H : Hp} {done : List PV} (h : SetAt w D H done) : H D ≠ none := by
  obtain ⟨S, n, xs, h1, _⟩ := h
  rw [h1]; exact Option.some_ne_none _
theorem SetAt.nc {w : World} {D : Addr} {H : Hp} {done : List PV} (h : SetAt w D H done) : ∀ q, H D ≠ some (LamX.CodeO D q) := fun q e => by
  obtain ⟨S, n, xs, h1, _⟩ := h
  rw [h1] at e; exact setO_code (Option.some.inj e)
theorem SetAt.same {w : World} {D : Addr} {H H' : Hp} {done : List PV} (h : SetAt w D H done) (s : Same H H') : SetAt w D H' done := by
  obtain ⟨S, n, xs, h1, h2⟩ := h
  exact ⟨S, n, xs, s _ _ h1, h2⟩
theorem intsOf_app : ∀ {a b : List PV} {xs ys : List Int}, intsOf a = some xs → intsOf b = some ys → intsOf (a ++ b) = some (xs ++ ys)
  | [], b, xs, ys, h1, h2 => by cases h1; exact h2
  | p :: a, b, xs, ys, h1, h2 => by
    cases p <;> (try cases h1)
    rename_i i
    unfold intsOf at h1
    cases e : intsOf a with
    | none => rw [e] at h1; cases h1
    | some zs =>
      rw [e] at h1
      cases h1
      rw [List.cons_append, intsOf, intsOf_app e h2]; rfl
theorem intsOf_split : ∀ {a b : List PV} {zs : List Int}, intsOf (a ++ b) = some zs → ∃ xs ys, intsOf a = some xs ∧ intsOf b = some ys ∧ zs = xs ++ ys
  | [], b, zs, h => ⟨[], zs, rfl, h, rfl⟩
  | p :: a, b, zs, h => by
    rw [List.cons_append] at h
    cases p <;> (try cases h)
    rename_i i
    unfold intsOf at h
    cases e : intsOf (a ++ b) with
    | none => rw [e] at h; cases h
    | some us =>
      rw [e] at h
      cases h
      obtain ⟨xs, ys, h1, h2, h3⟩ := intsOf_split e
      exact ⟨i :: xs, ys, by rw [intsOf, h1]; rfl, h2, by rw [h3]; rfl⟩
theorem ints_at {a b : List PV} {p : PV} {zs : List Int} (h : intsOf (a ++ p :: b) = some zs) : ∃ c, p = .int c ∧ (∃ xs, intsOf a = some xs ∧ xs.length < zs.length) ∧ True := by
  obtain ⟨xs, ys, h1, h2, h3⟩ := intsOf_split h
  cases p <;> (try cases h2)
  rename_i i
  refine ⟨i, rfl, ⟨xs, h1, ?_⟩, trivial⟩
  unfold intsOf at h2
  cases e : intsOf b with
  | none => rw [e] at h2; cases h2
  | some us => rw [e] at h2; cases h2; rw [h3]; simp
theorem intsOf_len : ∀ {a : List PV} {xs : List Int}, intsOf a = some xs → xs.length = a.length
  | [], _, h => by cases h; rfl
  | p :: a, xs, h => by
    cases p <;> (try cases h)
    unfold intsOf at h
    cases e : intsOf a with
    | none => rw [e] at h; cases h
    | some us => rw [e] at h; cases h; simp [intsOf_len e]
theorem SetAt.add {w : World} {D : Addr} {H : Hp} {done : List PV} {c : Int} {N : Hp → Prop} (h : SetAt w D H done) (hz : done.length < 64) (k : ∀ H', Keep (fun a => a = D) H H' → SetAt w D H' (done ++ [.int c]) → N H') : rSAdd w (.ref D) [.int c] H fun _ H8 => N H8 := by
  obtain ⟨S, n, xs, h1, h2, h3, h4⟩ := h
  have hl := intsOf_len h2
  refine ⟨D, c, S, n, rfl, rfl, h1, ?_, k _ (fun a o q nz => stay_upd2 h1 True.intro (fun _ _ => setO_code) q nz) ⟨_, _, xs ++ [c], upd_same, intsOf_app h2 rfl, fun j => ?_, ?_⟩⟩
  · have : n < 64 := by omega
    exact Nat.lt_of_lt_of_le (by omega : n + 1 < 66) (by decide)
  · simp [h3]
  · rw [List.length_append, List.length_singleton]
    split <;> omega
section
variable {G : Gm} {ι : Type} {X : ι → Cx} {W : WX} {k : Nat} {pa : PX} {pos : Pos} {tg iter tg1 iter1 elt : Expr} {ifs ifs1 : List Expr}
theorem inner_simS {A : Av} {w : World} {D : Addr} {σ2 : St} {env1 : Env} {vs1 ts1 : List Nat} {g1 : GX} {tc1 : TX} {gt1 : TG} {tt1 : TT} {te : TE} (hts1 : ∀ i ∈ ts1, i ∈ vs1) (Nx : Hp → Prop)
    (hg1 : ∀ A H p x l, Rep G.F A H p x → g1 p = some l → l.map (·.1) = ts1 ∧ ∃ l', Stores G.F A H l l' ∧ ∀ σ Q, Q (setV σ l') H → gt1 x σ H Q)
    (ht1 : ∀ A σ H env Q, SRep G.F A σ H env → TEnd G A noW σ H Q (tc1 env) → tt1 σ H Q)
    (he : ∀ A σ H env Q, SRep G.F A σ H env → XEnd G A noW σ H (fun c x H' => Rep G.F A H' c x) Q (pa env) → te σ H Q)
    {H4 : Hp} {J1 : It} {Gd : Hp → Prop} {Y : Nat → Hp → V → Hp → Prop} {ys us done0 : List PV} (nA : ¬ A D) (wk : WalkOk G.F (fun a => A a ∨ a = D) true H4 ys J1 Gd Y)
    (hS : ∀ H, Keep (fun a => a = D) H4 H → H D ≠ none → (∀ q, H D ≠ some (LamX.CodeO D q)) → SRep G.F (fun a => A a ∨ a = D) σ2 H env1) (hr : SetAt w D H4 done0) (hm : compGo g1 tc1 pa (wipes env1 vs1) ys = .ok us) (hz : ∃ ns, intsOf (done0 ++ us) = some ns ∧ ns.length < 64)
    (hN : ∀ H, Keep (fun a => a = D) H4 H → SetAt w D H (done0 ++ us) → Nx H) :
    ∃ W1 : Nat → Nat → Hp → Prop, (∃ m, W1 0 m H4) ∧ ∀ j k H, W1 j k H →
      (J1.stop j H ∧ Nx H) ∨ (J1.go j H ∧ ∃ Nx1 : Hp → Prop, (∀ H', Nx1 H' → ∃ k', k' < k ∧ W1 (j + 1) k' H') ∧ ∀ x H', J1.yld j H x H' → gt1 x (wipe σ2 vs1) H' fun σ3 H5 => wipe σ3 vs1 = wipe σ2 vs1 ∧ tt1 σ3 H5 fun b H6 =>
        if b = true then te σ3 H6 fun y H7 => rSAdd w (.ref D) [y] H7 fun _ H8 => Nx1 H8 else Nx1 H6) := by
  refine ⟨fun i m Hc => m = ys.length - i ∧ i ≤ ys.length ∧ ∃ done rest, i + rest.length = ys.length ∧ ys.drop i = rest ∧ Keep (fun a => a = D) H4 Hc ∧ SetAt w D Hc (done0 ++ done) ∧ ∃ more, compGo g1 tc1 pa (wipes env1 vs1) rest = .ok more ∧ us = done ++ more,
    ⟨ys.length, by simp, Nat.zero_le _, [], ys, by omega, rfl, fun a o h _ => Stay.refl h, by rw [List.append_nil]; exact hr, us, hm, rfl⟩, ?_⟩
  rintro i m Hc ⟨rfl, hi, done, rest, h1, h2, h3, h6, more, h7, h8⟩
  have h4 := h6.there
  have gk : Goes true (fun a => A a ∨ a = D) H4 Hc := by
    unfold Goes
    rw [if_pos rfl]
    exact fun a o q n => h3 a o q fun z => n (.inr z)
  have q := wk.good Hc gk
  by_cases hlt : i < ys.length
  · refine .inr ⟨wk.walk.goes i Hc hlt q, fun Hc => ∃ done rest, i + 1 + rest.length = ys.length ∧ ys.drop (i + 1) = rest ∧ Keep (fun a => a = D) H4 Hc ∧ SetAt w D Hc (done0 ++ done) ∧ ∃ more, compGo g1 tc1 pa (wipes env1 vs1) rest = .ok more ∧ us = done ++ more,
      fun H' p' => ⟨ys.length - (i + 1), by omega, rfl, hlt, p'⟩, fun x H2 y => ?_⟩
    have y := wk.walk.yields i Hc x H2 hlt q y
    have SC := hS Hc h3 h4 h6.nc
    obtain ⟨s2, p0, e0, r0⟩ := wk.item i x Hc H2 (fun a => A a ∨ a = D) hlt gk (fun a z => .inl z) SC.live y
    have e1 : rest = p0 :: ys.drop (i + 1) := by
      rw [← h2, List.drop_eq_getElem?_toList_append, e0]
      rfl
    rw [e1, compGo] at h7
    cases egp : g1 p0 with
    | none => rw [egp] at h7; cases h7
    | some l0 =>
      rw [egp] at h7
      simp only [ofOpt_some, Rp.ok_bind] at h7
      have SW : SRep G.F (fun a => A a ∨ a = D) (wipe σ2 vs1) H2 (wipes env1 vs1) := SRep.wipes (SC.same s2) vs1
      obtain ⟨k1, l', st, kk⟩ := hg1 _ H2 p0 x l0 r0 egp
      refine kk (wipe σ2 vs1) _ ⟨?_, ?_⟩
      · rw [wipe_setV fun z hz => hts1 _ ?_]
        · apply List.ext_getElem?
          intro j
          exact wipe_wipe σ2 vs1 j
        · rw [← k1, ← st.keys]
          exact List.mem_map.mpr ⟨z, hz, rfl⟩
      have S1 := SW.puts st
      refine ht1 _ _ H2 _ _ S1 ?_
      cases ec : tc1 (puts (Pv.wipes env1 vs1) l0) with
      | bad => rw [ec] at h7; cases h7
      | exc x => rw [ec] at h7; cases h7
      | ok bb =>
        rw [ec] at h7
        simp only [Rp.ok_bind] at h7
        intro H3 s3
        have lenrest : (ys.drop (i + 1)).length + (i + 1) = ys.length := by
          rw [List.length_drop]; omega
        cases bb with
        | false =>
          rw [if_neg Bool.false_ne_true]
          simp only [Bool.false_eq_true, if_false] at h7
          exact ⟨done, ys.drop (i + 1), by omega, rfl, fun a o q n => (h3 a o q n).same (s2.trans s3), h6.same (s2.trans s3), more, h7, h8⟩
        | true =>
          rw [if_pos rfl]
          simp only [if_true] at h7
          refine he _ _ H3 _ _ (S1.same s3) ?_
          cases ee : pa (puts (Pv.wipes env1 vs1) l0) with
          | bad => rw [ee] at h7; cases h7
          | exc x => rw [ee] at h7; cases h7
          | ok y0 =>
            rw [ee] at h7
            simp only [Rp.ok_bind] at h7
            cases er : compGo g1 tc1 pa (Pv.wipes env1 vs1) (ys.drop (i + 1)) with
            | bad => rw [er] at h7; cases h7
            | exc x => rw [er] at h7; cases h7
            | ok more' =>
              rw [er] at h7
              cases h7
              intro z H4' s4 rz
              obtain ⟨ns, hns, h64⟩ := hz
              have e2 : done0 ++ us = (done0 ++ done) ++ y0 :: more' := by rw [h8, List.append_assoc]
              rw [e2] at hns
              obtain ⟨c, rfl, ⟨xs', hx', hlt'⟩, c3⟩ := ints_at hns
              have hl' := intsOf_len hx'
              rw [Rep] at rz
              subst rz
              refine (h6.same (s2.trans (s3.trans s4))).add (by omega) fun H8 g8 at8 => ⟨done ++ [.int c], ys.drop (i + 1), by omega, rfl, fun a o q n => ?_, by rw [← List.append_assoc]; exact at8, more', er, by simp [h8]⟩
              exact ((h3 a o q n).same (s2.trans (s3.trans s4))).trans fun u eu => g8 a u eu n
  · have ei : i = ys.length := by omega
    subst ei
    have e1 : rest = [] := by
      rw [← h2]
      exact List.drop_eq_nil_of_le (Nat.le_refl _)
    rw [e1, compGo] at h7
    cases h7
    rw [List.append_nil] at h8
    subst h8
    exact .inl ⟨wk.walk.stops Hc q, hN Hc h3 h6⟩
end
end Pv
end
section
set_option autoImplicit false
set_option Elab.async false
set_option linter.all false
set_option maxRecDepth 100000
/-! sorted of a set comprehension of two clauses. -/
namespace Pv
open PySem PySem.Spec PyProof.Rows L2
variable [TN]
theorem mem_insU (a k : Int) : ∀ xs : List Int, k ∈ insU a xs ↔ k = a ∨ k ∈ xs
  | [] => by simp [insU]
  | b :: r => by
    unfold insU
    split
    · simp
    · split
      · rename_i h; subst h; simp
      · simp only [List.mem_cons, mem_insU a k r]
        constructor
        · rintro (h | h | h) <;> simp [h]
        · rintro (h | h | h) <;> simp [h]
theorem mem_setI (k : Int) : ∀ xs : List Int, k ∈ setI xs ↔ k ∈ xs
  | [] => by simp [setI]
  | a :: r => by
    show k ∈ insU a (setI r) ↔ _
    rw [mem_insU, mem_setI k r, List.mem_cons]
theorem insU_asc (a : Int) : ∀ xs : List Int, xs.Pairwise (· < ·) → (insU a xs).Pairwise (· < ·)
  | [], _ => by simp [insU]
  | b :: r, h => by
    obtain ⟨h1, h2⟩ := List.pairwise_cons.mp h
    unfold insU
    split
    · rename_i hab
      refine List.pairwise_cons.mpr ⟨fun y hy => ?_, h⟩
      rcases List.mem_cons.mp hy with rfl | hy
      · exact hab
      · have := h1 y hy; omega
    · split
      · exact h
      · refine List.pairwise_cons.mpr ⟨fun y hy => ?_, insU_asc a r h2⟩
        rcases (mem_insU a y r).mp hy with rfl | hy
        · omega
        · exact h1 y hy
theorem setI_asc : ∀ xs : List Int, (setI xs).Pairwise (· < ·)
  | [] => List.Pairwise.nil
  | a :: r => insU_asc a _ (setI_asc r)
theorem insU_len (a : Int) : ∀ xs : List Int, (insU a xs).length ≤ xs.length + 1
  | [] => by simp [insU]
  | b :: r => by
    have ih := insU_len a r
    unfold insU
    split
    · simp
    · split
      · simp
      · simp only [List.length_cons]; omega
theorem setI_len : ∀ xs : List Int, (setI xs).length ≤ xs.length
  | [] => Nat.le_refl _
  | a :: r => by
    have h1 := setI_len r
    have h2 := insU_len a (setI r)
    show (insU a (setI r)).length ≤ _
    rw [List.length_cons]; omega
theorem asc_uniq : ∀ xs ys : List Int, xs.Pairwise (· < ·) → ys.Pairwise (· < ·) → (∀ k, k ∈ xs ↔ k ∈ ys) → xs = ys
  | [], [], _, _, _ => rfl
  | [], y :: ys, _, _, h => by have := (h y).mpr (by simp); simp at this
  | x :: xs, [], _, _, h => by have := (h x).mp (by simp); simp at this
  | x :: xs, y :: ys, h1, h2, h => by
    obtain ⟨a1, a2⟩ := List.pairwise_cons.mp h1
    obtain ⟨b1, b2⟩ := List.pairwise_cons.mp h2
    have e : x = y := by
      rcases List.mem_cons.mp ((h x).mp (by simp)) with e | e
      · exact e
      · rcases List.mem_cons.mp ((h y).mpr (by simp)) with e' | e'
        · exact e'.symm
        · have := a1 y e'; have := b1 x e; omega
    subst e
    rw [asc_uniq xs ys a2 b2 fun k => ?_]
    constructor
    · intro hk
      rcases List.mem_cons.mp ((h k).mp (List.mem_cons_of_mem _ hk)) with e | e
      · have := a1 k hk; omega
      · exact e
    · intro hk
      rcases List.mem_cons.mp ((h k).mpr (List.mem_cons_of_mem _ hk)) with e | e
      · have := b1 k hk; omega
      · exact e
theorem reps_int_map {K : Fr} {A : Av} {H : Hp} : ∀ l : List Int, Reps K A H (l.map .int) (l.map V.int)
  | [] => by rw [List.map_nil, List.map_nil, Reps]
  | k :: l => by rw [List.map_cons, List.map_cons, Reps]; exact ⟨_, _, rfl, by rw [Rep], reps_int_map l⟩
section
variable {G : Gm} {ι : Type} {X : ι → Cx} {W : WX} {k : Nat} {pa : PX} {pos : Pos} {tg iter tg1 iter1 elt : Expr} {ifs ifs1 : List Expr}
theorem comp2_simS {own vs1 ts ts1 : List Nat} {p w1 : LX} {g g1 : GX} {tc tc1 : TX} {wi wi1 : TI} {gt gt1 : TG} {tt tt1 : TT} {te : TE} (hts : ∀ i ∈ ts, i ∈ own) (hts1 : ∀ i ∈ ts1, i ∈ vs1)
    (hw : ∀ A σ H env R, SRep G.F A σ H env → WEnd G A W σ H false R (p env) → wi σ H R)
    (hg : ∀ A H p x l, Rep G.F A H p x → g p = some l → l.map (·.1) = ts ∧ ∃ l', Stores G.F A H l l' ∧ ∀ σ Q, Q (setV σ l') H → gt x σ H Q)
    (ht : ∀ A σ H env Q, SRep G.F A σ H env → TEnd G A noW σ H Q (tc env) → tt σ H Q)
    (hw1 : ∀ A σ H env R, SRep G.F A σ H env → WEnd G A noW σ H true R (w1 env) → wi1 σ H R)
    (hg1 : ∀ A H p x l, Rep G.F A H p x → g1 p = some l → l.map (·.1) = ts1 ∧ ∃ l', Stores G.F A H l l' ∧ ∀ σ Q, Q (setV σ l') H → gt1 x σ H Q)
    (ht1 : ∀ A σ H env Q, SRep G.F A σ H env → TEnd G A noW σ H Q (tc1 env) → tt1 σ H Q)
    (he : ∀ A σ H env Q, SRep G.F A σ H env → XEnd G A noW σ H (fun c x H' => Rep G.F A H' c x) Q (pa env) → te σ H Q)
    (A : Av) (σ : St) (H : Hp) (env : Env) (Q : VK) (SS : SRep G.F A σ H env) (q : XEnd G A W σ H (fun c x H' => Rep G.F A H' c x) Q (pSorted2 own vs1 p g tc w1 g1 tc1 pa env)) : tSc2 G.w wi gt tt wi1 gt1 tt1 te own vs1 σ H (fun x H1 => rSortedSet G.w [x] H1 Q) := by
  refine hw A σ H env _ SS ?_
  unfold pSorted2 at q
  cases ep : p env with
  | bad => rw [ep] at q; exact q.elim
  | exc x => rw [ep] at q; exact q
  | ok ps =>
    rw [ep] at q
    simp only [Rp.ok_bind] at q
    intro J H1 Gd Y s1 wk D nD
    cases eg : comp2Go g tc w1 vs1 g1 tc1 pa (wipes env own) ps with
    | bad => rw [eg] at q; exact q.elim
    | exc x => rw [eg] at q; exact q.elim
    | ok ys =>
      rw [eg] at q
      have q1 : XEnd G A W σ H (fun c x H' => Rep G.F A H' c x) Q (ofOpt ((intsOf ys).bind fun ns => if ns.length < 64 then some (.list ((setI ns).map .int)) else none)) := q
      cases en : intsOf ys with
      | none => rw [en] at q1; exact q1.elim
      | some ns =>
      rw [en] at q1
      by_cases hz : ns.length < 64
      case neg => simp only [Option.bind_some, if_neg hz] at q1; exact q1.elim
      have q' : ∀ x H', Same H H' → Rep G.F A H' (.list ((setI ns).map .int)) x → Q x H' := by
        simp only [Option.bind_some, if_pos hz] at q1
        exact q1
      have live1 : ∀ a, A a → H1 a ≠ none := same_live s1 SS.live
      have nA : ¬ A D := na_new live1 nD
      refine ⟨fun i m Hc => m = ps.length - i ∧ i ≤ ps.length ∧ ∃ done rest, i + rest.length = ps.length ∧ ps.drop i = rest ∧ Same H1 Hc ∧ SetAt G.w D Hc done ∧ ∃ more, comp2Go g tc w1 vs1 g1 tc1 pa (wipes env own) rest = .ok more ∧ ys = done ++ more,
        ⟨ps.length, by simp, Nat.zero_le _, [], ps, by omega, rfl, same_new nD _, ⟨_, 0, [], upd_same, rfl, fun k => by simp, Nat.le_refl _⟩, ys, eg, rfl⟩, ?_⟩
      rintro i m Hc ⟨rfl, hi, done, rest, h1, h2, h3, h6, more, h7, h8⟩
      have h4 := h6.there
      have q := wk.good Hc (.of h3)
      by_cases hlt : i < ps.length
      · refine .inr ⟨wk.walk.goes i Hc hlt q, fun Hc => ∃ done rest, i + 1 + rest.length = ps.length ∧ ps.drop (i + 1) = rest ∧ Same H1 Hc ∧ SetAt G.w D Hc done ∧ ∃ more, comp2Go g tc w1 vs1 g1 tc1 pa (wipes env own) rest = .ok more ∧ ys = done ++ more,
          fun H' p' => ⟨ps.length - (i + 1), by omega, rfl, hlt, p'⟩, fun x H2 y => ?_⟩
        have y := wk.walk.yields i Hc x H2 hlt q y
        have live2 : ∀ a, A a → Hc a ≠ none := same_live h3 live1
        obtain ⟨s2, p0, e0, r0⟩ := wk.item i x Hc H2 (fun a => A a ∨ a = D) hlt (.of h3) (fun a z => z.elim .inl fun z => .inr (by rw [z]; exact nD)) (fun a z => z.elim (live2 a) fun z => by rw [z]; exact h4) y
        have e1 : rest = p0 :: ps.drop (i + 1) := by
          rw [← h2, List.drop_eq_getElem?_toList_append, e0]
          rfl
        rw [e1, comp2Go] at h7
        cases egp : g p0 with
        | none => rw [egp] at h7; cases h7
        | some l0 =>
          rw [egp] at h7
          simp only [ofOpt_some, Rp.ok_bind] at h7
          have SW : SRep G.F (fun a => A a ∨ a = D) (wipe σ own) H2 (wipes env own) :=
            SRep.wipes (SRep.inD SS s1 nD (h3.trans s2) (h6.same s2).there (h6.same s2).nc) own
          obtain ⟨k1, l', st, kk⟩ := hg _ H2 p0 x l0 r0 egp
          refine kk (wipe σ own) _ ⟨?_, ?_⟩
          · rw [wipe_setV fun z hz => hts _ ?_]
            · apply List.ext_getElem?
              intro j
              exact wipe_wipe σ own j
            · rw [← k1, ← st.keys]
              exact List.mem_map.mpr ⟨z, hz, rfl⟩
          have S1 := SW.puts st
          refine ht _ _ H2 _ _ S1 ?_
          cases ec : tc (puts (Pv.wipes env own) l0) with
          | bad => rw [ec] at h7; cases h7
          | exc x => rw [ec] at h7; cases h7
          | ok bb =>
            rw [ec] at h7
            simp only [Rp.ok_bind] at h7
            intro H3 s3
            have lenrest : (ps.drop (i + 1)).length + (i + 1) = ps.length := by
              rw [List.length_drop]; omega
            cases bb with
            | false =>
              rw [if_neg Bool.false_ne_true]
              simp only [Bool.false_eq_true, if_false] at h7
              exact ⟨done, ps.drop (i + 1), by omega, rfl, h3.trans (s2.trans s3), h6.same (s2.trans s3), more, h7, h8⟩
            | true =>
              rw [if_pos rfl]
              simp only [if_true] at h7
              refine hw1 _ _ H3 _ _ (S1.same s3) ?_
              cases ew : w1 (puts (Pv.wipes env own) l0) with
              | bad => rw [ew] at h7; cases h7
              | exc x => rw [ew] at h7; cases h7
              | ok zs =>
                rw [ew] at h7
                simp only [Rp.ok_bind] at h7
                cases ei : compGo g1 tc1 pa (wipes (puts (Pv.wipes env own) l0) vs1) zs with
                | bad => rw [ei] at h7; cases h7
                | exc x => rw [ei] at h7; cases h7
                | ok us =>
                  rw [ei] at h7
                  simp only [Rp.ok_bind] at h7
                  cases er : comp2Go g tc w1 vs1 g1 tc1 pa (Pv.wipes env own) (ps.drop (i + 1)) with
                  | bad => rw [er] at h7; cases h7
                  | exc x => rw [er] at h7; cases h7
                  | ok more' =>
                    rw [er] at h7
                    cases h7
                    intro J1 H4 Gd1 Y1 s4 wk1
                    have sAll : Same Hc H4 := s2.trans (s3.trans s4)
                    have same1 : ∀ Hx, Keep (fun a => a = D) H4 Hx → Same H1 Hx := fun Hx kp a o qa => by
                      have nz : a ≠ D := fun e => by rw [e, nD] at qa; cases qa
                      exact ((h3 _ _ qa).same sAll).trans fun u eu => kp a u eu nz
                    refine inner_simS (A := A) (done0 := done) hts1 _ hg1 ht1 he nA wk1 (fun Hx kp nn nc => ?_) (h6.same sAll) ei ?_ fun Hx kp rx => ?_
                    · refine SRep.puts (SRep.wipes (SRep.inD SS s1 nD (same1 Hx kp) nn nc) own) (Stores.ext ⟨fun a z => .inl z, fun a o qa nz => ((s3 _ _ qa).same s4).trans fun u eu => kp a u eu fun z => nz (.inr z)⟩ st)
                    · rw [h8, ← List.append_assoc] at en
                      obtain ⟨xs, zs', e5, _, e6⟩ := intsOf_split en
                      exact ⟨xs, e5, by rw [e6, List.length_append] at hz; omega⟩
                    · exact ⟨done ++ us, ps.drop (i + 1), by omega, rfl, same1 Hx kp, rx, more', er, by rw [h8, List.append_assoc]⟩
      · have ei : i = ps.length := by omega
        subst ei
        have e1 : rest = [] := by
          rw [← h2]
          exact List.drop_eq_nil_of_le (Nat.le_refl _)
        rw [e1, comp2Go] at h7
        cases h7
        rw [List.append_nil] at h8
        subst h8
        obtain ⟨S, n, xs, a1, a2, a3, a4⟩ := h6
        rw [en] at a2
        cases a2
        refine .inl ⟨wk.walk.stops Hc q, D, S, n, rfl, a1, by omega, fun ns' pp pw mem len hp => ?_⟩
        have e7 : ns' = setI ns := asc_uniq ns' (setI ns) pw (setI_asc ns) fun k => by rw [mem, a3, mem_setI]
        rw [e7]
        refine q' _ _ (s1.trans (h3.trans (same_new hp _))) ?_
        rw [Rep]
        refine ⟨pp, _, rfl, .inl ⟨fun z => same_live h3 live1 pp z hp, .inl upd_same⟩, ?_, ?_⟩
        · exact reps_int_map (setI ns)
        · rw [List.length_map]
          have := setI_len ns
          unfold line; omega
theorem x_sorted2 {scope : Scope} {own : List (Str × Nat)} {vs1 ts ts1 : List Nat} {p w1 : LX} {g g1 : GX} {tc tc1 : TX} {fp cpos : Pos} (S : Sits G X k W) (hm : G.mg "sorted" = none) (hw : WlJ G X W false tg iter p) (ok : ∀ i, BlkOk (X i).N (X i).env.scope scope own)
    (hg : GJ G (blkF X scope) tg g ts) (ht : TsJ G (blkF X scope) noW ifs tc) (hw1 : WlJ G (blkF X scope) noW true tg1 iter1 w1) (hg1 : GJ G (blkF X scope) tg1 g1 ts1) (ht1 : TsJ G (blkF X scope) noW ifs1 tc1) (he : XJ G (blkF X scope) noW Rep elt pa)
    (hts : ∀ i ∈ ts, i ∈ own.map (·.2)) (hts1 : ∀ i ∈ ts1, i ∈ vs1) (hv : ∀ i ∈ vs1, i ∈ own.map (·.2)) (hs : ∀ i x, foldedSetIterable iter (X i).env x = pure x := by intro _ _; rfl) (hs1 : ∀ env x, foldedSetIterable iter1 env x = pure x := by intro _ _; rfl)
    (hgl : ∀ i, Gl (X i) "sorted" := by intro _; rfl) (hst : ∀ i, starEach [.SetComp elt [⟨tg, iter, ifs, 0⟩, ⟨tg1, iter1, ifs1, 0⟩] scope pos] (X i).env = (false, eval (.SetComp elt [⟨tg, iter, ifs, 0⟩, ⟨tg1, iter1, ifs1, 0⟩] scope pos) (X i).env) :: starEach [] (X i).env := by intro _; rfl) :
    XJ G X W Rep (.Call (.Name "sorted" fp) [.SetComp elt [⟨tg, iter, ifs, 0⟩, ⟨tg1, iter1, ifs1, 0⟩] scope pos] [] cpos) (pSorted2 (own.map (·.2)) vs1 p g tc w1 g1 tc1 pa) := by
  obtain ⟨wi, w1', w2⟩ := hw
  obtain ⟨gt, g1', g2⟩ := hg
  obtain ⟨tt, t1, t2⟩ := ht
  obtain ⟨wi1, v1, v2⟩ := hw1
  obtain ⟨gt1, h1, h2⟩ := hg1
  obtain ⟨tt1, u1, u2⟩ := ht1
  obtain ⟨te, e1, e2⟩ := he
  refine ⟨tCB (rSortedSet G.w) (tCons (tSc2 G.w wi gt tt wi1 gt1 tt1 te (List.map (fun (x : Str × Nat) => x.2) own) vs1) tNil), fun i => ?_, fun A σ H env Q SS q => comp2_simS hts hts1 w2 g2 t2 v2 h2 u2 e2 A σ H env Q SS q⟩
  have h := pe_sc2 (pos := pos) (elt := elt) (S.calm i) (S.nd i) (w1' i) (ok i) hv (fun s H C cl fp => g1' (i, s, H, C, cl, fp)) (fun s H C cl fp => t1 (i, s, H, C, cl, fp)) (fun s H C cl fp => v1 (i, s, H, C, cl, fp)) (fun s H C cl fp => h1 (i, s, H, C, cl, fp)) (fun s H C cl fp => u1 (i, s, H, C, cl, fp)) (fun s H C cl fp => e1 (i, s, H, C, cl, fp)) (hs i) hs1
  have := pe_callB (p := fp) (pos := cpos) (cr_sortedSet (S.calm i)) (hgl i) (by rw [S.mg i]; exact hm) PyProof.Rows.boot_sorted (pa_cons h pa_nil (hst i)) (by decide) (by decide) (hst i) (by rfl)
  rw [S.w i] at this
  exact this
end
end Pv
end
section
set_option autoImplicit false
set_option Elab.async false
set_option linter.all false
set_option maxRecDepth 100000
/-! x & 1; a name set to a list comprehension of two clauses. -/
namespace Pv
open PySem PySem.Spec PyProof.Rows L2
variable [TN]
section
variable {G : Gm} {ι : Type} {X : ι → Cx} {W : WX} {k : Nat} {pa : PX} {pos : Pos} {tg iter tg1 iter1 elt : Expr} {ifs ifs1 : List Expr}
theorem j_and1 : OpJ G (rI0 fun i j => .int (Builtin.bitAnd i j)) oAnd1 := by
  intro A H a b c x y hl ra rb e Q q
  unfold oAnd1 at e
  split at e
  · rename_i i j
    split at e
    · rename_i hc
      obtain ⟨rfl, h0⟩ := hc
      cases e
      have hb : Builtin.bitAnd i 1 = i % 2 := by
        have := Bits.bitAnd_mask 1 h0
        simpa using this
      exact ⟨i, 1, ra.int, rb.int, by show Q (V.int (Builtin.bitAnd i 1)) H; rw [hb]; exact q _ H (Same.refl H) (by rw [Rep])⟩
    · cases e
  · cases e
theorem ssetComp2 (i : Nat) {y : Str} {py spos : Pos} {scope : Scope} {own : List (Str × Nat)} {vs1 ts ts1 : List Nat} {p w1 : LX} {g g1 : GX} {tc tc1 : TX} (S : Sits G X k W) (hw : WlJ G X W false tg iter p) (ok : ∀ i, BlkOk (X i).N (X i).env.scope scope own)
    (hg : GJ G (blkF X scope) tg g ts) (ht : TsJ G (blkF X scope) noW ifs tc) (hw1 : WlJ G (blkF X scope) noW true tg1 iter1 w1) (hg1 : GJ G (blkF X scope) tg1 g1 ts1) (ht1 : TsJ G (blkF X scope) noW ifs1 tc1) (he : XJ G (blkF X scope) noW Rep elt pa)
    (hts : ∀ i ∈ ts, i ∈ own.map (·.2)) (hts1 : ∀ i ∈ ts1, i ∈ vs1) (hv : ∀ i ∈ vs1, i ∈ own.map (·.2)) (hs : ∀ i x, foldedSetIterable iter (X i).env x = pure x := by intro _ _; rfl) (hs1 : ∀ env x, foldedSetIterable iter1 env x = pure x := by intro _ _; rfl)
    (hy : ∀ j, (X j).N[i]? = some y := by intro _; rfl) (hyl : ∀ j, (X j).env.scope.names.lookup y = some .local := by intro _; rfl)
    (hsw : ∀ j, swapsWith (.ListComp elt [⟨tg, iter, ifs, 0⟩, ⟨tg1, iter1, ifs1, 0⟩] scope pos) (some (.Name y py)) spos.line (X j).env = pure true := by intro _; exact sw_true rfl rfl rfl (by decide +kernel)) :
    S1 G X W (.Assign [.Name y py] (.ListComp elt [⟨tg, iter, ifs, 0⟩, ⟨tg1, iter1, ifs1, 0⟩] scope pos) spos) (sAsg (pComp2 (own.map (·.2)) vs1 p g tc w1 g1 tc1 pa) (gSet i)) := by
  obtain ⟨wi, w1', w2⟩ := hw
  obtain ⟨gt, g1', g2⟩ := hg
  obtain ⟨tt, t1, t2⟩ := ht
  obtain ⟨wi1, v1, v2⟩ := hw1
  obtain ⟨gt1, h1, h2⟩ := hg1
  obtain ⟨tt1, u1, u2⟩ := ht1
  obtain ⟨te, e1, e2⟩ := he
  refine ⟨_, fun i => ps_setLc2 (S.calm i) (S.nd i) (hy i) (hyl i) (hsw i) (w1' i) (ok i) hv (fun s H C cl fp => g1' (i, s, H, C, cl, fp)) (fun s H C cl fp => t1 (i, s, H, C, cl, fp)) (fun s H C cl fp => v1 (i, s, H, C, cl, fp)) (fun s H C cl fp => h1 (i, s, H, C, cl, fp)) (fun s H C cl fp => u1 (i, s, H, C, cl, fp)) (fun s H C cl fp => e1 (i, s, H, C, cl, fp)) (hs i) hs1,
    fun F σ H env ts D st q => in_x st (comp2_sim hts hts1 w2 g2 t2 v2 h2 u2 e2) ?_⟩
  unfold sAsg at q
  cases ea : pComp2 (own.map (·.2)) vs1 p g tc w1 g1 tc1 pa env with
  | bad => rw [ea] at q; exact q
  | exc x => rw [ea] at q; exact fun d H' s => q d σ H' s
  | ok c => rw [ea] at q; exact fun x H' s => q _ H' s.put
end
end Pv
end
section
set_option autoImplicit false
set_option Elab.async false
set_option linter.all false
set_option maxRecDepth 100000
namespace Pv
open PySem PySem.Spec PyProof.Rows L2
variable [TN]
/-! ### lambdas are made -/
/-- all but one table stays, the table grows by code objects of its name -/
theorem same_tab {H H3 : Hp} {P : Addr} {q : Str} {ps more : Array Value} (hP : H P = some (.tbl ps)) (h3P : H3 P = some (.tbl (ps ++ more))) (k : ∀ b o, b ≠ P → H b = some o → H3 b = some o) (hu : ∀ p ∈ TN.T, p.1 = P → p.2 = q) (tP : LamX.TabS H3 P q) : Same H H3 := fun b o e => by
  by_cases hb : b = P
  · rw [hb] at e ⊢
    rw [hP] at e
    cases e
    exact ⟨⟨_, h3P⟩, fun q' m _ => by have z : q' = q := hu (P, q') m rfl; rw [z]; exact tP⟩
  · have e3 := k b o hb e
    cases o <;> first | exact e3 | skip
    refine ⟨⟨_, e3⟩, fun q' _ t => ?_⟩
    obtain ⟨qs, t1, t2, t3⟩ := t
    rw [e] at t1
    cases t1
    refine ⟨_, e3, t2, fun pos cv z => ?_⟩
    obtain ⟨c0, z1, z2⟩ := t3 pos cv z
    refine ⟨c0, z1, k c0 _ (fun w => ?_) z2⟩
    rw [w, hP] at z2
    exact LamX.codeO_ne ps (Option.some.inj z2).symm
section
variable {X : Cx} {pins : List (Addr × Obj)} {σ : St} {H : Hp} {s : Shared}
theorem lam_tail {c P : Addr} {l : LamD} {dv : Value} {pos : Pos} {E : Value → Shared → Prop} {Q : Value → Shared → Prop} (I : Inv X pins σ H s) (TB : LamX.TabB X.base X.mg c P) (hc : X.env.code = .ref c) (hu : ∀ p ∈ TN.T, p.1 = P → p.2 = l.qual)
    (hT : LamX.TabS H P l.qual) (hcl : closureFor l.scope X.env = pure l.cl)
    (hQ : ∀ (f c' : Addr) (pm ctv : Value) (H1 : Hp) (s' : Shared), Inv X pins σ H1 s' → Same H H1 → H f = none → H1 f = some (FnO f l dv pm c' ctv) → H c' = none ∨ H c' = some (LamX.CodeO c' l.qual) → H1 c' = some (LamX.CodeO c' l.qual) → Q (.ref f) s') :
    wpAny (model X.prog X.w) X.A (makeTail "<lambda>" l.qual l.params (.expr l.body) l.scope X.env dv .none none pos pos.line) Q E s := by
  have after : ∀ (s1 : Shared) (ctv : Value), Inv X pins σ H s1 → wpAny (model X.prog X.w) X.A (do
      let fd : FuncData := { name := "<lambda>", qualname := l.qual, params := l.params, body := .expr l.body, scope := l.scope, globals := mainGlobals, closure := l.cl, closureTuple := ctv, code := ← functionCode X.env pos pos.line "<lambda>" l.qual l.params l.scope (.expr l.body), builtins := ← builtinsFor mainGlobals X.env.builtins, defaults := dv, kwdefaults := .none, annotations := none, pyModule := (← nsGet mainGlobals "__name__").getD .none, doc := ← (pure Value.none : Sem Value) }
      newObj (.type "function") (.func fd)) Q E s1 := fun s1 ctv J => by
    obtain ⟨ps, hP, htr, ham⟩ := hT
    have rP : s1.heap.get? P = some { cls := .none, data := .fields ps } := J.hok P _ hP
    have CH := TB.code.keeps J.bk
    have G0 := J.mod.glob.keeps J.bk
    obtain ⟨bm, ob, w1, w2, w3, w4, w5, w6, w7, w8⟩ := TB.bm.keeps J.bk
    cases hf : codeAmong pos ps.toList with
    | some cv =>
      obtain ⟨c', z1, z2⟩ := ham pos cv hf
      subst z1
      refine wpAny_bind (wpAny_functionCode_hit hc (CH.code rP htr) hf (wpAny_bind (wpAny_builtinsFor G0 w1 w2 w5 w6 w7 w8 (wpAny_bind (wpAny_nsGet G0 (wpAny_bind (wpAny_pure (wpAny_newObj_type ?_ (by size_fits)))))))))
      have nf : H s1.heap.objs.size = none := J.hok.fresh (Nat.le_refl _)
      refine hQ _ c' _ ctv _ _ (J.laid (t' := s1.toks) (o := FnO s1.heap.objs.size l dv _ c' ctv) (fun b o e => Heap.get?_push_of_some _ e) (Nat.le_refl _) ⟨Heap.get?_push_size _ rfl, ⟨_, Heap.get?_push_size _ rfl⟩, fun h1 h2 x k => k _ x⟩) (same_new nf _) nf upd_same (.inr z2) ?_
      rw [upd_ne (ne_of_none z2 nf)]; exact z2
    | none =>
      refine wpAny_bind (wpAny_functionCodeX hc (CH.code rP htr) (CH.tab rP) hf fun c' h' tk hx hge hlt _ hrec htb _ => ?_)
      have G1 := G0.extBut hx TB.gP
      refine wpAny_bind (wpAny_builtinsFor G1 w1 w2 (hx _ _ w4 w5) w6 w7 w8 (wpAny_bind (wpAny_nsGet G1 (wpAny_bind (wpAny_pure (wpAny_newObj_type ?_ (by size_fits)))))))
      obtain ⟨c2, oc, vs, t, y1, y2, y3, y4⟩ := hrec
      cases y1
      have nC : H c' = none := J.hok.fresh hge
      have J1 := LamX.inv_table (t' := tk) (more := #[rawInt pos.line, rawInt pos.col, .ref c']) (q := l.qual) J hP (fun b o nb e => hx b o nb e) htb.2 hge ⟨oc, vs, t, y2, y3, y4⟩
      have nf : upd (upd H P (.tbl (ps ++ #[rawInt pos.line, rawInt pos.col, .ref c']))) c' (LamX.CodeO c' l.qual) h'.objs.size = none := J1.hok.fresh (Nat.le_refl _)
      have fP : h'.objs.size ≠ P := fun z => by
        have : P < h'.objs.size := Heap.lt_size htb.2
        exact Nat.lt_irrefl _ (by rw [z] at this; exact this)
      have fc : h'.objs.size ≠ c' := Nat.ne_of_gt hlt
      have nfH : H h'.objs.size = none := by rw [upd_ne fc, upd_ne fP] at nf; exact nf
      have Pc : P ≠ c' := ne_of_none hP nC
      have atP : upd (upd (upd H P (.tbl (ps ++ #[rawInt pos.line, rawInt pos.col, .ref c']))) c' (LamX.CodeO c' l.qual)) h'.objs.size (FnO h'.objs.size l dv ((X.mg "__name__").getD .none) c' ctv) P = some (.tbl (ps ++ #[rawInt pos.line, rawInt pos.col, .ref c'])) := by
        rw [upd_ne (Ne.symm fP), upd_ne Pc, upd_same]
      have atC : upd (upd (upd H P (.tbl (ps ++ #[rawInt pos.line, rawInt pos.col, .ref c']))) c' (LamX.CodeO c' l.qual)) h'.objs.size (FnO h'.objs.size l dv ((X.mg "__name__").getD .none) c' ctv) c' = some (LamX.CodeO c' l.qual) := by
        rw [upd_ne (Ne.symm fc), upd_same]
      have stay : ∀ b o, b ≠ P → H b = some o → upd (upd (upd H P (.tbl (ps ++ #[rawInt pos.line, rawInt pos.col, .ref c']))) c' (LamX.CodeO c' l.qual)) h'.objs.size (FnO h'.objs.size l dv ((X.mg "__name__").getD .none) c' ctv) b = some o := fun b o nb e => by
        rw [upd_ne (ne_of_none e nfH), upd_ne (ne_of_none e nC), upd_ne nb]; exact e
      refine hQ _ c' _ ctv _ _ (J1.laid (t' := tk) (o := FnO h'.objs.size l dv _ c' ctv) (fun b o e => Heap.get?_push_of_some _ e) (Nat.le_refl _) ⟨Heap.get?_push_size _ rfl, ⟨_, Heap.get?_push_size _ rfl⟩, fun h1 h2 x k => k _ x⟩) (same_tab hP atP stay hu ?_) nfH upd_same (.inl nC) atC
      have eL : (ps ++ #[rawInt pos.line, rawInt pos.col, .ref c']).toList = ps.toList ++ [rawInt pos.line, rawInt pos.col, .ref c'] := by simp
      refine ⟨_, atP, by rw [eL]; exact TriplesOk_snoc _ _ _ _ htr, fun p' cv z => ?_⟩
      rw [eL] at z
      rcases LamX.among_app _ htr z with z | z
      · obtain ⟨c0, z1, z2⟩ := ham p' cv z
        exact ⟨c0, z1, stay c0 _ (fun w => by rw [w, hP] at z2; exact LamX.codeO_ne ps (Option.some.inj z2).symm) z2⟩
      · exact ⟨c', z, atC⟩
  unfold makeTail
  rw [hcl, I.ok.glob]
  refine wpAny_bind (wpAny_pure ?_)
  by_cases he : l.cl.isEmpty = true
  · rw [if_pos he]
    exact wpAny_bind (wpAny_pure (after s .none I))
  · rw [if_neg he]
    refine wpAny_bind (wpAny_newTextTuple ?_)
    exact after _ _ (I.kept (t' := s.toks) fun b o e => Heap.get?_push_of_some _ e)
end
end Pv
end
section
set_option autoImplicit false
set_option Elab.async false
set_option linter.all false
set_option maxRecDepth 100000
namespace Pv
open PySem PySem.Spec PyProof.Rows L2
variable [TN]
/-! ### lambdas as values -/
/-- where a family of contexts makes its lambdas: the code object, its table -/
structure Mk (G : Gm) {ι : Type} (X : ι → Cx) (q : Str) : Prop where
  ex : ∃ c P, (∀ i, (X i).env.code = .ref c) ∧ LamX.TabB G.base G.mg c P ∧ (P, q) ∈ TN.T ∧ ∀ p ∈ TN.T, p.1 = P → p.2 = q
  qual : ∀ i, (X i).env.qual ++ "<lambda>" = q
/-- what is new with a lambda -/
def LamNew (l : LamD) (H H1 : Hp) (f : Addr) : Prop := ∃ c dv pm ctv, H f = none ∧ H1 f = some (FnO f l dv pm c ctv) ∧ (H c = none ∨ H c = some (LamX.CodeO c l.qual)) ∧ H1 c = some (LamX.CodeO c l.qual) ∧
  match l.dfl with
  | false => dv = .none
  | true => ∃ d, dv = .ref d ∧ H d = none ∧ H1 d = some (.tup [.int 0])
def tLamV (l : LamD) : TE := fun σ H Q => LamX.Tabs TN.T H ∧ ∀ (f : Addr) (H1 : Hp), Same H H1 → LamNew l H H1 f → Q (.ref f) H1
section
variable {G : Gm} {ι : Type} {X : ι → Cx} {k : Nat} {W : WX} {pos : Pos}
theorem pe_lam0 {Y : Cx} {l : LamD} {c P : Addr} (TB : LamX.TabB Y.base Y.mg c P) (hc : Y.env.code = .ref c) (hm : (P, l.qual) ∈ TN.T) (hu : ∀ p ∈ TN.T, p.1 = P → p.2 = l.qual) (hq : Y.env.qual ++ "<lambda>" = l.qual) (hcl : closureFor l.scope Y.env = pure l.cl)
    (hd : defaultsOf l.params Y.env = ([], [])) (hdf : l.dfl = false) : PE Y (.Lambda l.params l.body l.scope pos) (tLamV l) := by
  refine ⟨fun pins s σ H Q I h => ?_⟩
  obtain ⟨hT, h⟩ := h
  refine PySem.W.kla_eval hd ?_
  rw [makeFunction_eq, hq]
  simp only [List.zip_nil_right, List.filterMap_nil, List.isEmpty_nil, if_true, pure_bind]
  refine lam_tail I TB hc hu (hT _ hm) hcl fun f c' pm ctv H1 s' J sm n1 h1 h2 h3 => ⟨.ref f, H1, J, rfl, h f H1 sm ⟨c', .none, pm, ctv, n1, h1, h2, h3, ?_⟩⟩
  rw [hdf]
/-- with a default, 0 -/
theorem pe_lam1 {Y : Cx} {l : LamD} {c P : Addr} {p0 : Pos} {j : Nat} (TB : LamX.TabB Y.base Y.mg c P) (hc : Y.env.code = .ref c) (hm : (P, l.qual) ∈ TN.T) (hu : ∀ p ∈ TN.T, p.1 = P → p.2 = l.qual) (hq : Y.env.qual ++ "<lambda>" = l.qual) (hcl : closureFor l.scope Y.env = pure l.cl)
    (hd : defaultsOf l.params Y.env = ([eval (.Constant (.int 0) j p0) Y.env], [])) (hdf : l.dfl = true) : PE Y (.Lambda l.params l.body l.scope pos) (tLamV l) := by
  refine ⟨fun pins s σ H Q I h => ?_⟩
  obtain ⟨hT, h⟩ := h
  rw [arm_eval_Lambda, hd, hq]
  refine wpAny_bind (wpAny_evalAll_cons (wpAny_mono ((pe_int (X := Y) (i := 0) (j := j) (pos := p0)).run pins s σ H (fun v H1 => v = .int 0 ∧ H1 = H) I ⟨rfl, rfl⟩) (fun u s1 hu1 => ?_) fun _ _ z => z))
  obtain ⟨v, H1, J, rv, ev, eH⟩ := hu1
  subst ev eH
  refine wpAny_evalAll_nil ?_
  refine wpAny_bind (wpAny_holding (wpAny_pure ?_))
  rw [makeFunction_eq]
  simp only [List.zip_nil_right, List.filterMap_nil, List.isEmpty_nil, List.isEmpty_cons, if_true, Bool.false_eq_true, if_false, pure_bind]
  refine wpAny_bind (wpAny_newTextTuple ?_)
  have nd : H1 s1.heap.objs.size = none := J.hok.fresh (Nat.le_refl _)
  have J2 := J.laid (h' := s1.heap.push { cls := .type "tuple", data := .seq [u].toArray }) (t' := s1.toks) (o := .tup [.int 0]) (fun b o e => Heap.get?_push_of_some _ e) (Nat.le_refl _)
    ⟨by decide, [u], .cons rv .nil, { cls := .type "tuple", data := .seq [u].toArray }, Heap.get?_push_size _ rfl, rfl, _, rfl⟩
  have s2 : Same H1 (upd H1 s1.heap.objs.size (.tup [.int 0])) := same_new nd _
  refine lam_tail J2 TB hc hu (s2.tab hm (hT _ hm)) hcl fun f c' pm ctv H3 s' J3 sm n1 h1 h2 h3 => ⟨.ref f, H3, J3, rfl, h f H3 (s2.trans sm) ⟨c', .ref s1.heap.objs.size, pm, ctv, s2.free n1, h1, ?_, h3, ?_⟩⟩
  · rcases h2 with z | z
    · exact .inl (s2.free z)
    · by_cases e : c' = s1.heap.objs.size
      · exact .inl (by rw [e]; exact nd)
      · rw [upd_ne e] at z; exact .inr z
  · rw [hdf]
    exact ⟨_, rfl, nd, sm _ _ upd_same⟩
theorem rep_lam {A : Av} {id : Nat} {H H1 : Hp} {f : Addr} (hl : ∀ a, A a → H a ≠ none) (hn : ∀ a q, A a → H a ≠ some (LamX.CodeO a q)) (h : LamNew (G.F.L id) H H1 f) : Rep G.F A H1 (.fn id []) (.ref f) := by
  obtain ⟨c, dv, pm, ctv, n1, h1, h2, h3, h4⟩ := h
  rw [Rep]
  refine ⟨f, c, dv, pm, ctv, rfl, fun z => hl f z n1, fun z => ?_, h1, h3, ?_⟩
  · rcases h2 with e | e
    · exact hl c z e
    · exact hn c _ z e
  · revert h4
    cases (G.F.L id).dfl with
    | false => exact fun e => e
    | true => exact fun ⟨d, e1, e2, e3⟩ => ⟨d, e1, fun z => hl d z e2, e3⟩
theorem x_lam {id : Nat} {l : LamD} {e : Expr} (h : ∀ i, PE (X i) e (tLamV l)) (hl : G.F.L id = l) : XJ G X W Rep e (pC (.fn id [])) := by
  refine ⟨_, h, fun A σ H env Q S q => ⟨S.tabs.tabs, fun f H1 sm ln => q _ H1 sm (rep_lam S.live S.tabs.nc (by rw [hl]; exact ln))⟩⟩
theorem xlam0 (S : Sits G X k W) {q : Str} (M : Mk G X q) {id : Nat} {l : LamD} (hl : G.F.L id = l) (hq : l.qual = q) (hcl : ∀ i, closureFor l.scope (X i).env = pure l.cl) (hd : ∀ i, defaultsOf l.params (X i).env = ([], []) := by intro _; rfl) (hdf : l.dfl = false := by rfl) :
    XJ G X W Rep (.Lambda l.params l.body l.scope pos) (pC (.fn id [])) := by
  obtain ⟨⟨c, P, h1, h2, h3, h4⟩, h5⟩ := M
  subst hq
  exact x_lam (fun i => pe_lam0 (by rw [S.base i, S.mg i]; exact h2) (h1 i) h3 h4 (h5 i) (hcl i) (hd i) hdf) hl
theorem xlam1 (S : Sits G X k W) {q : Str} (M : Mk G X q) {id : Nat} {l : LamD} {p0 : Pos} {j : Nat} (hl : G.F.L id = l) (hq : l.qual = q) (hcl : ∀ i, closureFor l.scope (X i).env = pure l.cl) (hd : ∀ i, defaultsOf l.params (X i).env = ([eval (.Constant (.int 0) j p0) (X i).env], []) := by intro _; rfl) (hdf : l.dfl = true := by rfl) :
    XJ G X W Rep (.Lambda l.params l.body l.scope pos) (pC (.fn id [])) := by
  obtain ⟨⟨c, P, h1, h2, h3, h4⟩, h5⟩ := M
  subst hq
  exact x_lam (fun i => pe_lam1 (by rw [S.base i, S.mg i]; exact h2) (h1 i) h3 h4 (h5 i) (hcl i) (hd i) hdf) hl
end
end Pv
end
section
set_option autoImplicit false
set_option Elab.async false
set_option linter.all false
set_option maxRecDepth 100000
namespace Pv
open PySem PySem.Spec PyProof.Rows L2
variable [TN]
/-! ### lambdas are called: their names -/
/-- parameters, captured names, globals; no names of its own besides -/
structure LScope (N : List Str) (sc scope : Scope) (ps : List Str) : Prop where
  kind : scope.kind = .function
  co : scope.isCoroutine = false
  gen : scope.isGenerator = false
  nocell : ∀ y ∈ scope.names, y.2 ≠ .cell
  par : ∀ p ∈ ps, scope.names.lookup p = some .local
  loc : ∀ y, scope.names.lookup y = some .local → y ∉ N
  free : ∀ y, (y, NameKind.free) ∈ scope.names → sc.names.lookup y = some .cell ∨ sc.names.lookup y = some .free
def lscB (N : List Str) (sc scope : Scope) (ps : List Str) : Bool :=
  decide (scope.kind = .function) && !scope.isCoroutine && !scope.isGenerator && (scope.names.all fun y => !decide (y.2 = .cell)) && (ps.all fun p => decide (scope.names.lookup p = some .local)) &&
    (N.all fun y => !decide (scope.names.lookup y = some .local)) && scope.names.all fun y => !decide (y.2 = .free) || (decide (sc.names.lookup y.1 = some .cell) || decide (sc.names.lookup y.1 = some .free))
theorem lsc_by {N : List Str} {sc scope : Scope} {ps : List Str} (h : lscB N sc scope ps = true) : LScope N sc scope ps := by
  unfold lscB at h
  simp only [Bool.and_eq_true, Bool.or_eq_true, Bool.not_eq_true', decide_eq_true_eq, decide_eq_false_iff_not, List.all_eq_true] at h
  obtain ⟨⟨⟨⟨⟨⟨a1, a2⟩, a3⟩, a4⟩, a5⟩, a6⟩, a7⟩ := h
  exact ⟨a1, a2, a3, a4, a5, fun y e hy => a6 y hy e, fun y hy => (a7 _ hy).elim (fun z => absurd rfl z) id⟩
/-- the context of a lambda's body -/
abbrev lamC (Y : Cx) (l : LamD) (A : Around) (outer : List PySem.Env) (s : Shared) (H : Hp) (E : XK) (f c : Addr) : Cx where
  prog := Y.prog
  w := Y.w
  K := Y.K
  mg := Y.mg
  base := Y.base
  N := Y.N
  A := A.deeper (PySem.W.envX l.qual l.scope s.heap.objs.size f (.ref c) l.cl)
  H_0 := H
  s_0 := s
  outer := outer
  env := PySem.W.envX l.qual l.scope s.heap.objs.size f (.ref c) l.cl
  stack := PySem.W.envX l.qual l.scope s.heap.objs.size f (.ref c) l.cl :: outer
  calm := true
  ex := []
  pn := []
  fn := fun _ => false
  xe := fun e u => wpAny (model Y.prog Y.w) (A.deeper (PySem.W.envX l.qual l.scope s.heap.objs.size f (.ref c) l.cl)) (leaving (PySem.W.envX l.qual l.scope s.heap.objs.size f (.ref c) l.cl) e) (fun _ v => L2.CX Y.prog Y.w outer H s E e v) (fun e' v => L2.CX Y.prog Y.w outer H s E e' v) u
section
variable {Y : Cx} {l : LamD} {pins : List (Addr × Obj)} {σ : St} {H HZ : Hp} {s s1 : Shared} {ps : List Str}
/-- what was caught lies in the maker's cells -/
theorem cl_mem (hcl : l.cl = cloFrom Y.env.cells l.scope.names []) (L : LScope Y.N Y.env.scope l.scope ps) (ok : Y.Ok) {y : Str} {c : Addr} (e : l.cl.lookup y = some c) : Y.env.cells.lookup y = some c := by
  rw [hcl] at e
  rcases cloFrom_mem (PySem.mem_of_lookup e) with hm | ⟨z1, z2⟩
  · cases hm
  · obtain ⟨d, hd⟩ : ∃ d, Y.env.cells.lookup y = some d := ok.has _ ((L.free _ z1).imp id id)
    have : c = d := by
      rw [z2]
      show (Y.env.cells.lookup y).getD _ = d
      rw [hd]; rfl
    rw [this]; exact hd
theorem cl_has (hcl : l.cl = cloFrom Y.env.cells l.scope.names []) {y : Str} (e : l.scope.names.lookup y = some .free) : ∃ c, l.cl.lookup y = some c := by
  rw [hcl]
  exact mem_lookup (cloFrom_has (cells := Y.env.cells) (acc := []) (PySem.mem_of_lookup e))
/-- the slots as a lambda may see them -/
def SeesAs (N : List Str) (scope : Scope) (σ σL : St) : Prop := σL.length = σ.length ∧ ∀ (i : Nat) (y : Str), N[i]? = some y → scope.names.lookup y = some .free → σL[i]? = σ[i]?
theorem lam_begin {A : Around} {outer : List PySem.Env} {E : XK} {f c : Addr} {h1 : Heap} {tk : Nat} {m : Str → Option Value} {fp : List Addr} {σL : St} (I : Inv Y pins σ H s) (hσ : SeesAs Y.N l.scope σ σL) (hfp : ∀ b ∈ fp, ∀ y d, Y.env.cells.lookup y = some d → d ≠ b) (L : LScope Y.N Y.env.scope l.scope ps) (hcl : l.cl = cloFrom Y.env.cells l.scope.names []) (e0 : Env0 Y.prog Y.w Y.K Y.mg Y.base A outer s1 HZ) (ha : A.handled = none)
    (un : Un (frs Y.stack) fp H HZ s.heap s1.heap) (hns : h1.Ns s1.heap.objs.size m) (kp : ∀ b o, s1.heap.get? b = some o → h1.get? b = some o) : Inv (lamC Y l A outer s1 HZ E f c) [] σL HZ { s1 with heap := h1, toks := tk } := by
  have off : ∀ {y : Str} {d : Addr}, Y.env.cells.lookup y = some d → d ∉ fp := fun e m => hfp _ m _ _ e rfl
  have isC : ∀ {d : Addr} {v : Option Value}, d ∉ fp → H d = none → s.heap.IsCell d v → h1.IsCell d v := fun {d v} nf n ⟨o, ho, hd⟩ => by
    obtain ⟨sl, q⟩ := un.any ho n nf
    exact ⟨_, kp _ _ q, hd⟩
  have nx : ∀ b : Addr, b ∉ (lamC Y l A outer s1 HZ E f c).ex := fun b z => by cases z
  refine
    { ok := ⟨e0.mod, L.kind, rfl, rfl, Nat.le_refl _, fun y z d q1 q2 => I.ok.inj y z d (cl_mem hcl L I.ok q1) (cl_mem hcl L I.ok q2), fun y hy => ?_, fun y d z => (by cases z), fun _ => ha, Around.frames_deeper e0.frames, .inr ⟨rfl, rfl⟩, fun b z => absurd z (nx b), e0.bs, e0.bsz, fun b _ _ => nx b, fun b z => absurd z (nx b), e0.funs, e0.frf⟩
      os := rfl
      bare := e0.bare
      base := Un.kept kp
      loc := ⟨m, hns, fun i y v q1 q2 q3 => ?_⟩
      cell := fun y d e => ?_
      free := e0.hok.fresh (Nat.le_refl _)
      freeC := fun y d e => ?_
      pin := fun q hq => by cases hq
      hok := e0.hok.kept kp
      len := hσ.1.trans I.len }
  · have hy' : l.scope.names.lookup y = some .cell ∨ l.scope.names.lookup y = some .free := hy
    rcases hy' with z | z
    · exact absurd rfl (L.nocell _ (PySem.mem_of_lookup z))
    · exact cl_has hcl z
  · have q3' : Vis l.scope y := q3
    rcases q3' with z | z | z
    · exact absurd (List.mem_of_getElem? q1) (L.loc y z)
    · exact absurd rfl (L.nocell _ (PySem.mem_of_lookup z))
    · obtain ⟨m0, n0, hl⟩ := I.loc
      have fr := L.free _ (PySem.mem_of_lookup z)
      obtain ⟨u, ru, lk⟩ := hl i y v q1 ((hσ.2 i y q1 z).symm.trans q2) (.inr fr)
      obtain ⟨d, hd⟩ := cl_has hcl z
      have hd' := cl_mem hcl L I.ok hd
      refine ⟨u, ru, .inr ⟨.inr z, d, hd, ?_⟩⟩
      rcases lk with ⟨k1, _⟩ | ⟨_, d2, k2, k3⟩
      · have k1' : Y.env.scope.names.lookup y = some .local := k1
        rcases fr with w | w <;> rw [w] at k1' <;> cases k1'
      · rw [hd'] at k2
        cases k2
        exact isC (off hd') (I.freeC y _ hd') k3
  · obtain ⟨v, hv⟩ := I.cell y d (cl_mem hcl L I.ok e)
    exact ⟨v, isC (off (cl_mem hcl L I.ok e)) (I.freeC y d (cl_mem hcl L I.ok e)) hv⟩
  · obtain ⟨v, o, ho, hd⟩ := I.cell y d (cl_mem hcl L I.ok e)
    exact un.free d o ho (I.freeC y d (cl_mem hcl L I.ok e)) (off (cl_mem hcl L I.ok e))
end
end Pv
end
section
set_option autoImplicit false
set_option Elab.async false
set_option linter.all false
set_option maxRecDepth 100000
namespace Pv
open PySem PySem.Spec PyProof.Rows L2
variable [TN]
/-! ### lambdas are called: their bodies -/
/-- how a lambda that is called without arguments binds its one parameter -/
def LBind (l : LamD) : Prop := (l.dfl = false ∧ ∀ pm cdv ctv : Value, bindArgs (lamFd l .none pm cdv ctv) ⟨[], []⟩ = pure []) ∨
  (l.dfl = true ∧ ∃ p, l.scope.names.lookup p = some .local ∧ ∀ (d : Addr) (pm cdv ctv : Value), ∃ kk, bindArgs (lamFd l (.ref d) pm cdv ctv) ⟨[], []⟩ = seqItems? (.ref d) >>= kk ∧ ∀ u : Value, kk (some #[u]) = pure [(p, u)])
/-- the lambda's object as it is tracked -/
structure LAt (l : LamD) (H : Hp) (f c : Addr) (dv pm ctv : Value) : Prop where
  fo : H f = some (FnO f l dv pm c ctv)
  co : H c = some (LamX.CodeO c l.qual)
  dv : (l.dfl = false ∧ dv = .none) ∨ (l.dfl = true ∧ ∃ d, dv = .ref d ∧ H d = some (.tup [.int 0]))
theorem LAt.same {l : LamD} {H H' : Hp} {f c : Addr} {dv pm ctv : Value} (h : LAt l H f c dv pm ctv) (s : Same H H') : LAt l H' f c dv pm ctv :=
  ⟨s _ _ h.fo, s _ _ h.co, h.dv.imp id fun ⟨a, d, e1, e2⟩ => ⟨a, d, e1, s _ _ e2⟩⟩
theorem rep_at {K : Fr} {A : Av} {H : Hp} {id : Nat} {x : V} (h : Rep K A H (.fn id []) x) : ∃ f c dv pm ctv, x = .ref f ∧ LAt (K.L id) H f c dv pm ctv := by
  rw [Rep] at h
  obtain ⟨a, c, dv, pm, ctv, e, _, _, h1, h2, h3⟩ := h
  refine ⟨a, c, dv, pm, ctv, e, h1, h2, ?_⟩
  revert h3
  cases hb : (K.L id).dfl with
  | false => exact fun z => .inl ⟨rfl, z⟩
  | true => exact fun ⟨d, z1, _, z2⟩ => .inr ⟨rfl, d, z1, z2⟩
section
variable {Y : Cx} {l : LamD} {pins : List (Addr × Obj)} {σ : St} {H HZ : Hp} {s s1 : Shared} {ps : List Str} {k : Nat}
theorem lam_run {A : Around} {outer : List PySem.Env} {E : XK} {f c : Addr} {dv pm ctv : Value} {tb : TE} {Q : VK} {fp : List Addr} {σL : St} (I : Inv Y pins σ H s) (hσ : SeesAs Y.N l.scope σ σL) (hfp : ∀ b ∈ fp, ∀ y d, Y.env.cells.lookup y = some d → d ≠ b) (L : LScope Y.N Y.env.scope l.scope ps) (hcl : l.cl = cloFrom Y.env.cells l.scope.names []) (hb : LBind l)
    (e0 : Env0 Y.prog Y.w Y.K Y.mg Y.base A outer s1 HZ) (hr : Room (k + 1) A) (un : Un (frs Y.stack) fp H HZ s.heap s1.heap) (at1 : LAt l HZ f c dv pm ctv)
    (hbody : PE (lamC Y l A outer s1 HZ E f c) l.body tb) (ht : tb σL HZ Q) :
    codeAny (model Y.prog Y.w) A (.call (.ref f) ⟨[], []⟩) (CR (L2.CX Y.prog Y.w) outer Y.prog Y.w HZ s1 Q E) s1 := by
  have ho : s1.heap.get? f = some { cls := .type "function", data := .func (lamFd l dv pm (.ref c) ctv) } := (e0.hok f _ at1.fo).1
  obtain ⟨oc, vs, t, c1, c2, c3⟩ := (e0.hok c _ at1.co).1
  have lim : s1.heap.NoLimit := e0.mod.nolimit.keeps fun b o e => (e0.bs b o e).1
  have enter : ∀ binds : List (Str × Value), (∀ x ∈ binds, l.scope.names.lookup x.1 = some .local) →
      wpAny (model Y.prog Y.w) A.in1 (newFunctionEnv l.scope mainGlobals l.cl binds (l.qual ++ ".<locals>.") (some f) (.ref c) none builtinsNs)
        (fun env s2 => s2.heap.NoLimit ∧ codeAny (model Y.prog Y.w) A (.expr l.body env) (CR (L2.CX Y.prog Y.w) outer Y.prog Y.w HZ s1 Q E) s2) (fun e u => CR (L2.CX Y.prog Y.w) outer Y.prog Y.w HZ s1 Q E (.error e) u) s1 := fun binds hloc => by
    refine wpAny_newFunctionEnv L.nocell hloc (fun h1 hns hsb => ⟨lim.fresh _ hsb, ?_⟩) L.kind
    have kp : ∀ b o, s1.heap.get? b = some o → h1.get? b = some o := fun b o e => hsb.extBut b o (Nat.ne_of_lt (Heap.lt_size e)) (Heap.get?_push_of_some _ e)
    have J : Inv (lamC Y l A outer s1 HZ E f c) [] σL HZ { s1 with heap := h1, toks := s1.toks + binds.length } := lam_begin I hσ hfp L hcl e0 hr.hd un hns kp
    refine PySem.W.kla_codeExpr (wpAny_mono (hbody.run [] _ σL HZ Q J ht) (fun v u hq => ?_) fun _ _ hq => hq)
    obtain ⟨w', H', J', rv, q⟩ := hq
    exact ⟨w', H', J'.os, J'.bare, J'.base, J'.hok, rv, q⟩
  refine PySem.W.kla_callFunE hr.depth ho rfl L.co L.gen rfl ⟨c, oc, vs, t, rfl, c1, c2, c3⟩ ?_
  rcases hb with ⟨b1, b2⟩ | ⟨b1, p, b2, b3⟩
  · have hd : dv = .none := at1.dv.elim (fun z => z.2) fun z => by rw [b1] at z; cases z.1
    rw [hd, b2]
    exact wpAny_pure (enter [] fun x hx => by cases hx)
  · obtain ⟨d, hd, hT⟩ : ∃ d, dv = .ref d ∧ HZ d = some (.tup [.int 0]) := at1.dv.elim (fun z => by rw [b1] at z; cases z.1) fun z => z.2
    obtain ⟨kk, k1, k2⟩ := b3 d pm (.ref c) ctv
    obtain ⟨_, its, rv, ob, g1, g2, n, g3⟩ := e0.hok d _ hT
    rw [hd, k1]
    refine wpAny_bind (wpAny_seqItems g1 g3 ?_)
    cases rv with
    | cons r rs =>
      cases rs
      rw [k2]
      exact wpAny_pure (enter _ fun x hx => by
        simp only [List.mem_singleton] at hx
        rw [hx]; exact b2)
/-- the called name in the frame of a def that got the lambda -/
def tAct (Y : Cx) (l : LamD) (σ : St) (A : Around) (outer : List PySem.Env) (i : Nat) : XK → TE := fun E σZ HZ Q => ∃ f c dv pm ctv, σZ[i]? = some (some (.ref f)) ∧ LAt l HZ f c dv pm ctv ∧ ∀ s1 : Shared, ∃ tb, PE (lamC Y l A outer s1 HZ E f c) l.body tb ∧ tb σ HZ Q
theorem pe_act {Ng : List Str} {qg : Str} {sg : Scope} {g : Addr} {cdg : Value} {i : Nat} {a : Str} {pn : List (Addr × Obj)} {xe : Value → Shared → Prop} {W : WX} {E Eg : XK} {p1 p2 : Pos} {fp : List Addr} {σL : St} {s' : Shared} {H' : Hp} (I : Inv Y pins σ H s) (un0 : Un (frs Y.stack) fp H H' s.heap s'.heap) (hσ : SeesAs Y.N l.scope σ σL) (hfp : ∀ b ∈ fp, ∀ y d, Y.env.cells.lookup y = some d → d ≠ b) (L : LScope Y.N Y.env.scope l.scope ps) (hcl : l.cl = cloFrom Y.env.cells l.scope.names []) (hb : LBind l)
    (tk : Takes ((cxOf (L2.CX Y.prog Y.w) Y.prog Y.w Y.K Y.mg Y.base Ng qg sg g cdg Y.A Y.stack s' H' Eg).tr pn xe) W) (hW : ∀ cls d σ' H', E cls d H' → W cls d σ' H') (hr : Room (k + 1) (Y.A.deeper (envOfC qg sg s'.heap.objs.size g cdg)))
    (hN : Ng[i]? = some a) (hv : Vis sg a) (hd : (a == ("__debug__" : Str)) = false := by decide) (hcd : (a == ("__classdict__" : Str)) = false := by decide) :
    PE ((cxOf (L2.CX Y.prog Y.w) Y.prog Y.w Y.K Y.mg Y.base Ng qg sg g cdg Y.A Y.stack s' H' Eg).tr pn xe) (.Call (.Name a p1) [] [] p2)
      (tAct Y l σL (Y.A.deeper (envOfC qg sg s'.heap.objs.size g cdg)) (envOfC qg sg s'.heap.objs.size g cdg :: Y.stack) i E) := by
  refine ⟨fun pz sz σz Hz Q Iz h => ?_⟩
  obtain ⟨f, c, dv, pm, ctv, q1, q2, q3⟩ := h
  refine wpAny_Call_Name_kw (thn ((pe_var (pos := p1) (i := i) hN hv hd hcd).run pz sz σz Hz (fun v H1 => v = .ref f ∧ H1 = Hz) Iz ⟨.ref f, q1, rfl, rfl⟩) fun u s2 ⟨v, H1, I1, r1, qv⟩ => ?_)
  obtain ⟨ev, eH⟩ := qv
  subst ev
  rw [eH] at I1
  obtain rfl : u = Value.ref f := r1
  have ho : s2.heap.get? f = some { cls := .type "function", data := .func (lamFd l dv pm (.ref c) ctv) } := (I1.hok f _ q2.fo).1
  refine PySem.W.callWith_F0 ⟨_, _, _, _, ho⟩ ?_
  have un : Un (frs Y.stack) fp H Hz s.heap s2.heap := un0.trans ((show Un (frs Y.stack) [] H' Hz s'.heap s2.heap from I1.base).mono (fun _ z => z) fun _ z => by cases z)
  obtain ⟨tb, b1, b2⟩ := q3 s2
  refine wpAny_call (codeAny_mono (lam_run (Y := Y) (k := k) (A := Y.A.deeper (envOfC qg sg s'.heap.objs.size g cdg)) I hσ hfp L hcl hb I1.env0 hr un q2 b1 b2) fun r u hq => ?_)
  have hx := passes_call (E := E) tk hW
  cases r with
  | error e => exact hx pz σz Hz s2 e u I1 hq
  | ok fl => cases fl <;> first | exact I1.after hq | exact False.elim hq
end
end Pv
end
section
set_option autoImplicit false
set_option Elab.async false
set_option linter.all false
set_option maxRecDepth 100000
namespace Pv
open PySem PySem.Spec PyProof.Rows L2
variable [TN]
/-! ### try: call() / except C: return r -/
/-- the clauses: the class of each, what it returns -/
inductive Hdl (G : Gm) (sg : Scope) : List ExceptHandler → List (Addr × Str) → Prop
  | nil : Hdl G sg [] []
  | cons {C : Addr} {x r : Str} {np p1 p2 p3 : Pos} {j : Nat} {hs : List ExceptHandler} {l : List (Addr × Str)} (hm : G.mg x = some (.ref C)) (hg : sg.names.lookup x = some .globalImplicit) (hd : (x == ("__debug__" : Str)) = false) (h : Hdl G sg hs l) :
      Hdl G sg (.ExceptHandler (some (.Name x np)) none [.Return (some (.Constant (.str r) j p1)) p2] p3 :: hs) ((C, r) :: l)
/-- what the clauses make of an exception of the class cls -/
def wHd (K : PySem.W.Frag) : List (Addr × Str) → Value → Hp → VK → Prop
  | [], _, _, _ => False
  | (C, r) :: l, cls, H, Q => ∃ b, PySem.W.exmOne K cls (.ref C) = some b ∧ (b = true → Q (.str r) H) ∧ (b = false → wHd K l cls H Q)
def hdTs : List (Addr × Str) → List (Value × (Addr → Value → Option Addr → TS))
  | [] => []
  | (C, r) :: l => (.ref C, fun _ _ _ => tRet (tC (.str r))) :: hdTs l
theorem wHd_many {K : PySem.W.Frag} {D : L2.Ends} {d : Option Addr} {σ : St} : ∀ {l : List (Addr × Str)} {cls : Value} {H : Hp}, wHd K l cls H D.rt → wMany K (fun _ _ _ _ => False) D (hdTs l) cls d σ H
  | [], _, _, h => h.elim
  | (C, r) :: l, cls, H, ⟨b, h1, h2, h3⟩ => ⟨b, h1, fun e a _ => h2 e, fun e => wHd_many (h3 e)⟩
/-- the mirror: the names of the classes that a clause catches, what it returns -/
def catchGo : List (List String × Str) → String → Option Str
  | [], _ => none
  | (ns, r) :: l, c => if c ∈ ns then some r else catchGo l c
/-- the clauses catch as they are told to, of these exceptions -/
def CatchOk (G : Gm) (es : List String) : List (Addr × Str) → List (List String × Str) → Prop
  | [], [] => True
  | (C, r) :: l, (ns, r') :: m => r = r' ∧ (∀ c ∈ es, PySem.W.exmOne G.K (G.cls c) (.ref C) = some (decide (c ∈ ns))) ∧ CatchOk G es l m
  | _, _ => False
theorem catch_hd {G : Gm} {es : List String} {c : String} (hc : c ∈ es) {H : Hp} {Q : VK} : ∀ {l : List (Addr × Str)} {m : List (List String × Str)} {r : Str}, CatchOk G es l m → catchGo m c = some r → Q (.str r) H → wHd G.K l (G.cls c) H Q
  | [], [], _, _, h, _ => by cases h
  | (C, r0) :: l, (ns, r') :: m, r, ⟨e, h1, h2⟩, h, q => by
    subst e
    refine ⟨_, h1 c hc, fun e => ?_, fun e => ?_⟩
    · rw [catchGo, if_pos (of_decide_eq_true e)] at h
      cases h; exact q
    · rw [catchGo, if_neg (of_decide_eq_false e)] at h
      exact catch_hd hc h2 h q
  | [], _ :: _, _, h, _, _ => h.elim
  | _ :: _, [], _, h, _, _ => h.elim
/-- _law_error(call): the outcome of the lambda, caught -/
def lerr (es : List String) (m : List (List String × Str)) (z : Str) : Rs PV → Rs PV
  | .ok _ env => .ok (.str z) env
  | .exc x env => if x.cls ∈ es then match catchGo m x.cls with
    | some r => .ok (.str r) env
    | none => .bad else .bad
  | .bad => .bad
def mLerr (j : Nat) (Ls : Nat → MX) (es : List String) (m : List (List String × Str)) (z : Str) : MX := fun env => match env[j]? with
  | some (.v (.fn id [])) => lerr es m z (Ls id env)
  | _ => .bad
section
variable {G : Gm} {ι : Type} {X : ι → Cx} {k n : Nat} {W : WX}
theorem hdl_ok {Z : Cx} {sg : Scope} {hs : List ExceptHandler} {l : List (Addr × Str)} (hZ : Z.env.scope = sg) (hmg : Z.mg = G.mg) (h : Hdl G sg hs l) : HdsOk Z hs (hdTs l) := by
  induction h with
  | nil => exact .nil
  | cons hm hg hd _ ih => exact .cons ⟨by show Z.env.scope.names.lookup _ = _; rw [hZ]; exact hg, hd, .inl (by rw [hmg]; exact hm)⟩ (fun a oe cls d pn _ _ => pss_one (ps_ret pe_str)) ih
/-- what the call reads; vs: the slots that are the block's own -/
def tLB (X : ι → Cx) (K : PySem.W.Frag) (n : Nat) (vs : List Nat) (hs : List (Addr × Str)) (z : Str) (v : V) : TE := fun σ H Q => ∃ l f c dv pm ctv, v = .ref f ∧ LAt l H f c dv pm ctv ∧ LBind l ∧ (∀ i, ∃ ps, LScope (X i).N (X i).env.scope l.scope ps) ∧ (∀ i, l.cl = cloFrom (X i).env.cells l.scope.names []) ∧
  (∀ i, ∀ v ∈ vs, ∀ y, (X i).N[v]? = some y → l.scope.names.lookup y ≠ some .free) ∧
  ∀ i A outer s1, Room (n + 1) A → ∃ tb, PE (lamC (X i) l A outer s1 H (fun cls _ H' => wHd K hs cls H' Q) f c) l.body tb ∧ tb σ H fun _ H' => Q (.str z) H'
def tLerr (X : ι → Cx) (K : PySem.W.Frag) (ta : TE) (n : Nat) (vs : List Nat) (hs : List (Addr × Str)) (z : Str) : TE := fun σ H Q => ta σ H fun v H1 => ∃ v', [v] = [v'] ∧ tLB X K n vs hs z v' σ H1 Q
/-- the frame, or a block of it -/
abbrev reC (Y : Cx) (s0 : Shared) (H0 : Hp) (env : PySem.Env) (outer : List PySem.Env) (ex : List Addr) (fn : Str → Bool) (pn : List (Addr × Obj)) (xe : Value → Shared → Prop) : Cx :=
  { Y with s_0 := s0, H_0 := H0, env := env, outer := outer, ex := ex, fn := fn, pn := pn, xe := xe }
theorem pe_lerr {x y : Str} {Ng : List Str} {st : Stmt} {hs : List ExceptHandler} {hl : List (Addr × Str)} {z : Str} {p pos p1 p2 p3 p4 p5 p6 : Pos} {j5 : Nat} {h0 : ExceptHandler} {ae : Expr} {ta : TE} (S : Sits G X (n + 3) W) (t : FnThere G x [y] st) (Sc : FnScope Ng [y] (defScope st))
    (hbody : defBody st = [.Try [.Expr (.Call (.Name y p1) [] [] p2) p3] (h0 :: hs) [] [] p4, .Return (some (.Constant (.str z) j5 p5)) p6]) (hh : Hdl G (defScope st) (h0 :: hs) hl) (hN0 : Ng[0]? = some y) (hvy : Vis (defScope st) y) {i : ι} {vs : List Nat} {P : St → Prop}
    {s0 : Shared} {H0 : Hp} {benv : PySem.Env} {outer : List PySem.Env} {ex : List Addr} {fn : Str → Bool} {pn : List (Addr × Obj)} {xe : Value → Shared → Prop} {WB : WX}
    (hmk : ∀ pins s σ H, Inv (reC (X i) s0 H0 benv outer ex fn pn xe) pins σ H s → P σ → ∃ pinsY σY HY sY fp, Inv (X i) pinsY σY HY sY ∧ Un (frs (X i).stack) fp HY H sY.heap s.heap ∧ (∀ b ∈ fp, ∀ u d, (X i).env.cells.lookup u = some d → d ≠ b) ∧ σ.length = σY.length ∧ ∀ v : Nat, v ∉ vs → σ[v]? = σY[v]?)
    (tkB : Takes (reC (X i) s0 H0 benv outer ex fn pn xe) WB) (ha : PE (reC (X i) s0 H0 benv outer ex fn pn xe) ae ta) (hg : benv.kindOf x = some .globalImplicit) (hsw : swapsWith (.Call (.Name y p1) [] [] p2) none p3.line = fun _ => pure false)
    (hdx : (x == ("__debug__" : Str)) = false := by decide) (hdy : (y == ("__debug__" : Str)) = false := by decide) (hcy : (y == ("__classdict__" : Str)) = false := by decide)
    (hst : starEach [ae] benv = (false, eval ae benv) :: starEach [] benv := by rfl) : PE (reC (X i) s0 H0 benv outer ex fn pn xe) (.Call (.Name x p) [ae] [] pos) (fun σ H Q => P σ ∧ tLerr X G.K ta n vs hl z σ H Q) := by
  obtain ⟨g, fd, ⟨⟨oc, od, kV, doc, pm0, an, cdv, ct, osl, rfl, lk, hcd⟩, kp⟩, hm, hbd⟩ := t
  refine ⟨fun pins s σ H Q I h => ?_⟩
  obtain ⟨hP, h⟩ := h
  have hKi := S.K i
  have hmgi := S.mg i
  refine wpAny_Call_Name_kw (ld_glob I hg (show (X i).mg x = _ by rw [hmgi]; exact hm) ?_ hdx)
  refine PySem.W.callWith_K (h₀ := (X i).base) I.ok.mod.kin (show PySem.W.keepIn (X i).K _ = true by rw [hKi]; exact kp) ?_ hst (by rfl)
  refine wpAny_mono ((pa_cons (X := reC (X i) s0 H0 benv outer ex fn pn xe) ha pa_nil hst).run pos pins s σ H (fun ws H1 => ∃ v, ws = [v] ∧ tLB X G.K n vs hl z v σ H1 Q) I h) (fun us s1 hus => ?_) fun _ _ w => w
  obtain ⟨ws, H1, I1, rv, v, ev, l, f, c, dv, pm, ctv, ev2, q2, q3, q4, q5, q5b, q6⟩ := hus
  subst ev2 ev
  refine ⟨I1.kIn, ?_⟩
  have hr : Room (n + 3) (X i).A := S.room i
  obtain ⟨psl, hL⟩ := q4 i
  obtain ⟨pinsY, σY, HY, sY, fp, IY, unY, hfp, hlen, hsee⟩ := hmk pins s1 σ H1 I1 hP
  have sees : SeesAs (X i).N l.scope σY σ := ⟨hlen, fun v u e1 e2 => hsee v fun m => q5b i v m u e1 e2⟩
  have rc : codeAny (model (X i).prog (X i).w) (X i).A (.call (.ref g) ⟨[] ++ us, []⟩) (CR (L2.CX (X i).prog (X i).w) (X i).stack (X i).prog (X i).w H1 s1 Q (fun _ _ _ => False)) s1 := by
    have lk' := lk
    rw [← hKi] at lk'
    refine LamX.run_ofS (E := fun _ _ _ => False) (N := Ng) (ps := [y]) (us := us) (vs := [.ref f]) lk' (by rw [hKi]; exact hcd) Sc hr I1.env0 ?_ rv rfl fun hr' => ?_
    · have := hbd s1 us (by have := I1.kIn; rw [← hKi]; exact this) (by rw [List.append_nil]; exact rv.length.symm)
      rw [List.append_nil] at this
      exact this
    · rw [hbody]
      have tryP : PS (cxOf (L2.CX (X i).prog (X i).w) (X i).prog (X i).w (X i).K (X i).mg (X i).base Ng x (defScope st) g cdv (X i).A (X i).stack s1 H1 (fun _ _ _ => False)) (.Try [.Expr (.Call (.Name y p1) [] [] p2) p3] (h0 :: hs) [] [] p4) _ :=
        ps_try_many (Wout := fun _ _ _ _ => False) (tb := fun Wt D σZ HZ => ∃ E : XK, (∀ cls d σ' H', E cls d H' → Wt cls d σ' H') ∧ tAct (X i) l σ ((X i).A.deeper (envOfC x (defScope st) s1.heap.objs.size g cdv)) (envOfC x (defScope st) s1.heap.objs.size g cdv :: (X i).stack) 0 E σZ HZ fun _ H' => D.nx σZ H')
          rfl rfl takes_none5 (fun Wt pn xe tk _ => ⟨fun pz sz σz Hz D Iz hq => by
            obtain ⟨E, hW, hq⟩ := hq
            exact (pss_one (ps_expr (pos := p3) (pe_act (E := E) (p1 := p1) (p2 := p2) IY unY sees hfp hL (q5 i) q3 tk hW hr' hN0 hvy hdy hcy) (by rw [hsw]))).run pz sz σz Hz D Iz hq⟩) (hdl_ok rfl hmgi hh)
      refine ⟨_, pss_cons tryP (pss_one (ps_ret pe_str)), ?_⟩
      refine ⟨fun cls _ H' => wHd (X i).K hl cls H' Q, fun cls d σ' H' w => wHd_many w, f, c, dv, pm, ctv, ?_, q2, fun s2 => ?_⟩
      · unfold L2.start
        rfl
      · obtain ⟨tb, b1, b2⟩ := q6 i _ (envOfC x (defScope st) s1.heap.objs.size g cdv :: (X i).stack) s2 (hr'.mono (by omega))
        rw [hKi]
        exact ⟨tb, b1, b2⟩
  refine wpAny_call (codeAny_mono rc fun r u hq => ?_)
  cases r with
  | error e =>
    have hx := passes_call (X := reC (X i) s0 H0 benv outer ex fn pn xe) (E := fun _ _ _ => False) tkB (fun _ _ _ _ w => w.elim)
    exact hx pins σ H1 s1 e u I1 hq
  | ok fl => cases fl <;> first | exact I1.after hq | exact False.elim hq
end
end Pv
end
section
set_option autoImplicit false
set_option Elab.async false
set_option linter.all false
set_option maxRecDepth 100000
namespace Pv
open PySem PySem.Spec PyProof.Rows L2
/-! ### a list comprehension whose test looks at the maker's frame -/
/-- the block's frame of names, begun at the state u -/
abbrev blkE (X : Cx) (scope : Scope) (u : Shared) : PySem.Env := compEnvC scope (cellsFrom (u.heap.objs.size + 1) scope.names (cloFrom X.env.cells scope.names [])) u.heap.objs.size X.env
section
variable {X : Cx}
theorem lc_in {pins : List (Addr × Obj)} {u0 : Shared} {σ : St} {Ha : Hp} {Q : VK} {el tgt src : Expr} {cs : List Expr} {sc : Scope} {mine : List (Str × Nat)} {pa : Pos} {wk : TI} {gg : TG} {tc : TT} {tx : TE} (calm : X.calm = true) (nod : X.N.Nodup) (I0 : Inv X pins σ Ha u0) (pw : PI X tgt src wk) (bk : BlkOk X.N X.env.scope sc mine)
    (h1 : ∀ (u : Shared) (G : Hp) (fp : List Addr), PG (X.blk u G sc (blkE X sc u) fp) tgt gg)
    (h2 : ∀ (u : Shared) (G : Hp) (fp : List Addr), Inv X pins σ G u → (∀ b ∈ fp, ∀ y c, X.env.cells.lookup y = some c → c ≠ b) → PTs (X.blk u G sc (blkE X sc u) fp) cs fun σZ H Q => wipe σZ (mine.map (·.2)) = wipe σ (mine.map (·.2)) ∧ tc σZ H Q)
    (h3 : ∀ (u : Shared) (G : Hp) (fp : List Addr), PE (X.blk u G sc (blkE X sc u) fp) el tx)
    (fold : ∀ x, foldedSetIterable src X.env x = pure x) (q0 : tLc wk gg tc tx (mine.map (·.2)) σ Ha Q) :
    wpAny (model X.prog X.w) X.A (eval (.ListComp el [⟨tgt, src, cs, 0⟩] sc pa) X.env) (EP X pins σ Q) X.xe u0 := by
  rw [eval_ListComp]
  have caught : ∀ y ∈ sc.names, y.2 = .free → ∃ c, X.env.cells.lookup y.1 = some c := fun y my ey => I0.ok.has _ ((bk.free y my ey).imp id id)
  refine wpAny_comprehension_free (use := none) rfl fold (closure_ok caught) bk.kind (fun y my ey => (bk.uniq y my).trans (congrArg some ey)) ?_
  refine thn (pw.run pins u0 σ Ha _ I0 q0) fun xv u1 r1 => ?_
  refine thn r1 fun itv u2 r2 => ?_
  obtain ⟨it, fp, stg, J, Hb, ei, I2, tn, on2, fresh, q1⟩ := r2
  subst ei
  refine wpAny_newObj_type (newEnv_comp ?_) (by show 0 ≤ sizeLine; decide)
  obtain ⟨D, eD⟩ : ∃ D, D = u2.heap.objs.size := ⟨_, rfl⟩
  have freeD : Hb D = none := I2.hok.fresh (Nat.le_of_eq eD.symm)
  obtain ⟨Wl, ⟨m1, begun⟩, go⟩ := q1 D freeD
  obtain ⟨u3, eu3⟩ : ∃ u3 : Shared, u3 = { u2 with heap := u2.heap.push { cls := .type "list", data := .seq ([] : List Value).toArray } } := ⟨_, rfl⟩
  have hp3 : u3.heap = u2.heap.push { cls := .type "list", data := .seq ([] : List Value).toArray } := by rw [eu3]
  obtain ⟨Hc, eHc⟩ : ∃ Hc, Hc = upd Hb D (.lst []) := ⟨_, rfl⟩
  have I3 : Inv X pins σ Hc u3 := by
    rw [eu3, eHc]
    refine I2.laid (t' := u2.toks) (fun b o e => Heap.get?_push_of_some _ e) (Nat.le_of_eq eD.symm) ⟨Nat.zero_le _, [], 0, .nil, ?_⟩
    rw [eD]
    exact Heap.get?_push_size _ rfl
  have below : ∀ b ∈ fp, b < u2.heap.objs.size := fun b mb => let ⟨_, e, _⟩ := tn.obj _ _ on2 b mb; Heap.lt_size e
  have fpo : ∀ b ∈ fp, FpOk X pins Hc b ∧ b < u3.heap.objs.size := fun b mb => by
    have lt := below b mb
    refine ⟨⟨?_, (fresh b mb).2⟩, ?_⟩
    · rw [eHc, upd_ne (by rw [eD]; exact Nat.ne_of_lt lt)]
      exact (fresh b mb).1
    · rw [hp3, Heap.size_push]; exact Nat.lt_succ_of_lt lt
  have on3 : stg 0 u3.heap := tn.keep _ _ _ on2 fun b _ o e => by
    rw [hp3]; exact Heap.get?_push_of_some _ e
  have I4 := block_start I3 bk nod fpo
  have t1 := h1 u3 Hc fp
  have t2 := h2 u3 Hc fp I3 fun b mb y c e => (fpo b mb).1.2.2.2.2.1 y c e
  have t3 := h3 u3 Hc fp
  have nfp : ∀ b ∈ fp, Hc b = none := fun b mb => (fpo b mb).1.1
  obtain ⟨ce, ece⟩ : ∃ ce, ce = blkE X sc u3 := ⟨_, rfl⟩
  have cloc : ce.locals = u3.heap.objs.size := by rw [ece]; rfl
  obtain ⟨u4, eu4⟩ : ∃ u4 : Shared, u4 = { u3 with heap := pushCells (u3.heap.push { cls := .type "dict", data := .dict #[] }) sc.names } := ⟨_, rfl⟩
  have I4 : Inv (X.blk u3 Hc sc ce fp) [] (wipe σ (mine.map (·.2))) Hc u4 := by rw [ece, eu4]; exact I4
  have t1 : PG (X.blk u3 Hc sc ce fp) tgt gg := by rw [ece]; exact t1
  have t2 : PTs (X.blk u3 Hc sc ce fp) cs (fun σZ H Q => wipe σZ (mine.map (·.2)) = wipe σ (mine.map (·.2)) ∧ tc σZ H Q) := by rw [ece]; exact t2
  have t3 : PE (X.blk u3 Hc sc ce fp) el tx := by rw [ece]; exact t3
  have e3 : ({ u2 with heap := u2.heap.push { cls := .type "list", data := .seq ([] : List Value).toArray } } : Shared) = u3 := eu3.symm
  have on4 : stg 0 u4.heap := tn.keep _ _ _ on3 fun b _ o e => by
    rw [eu4]; exact pushCells_keeps _ _ _ _ (Heap.get?_push_of_some _ e)
  rw [← eHc] at begun
  have still : ∀ {σ' : St} {H' : Hp} {s' : Shared}, Inv (X.blk u3 Hc sc ce fp) [] σ' H' s' → (∀ b ∈ fp, H' b = none) → ∀ b ∈ fp, FpOk (X.blk u3 Hc sc ce fp) [] H' b := fun {σ' H' s'} I' hn b mb =>
    ⟨hn b mb, (I'.ok.exf b mb).1, I'.ok.exfs b mb, .inl mb, fun y c e => (I'.ok.exf b mb).2 y c e, fun p mp => by cases mp⟩
  have turns : codeAny (model X.prog X.w) X.A (.compLoop (.ListComp el [⟨tgt, src, cs, 0⟩] sc pa) 0 (.ref it) (.ref D) ce) (compPost (model X.prog X.w) X.A X.xe none (EP X pins σ Q) (.ref D) u3.heap.objs.size) u4 := by
    refine compLoop_any (fun n v => ∃ i G, Inv (X.blk u3 Hc sc ce fp) [] (wipe σ (mine.map (·.2))) G v ∧ stg i v.heap ∧ (∀ b ∈ fp, G b = none) ∧ Wl i n G) ?_ m1 ⟨0, Hc, I4, on4, nfp, begun⟩
    rintro n v5 ⟨i, G5, I5, on5, n5, w5⟩
    rcases go i n G5 w5 with ⟨ends, qe⟩ | ⟨on, Nx, less, step⟩
    · refine thnF (tn.done (X.blk u3 Hc sc ce fp) rfl rfl rfl calm i [] v5 _ G5 (fun _ _ => False) I5 (still I5 n5) on5 ends) fun r v6 ⟨er, I6⟩ => ?_
      subst er
      have I7 : Inv X pins σ G5 v6 := I3.call' (ch := fp) I6.os I6.base I6.hok I6.bare fun b mb => ⟨(fpo b mb).1.2.2.2.1, (fpo b mb).1.2.1, (fpo b mb).1.2.2.2.2.1, (fpo b mb).1.2.2.2.2.2⟩
      have nC : G5 u3.heap.objs.size = none := by rw [← cloc]; exact I6.free
      obtain ⟨mm, hn, _⟩ := I6.loc
      have hn' : v6.heap.Ns u3.heap.objs.size mm := by rw [← cloc]; exact hn
      obtain ⟨f0, f1, f2, f3, f4, f5⟩ := I3.fpOk (Nat.le_refl _) nC
      refine ⟨mm, hn', fun hz sb => ?_⟩
      exact ⟨.ref D, G5, I7.turned (t' := v6.toks) (fun b o nb e => (sb.2 b nb).trans e) f0 f1 f3 f4 f5, rfl, qe⟩
    · refine thnF (tn.item (X.blk u3 Hc sc ce fp) rfl rfl rfl calm i [] v5 _ G5 (fun _ _ => False) I5 (still I5 n5) on5 on) fun r v6 ⟨uv, er, r6⟩ => ?_
      subst er
      refine thnF r6 fun _ v7 ⟨xx, G7, I7, rx, yx, on7, n7⟩ => ?_
      have I7p := I7.pinned (still I7 n7) (tn.obj _ _ on7)
      refine thnF (t1.run _ v7 _ G7 xx uv _ I7p rx (step xx G7 yx)) fun _ v8 ⟨σ8, G8, I8, w8, q8⟩ => ?_
      refine thnF (t2.run _ v8 σ8 G8 _ I8 ⟨w8, q8⟩) fun b v9 ⟨G9, I9, q9⟩ => ?_
      have turned : ∀ {v : Shared} {G' : Hp}, Inv (X.blk u3 Hc sc ce fp) ([] ++ pinsAt fp v7.heap) σ8 G' v → Nx G' → ∃ m, m < n ∧ ∃ i G', Inv (X.blk u3 Hc sc ce fp) [] (wipe σ (mine.map (·.2))) G' v ∧ stg i v.heap ∧ (∀ b ∈ fp, G' b = none) ∧ Wl i m G' := fun {v G'} I' nx => by
        obtain ⟨m', lt, w'⟩ := less G' nx
        have pinned : ∀ b ∈ fp, ∀ o, v7.heap.get? b = some o → v.heap.get? b = some o ∧ G' b = none := fun b mb o e =>
          let z := I'.pin (b, o) (List.mem_append_right _ (List.mem_append_right _ (mem_pinsAt mb e))); ⟨z.1, z.2.1⟩
        refine ⟨m', lt, i + 1, G', (I'.unpinned (pins := [])).weak (by rw [← w8, wipe_length]) (fun j x e => ?_), tn.keep _ _ _ on7 fun b mb o e => (pinned b mb o e).1, fun b mb => ?_, w'⟩
        · rw [← w8] at e; exact (wipe_some e).1
        · obtain ⟨o, e, _⟩ := tn.obj _ _ on7 b mb
          exact (pinned b mb o e).2
      cases b with
      | false =>
        simp only [Bool.false_eq_true, if_false] at q9 ⊢
        exact turned I9 q9
      | true =>
        simp only [if_true] at q9 ⊢
        refine thnF (t3.run _ v9 σ8 G9 _ I9 q9) fun z v10 ⟨yv, G10, I10, r10, acc, d10, z10, nx⟩ => ?_
        exact app_ok (X := X.blk u3 Hc sc ce fp) I10 d10 z10 r10 fun v11 I11 => turned I11 nx
  have start := codeAny_compStart_list turns (tn.self X.A 0 _ _ _ on4 turns)
  rw [e3, ← eD]
  show codeAny _ _ (.compStart (.ListComp el [⟨tgt, src, cs, 0⟩] sc pa) 0 (.ref it) (.ref D) (blkE X sc u3)) (compPost (model X.prog X.w) X.A X.xe none (EP X pins σ Q) (.ref D) u3.heap.objs.size) { u3 with heap := pushCells (u3.heap.push { cls := .type "dict", data := .dict #[] }) sc.names }
  rw [ece, eu4] at start
  exact start
end
end Pv
end
section
set_option autoImplicit false
set_option Elab.async false
set_option linter.all false
set_option maxRecDepth 100000
namespace Pv
open PySem PySem.Spec PyProof.Rows L2
variable [TN]
theorem wipe_off {σ : St} {v : Nat} : ∀ {vs : List Nat}, v ∉ vs → (wipe σ vs)[v]? = σ[v]?
  | [], _ => rfl
  | u :: vs, h => by
    simp only [List.mem_cons, not_or] at h
    show ((wipe σ vs).set u none)[v]? = _
    rw [List.getElem?_set_ne (Ne.symm h.1), wipe_off h.2]
section
variable {G : Gm} {ι : Type} {X : ι → Cx} {k n : Nat} {W : WX}
/-- the contexts of a lambda's body -/
abbrev lamX (X : ι → Cx) (l : LamD) (A : Around) (outer : List PySem.Env) (s : Shared) (H : Hp) (E : XK) (f c : Addr) : ι → Cx := fun i => lamC (X i) l A outer s H E f c
theorem sits_lam {l : LamD} {A : Around} {outer : List PySem.Env} {s : Shared} {H : Hp} {E : XK} {f c : Addr} (S : Sits G X k W) (hr : Room (n + 1) A) : Sits G (lamX X l A outer s H E f c) n (bodyW E) :=
  ⟨fun i => S.P i, fun i => S.w i, fun i => S.K i, fun i => S.mg i, fun i => S.base i, fun _ => rfl, fun _ => hr.deeper _, fun _ => takes_of rfl rfl rfl rfl, fun i => S.nd i, fun _ => passes_of rfl⟩
/-- what a lambda makes of what its maker's frame holds; vs: slots that it does not see -/
structure LamJ (G : Gm) {ι : Type} (X : ι → Cx) (n : Nat) (vs : List Nat) (l : LamD) (m : MX) : Prop where
  bd : LBind l
  sc : ∀ i, ∃ ps, LScope (X i).N (X i).env.scope l.scope ps
  cl : ∀ i, l.cl = cloFrom (X i).env.cells l.scope.names []
  no : ∀ i, ∀ v ∈ vs, ∀ y, (X i).N[v]? = some y → l.scope.names.lookup y ≠ some .free
  mj : ∀ (A : Around) (outer : List PySem.Env) (s : Shared) (H : Hp) (E : XK) (f c : Addr), Sits G (lamX X l A outer s H E f c) n (bodyW E) → MJ G (lamX X l A outer s H E f c) (bodyW E) l.body m
theorem LamJ.none {vs : List Nat} {l : LamD} {m : MX} (h : LamJ G X n vs l m) : LamJ G X n [] l m := ⟨h.bd, h.sc, h.cl, fun _ _ z => (by cases z), h.mj⟩
/-- the call's reading, from its mirror -/
theorem lb_sim {hl : List (Addr × Str)} {z : Str} {W' : WX} (S : Sits G X (n + 3) W) {vs : List Nat} {l : LamD} {mm : MX} {es : List String} {m : List (List String × Str)} (J : LamJ G X n vs l mm) (hc : CatchOk G es hl m) {f c : Addr} {dv pm ctv : Value}
    (F : Fp) (σ : St) (H : Hp) (env : Env) (ts : List (V × PV)) (Q : VK) (at1 : LAt l H f c dv pm ctv) (st : StRep G.F F σ H env ts) (q : MEnd G F ts W' σ Q (lerr es m z (mm env))) : tLB X G.K n vs hl z (.ref f) σ H Q := by
  refine ⟨l, f, c, dv, pm, ctv, rfl, at1, J.bd, J.sc, J.cl, J.no, fun i A outer s1 hr => ?_⟩
  obtain ⟨tb, b1, b2⟩ := J.mj A outer s1 H (fun cls _ H' => wHd G.K hl cls H' Q) f c (sits_lam S hr)
  refine ⟨tb, b1 i, b2 F σ H env ts _ st ?_⟩
  have str_in : ∀ {r : Str} {env' : Env} {H' : Hp} {ts' : List (V × PV)}, StRep G.F F σ H' env' ts' → (∀ t ∈ ts, t ∈ ts') → StRep G.F F σ H' env' ((.str r, .str r) :: ts) := fun {r env' H' ts'} s hsub => by
    obtain ⟨O', s'⟩ := s.ext
    exact StO.rep (O := O') (StO.tmp s' fun t ht => by
      rcases List.mem_cons.mp ht with rfl | ht
      · exact .inr (by rw [Rep])
      · exact .inl (hsub t ht))
  cases er : mm env with
  | bad => rw [er] at q; exact q.elim
  | ok r env' =>
    rw [er] at q
    exact fun u H' s => q _ H' (str_in s fun t ht => List.mem_cons_of_mem _ ht)
  | exc xx env' =>
    rw [er] at q
    unfold lerr at q
    by_cases hx : xx.cls ∈ es
    · simp only [if_pos hx] at q
      cases eg : catchGo m xx.cls with
      | none => rw [eg] at q; exact q.elim
      | some r =>
        rw [eg] at q
        exact fun d H' s _ => catch_hd hx hc eg (q _ H' (str_in s fun t ht => ht))
    · simp only [if_neg hx] at q
      exact q.elim
theorem lerr_sim {hl : List (Addr × Str)} {z : Str} {W' : WX} (S : Sits G X (n + 3) W) {j : Nat} {vs : List Nat} {Ls : Nat → MX} {es : List String} {m : List (List String × Str)} (hL : ∀ id, (∀ env, Ls id env = .bad) ∨ LamJ G X n vs (G.F.L id) (Ls id)) (hc : CatchOk G es hl m)
    (F : Fp) (σ : St) (H : Hp) (env : Env) (ts : List (V × PV)) (Q : VK) (st : StRep G.F F σ H env ts) (q : MEnd G F ts W' σ Q (mLerr j Ls es m z env)) : tLerr X G.K (tVar j) n vs hl z σ H Q := by
  unfold mLerr at q
  split at q
  · rename_i id e0
    have st' := st
    obtain ⟨O, st1⟩ := st.ext
    obtain ⟨v, f1, f2⟩ := st1.2.2.1.slot j _ e0
    obtain ⟨f, c, dv, pm, ctv, rfl, at1⟩ := rep_at f2
    rcases hL id with hbad | J
    · rw [hbad] at q; exact q.elim
    · exact ⟨.ref f, f1, .ref f, rfl, lb_sim S J hc F σ H env ts Q at1 st' q⟩
  · exact q.elim
/-- f(lambda: ..) -/
def mLerrL (L : MX) (es : List String) (m : List (List String × Str)) (z : Str) : MX := fun env => lerr es m z (L env)
theorem lamNew_at {l : LamD} {H H1 : Hp} {f : Addr} (h : LamNew l H H1 f) : ∃ c dv pm ctv, LAt l H1 f c dv pm ctv := by
  obtain ⟨c, dv, pm, ctv, n1, h1, h2, h3, h4⟩ := h
  refine ⟨c, dv, pm, ctv, h1, h3, ?_⟩
  revert h4
  cases hb : l.dfl with
  | false => exact fun z => .inl ⟨rfl, z⟩
  | true => exact fun ⟨d, z1, _, z2⟩ => .inr ⟨rfl, d, z1, z2⟩
/-- what stands of the def that catches -/
structure Catch (G : Gm) (x y : Str) (z : Str) (es : List String) (m : List (List String × Str)) : Prop where
  ex : ∃ (Ng : List Str) (st : Stmt) (h0 : ExceptHandler) (hs : List ExceptHandler) (hl : List (Addr × Str)) (p1 p2 p3 p4 p5 p6 : Pos) (j5 : Nat), FnThere G x [y] st ∧ FnScope Ng [y] (defScope st) ∧
    defBody st = [.Try [.Expr (.Call (.Name y p1) [] [] p2) p3] (h0 :: hs) [] [] p4, .Return (some (.Constant (.str z) j5 p5)) p6] ∧ Hdl G (defScope st) (h0 :: hs) hl ∧ Ng[0]? = some y ∧ Vis (defScope st) y ∧ CatchOk G es hl m ∧
    swapsWith (.Call (.Name y p1) [] [] p2) none p3.line = (fun _ => pure false) ∧ (x == ("__debug__" : Str)) = false ∧ (y == ("__debug__" : Str)) = false ∧ (y == ("__classdict__" : Str)) = false
/-- [elt for x in .. if f(x) op b], f catching what x() raises -/
theorem m_compL {x y yc z : Str} {es : List String} {m : List (List String × Str)} {p pc pos cpos fpos : Pos} {op : CmpOp} {r : R2} {f : PV → PV → Option PV} {tg iter elt b : Expr} {ma mb : MX} {scope : Scope} {own : List (Str × Nat)} {ts' : List Nat} {pw : LX} {g : GX} (S : Sits G X (n + 3) W) (C : Catch G x y z es m) (j : Nat) {Ls : Nat → MX}
    (hL : ∀ id, (∀ env, Ls id env = .bad) ∨ LamJ G X n (own.map (·.2)) (G.F.L id) (Ls id)) (hw : WlJ G X W true tg iter pw) (ok : ∀ i, BlkOk (X i).N (X i).env.scope scope own) (hg : GJ G (blkF X scope) tg g ts') (hr : OpJ G r f) (ho : ∀ i, OpR (blkF X scope i) (compareOp op) r)
    (hb : MJ G (blkF X scope) noW b mb) (he : MJ G (blkF X scope) noW elt ma) (hm : behindInMarks op b = false) (hts : ∀ i ∈ ts', i ∈ own.map (·.2)) (hN : ∀ i, (X i).N[j]? = some yc := by intro _; rfl) (hv : ∀ i, Vis (blkF X scope i).env.scope yc := by intro _; first | exact Or.inl rfl | exact Or.inr (Or.inl rfl) | exact Or.inr (Or.inr rfl))
    (hgx : ∀ i, (blkF X scope i).env.kindOf x = some .globalImplicit := by intro _; rfl) (hs : ∀ i x, foldedSetIterable iter (X i).env x = pure x := by intro _ _; rfl) (hdc : (yc == ("__debug__" : Str)) = false := by decide) (hcc : (yc == ("__classdict__" : Str)) = false := by decide)
    (hst : ∀ i, starEach [.Name yc pc] (blkF X scope i).env = (false, eval (.Name yc pc) (blkF X scope i).env) :: starEach [] (blkF X scope i).env := by intro _; rfl) :
    MJ G X W (.ListComp elt [⟨tg, iter, [.Compare (.Call (.Name x p) [.Name yc pc] [] fpos) [op] [b] cpos], 0⟩] scope pos) (mComp (own.map (·.2)) pw g (mtBool (mk2 f (mLerr j Ls es m z) mb)) ma) := by
  obtain ⟨Ng, st, h0, hs', hl, p1, p2, p3, p4, p5, p6, j5, t, Sc, hbody, hh, hN0, hvy, hc, hsw, hdx, hdy, hcy⟩ := C
  obtain ⟨wi, w1, w2⟩ := hw
  obtain ⟨gt, g1, g2⟩ := hg
  obtain ⟨tb, b1, b2⟩ := hb
  obtain ⟨te, e1, e2⟩ := he
  refine ⟨tLc wi gt (tTest (tOp r (tLerr X G.K (tVar j) n (own.map (·.2)) hl z) tb)) te (own.map (·.2)), fun i => ⟨fun pins s σ H Q I h => ?_⟩, mcomp_sim hts w2 g2 (fun F σ H env ts Q st q => ?_) e2⟩
  · refine lc_in (S.calm i) (S.nd i) I (w1 i) (ok i) (fun u G' fp => g1 (i, u, G', _, _, fp)) (fun u G' fp IX hfp => pts_one ?_) (fun u G' fp => e1 (i, u, G', _, _, fp)) (hs i) h
    refine pt_cmpR (X := (X i).blk u G' scope (blkE (X i) scope u) fp) (ta := fun σZ H Q => wipe σZ (own.map (·.2)) = wipe σ (own.map (·.2)) ∧ tLerr X G.K (tVar j) n (own.map (·.2)) hl z σZ H Q) (ho (i, u, G', _, _, fp)) ?_ (b1 (i, u, G', _, _, fp)) hm
    exact pe_lerr (P := fun σZ => wipe σZ (own.map (·.2)) = wipe σ (own.map (·.2))) (WB := fun _ _ _ _ => False) S t Sc hbody hh hN0 hvy (fun pz sz σz Hz Iz hP => ⟨pins, σ, G', u, fp, IX, Iz.base, hfp, Iz.len.trans IX.len.symm, fun v nv => by rw [← wipe_off (σ := σz) nv, hP, wipe_off nv]⟩)
      takes0 (pe_var (X := (X i).blk u G' scope (blkE (X i) scope u) fp) (pos := pc) (hN i) (hv (i, u, G', _, _, fp)) hdc hcc) (hgx (i, u, G', _, _, fp)) hsw hdx hdy hcy (hst (i, u, G', _, _, fp))
  · show tLerr X G.K (tVar j) n (own.map (·.2)) hl z σ H fun x H1 => tb σ H1 fun y H2 => r x y H2 fun v H3 => ∃ b, v = .bl b ∧ Q b H3
    refine mtwo (ta := tLerr X G.K (tVar j) n (own.map (·.2)) hl z) (tb := tb) (ma := mLerr j Ls es m z) (mb := mb) (W := noW) (fun F σ H env ts Q st q => lerr_sim (W' := noW) S hL hc F σ H env ts Q st q) b2 hr st ?_
    unfold mtBool bindM at q
    cases ea : mk2 f (mLerr j Ls es m z) mb env with
    | bad => rw [ea] at q; exact q
    | exc x e => rw [ea] at q; exact q
    | ok c e =>
      rw [ea] at q
      intro x H' st'
      cases c with
      | bool b =>
        obtain ⟨O, st'⟩ := st'.ext
        have r := st'.has (t := (x, .bool b)) List.mem_cons_self
        simp only [Rep] at r
        exact ⟨b, r, q H' (StRep.drop st'.rep)⟩
      | _ => exact q.elim
/-- f(lambda: ..) in the frame itself -/
theorem m_lerrL {x y z : Str} {es : List String} {m : List (List String × Str)} {p lp pos : Pos} (S : Sits G X (n + 3) W) (C : Catch G x y z es m) {l : LamD} {L : MX} (J : LamJ G X n [] l L) (hlam : ∀ i, PE (X i) (.Lambda l.params l.body l.scope lp) (tLamV l)) (hgx : ∀ i, (X i).env.kindOf x = some .globalImplicit := by intro _; rfl)
    (hst : ∀ i, starEach [.Lambda l.params l.body l.scope lp] (X i).env = (false, eval (.Lambda l.params l.body l.scope lp) (X i).env) :: starEach [] (X i).env := by intro _; rfl) : MJ G X W (.Call (.Name x p) [.Lambda l.params l.body l.scope lp] [] pos) (mLerrL L es m z) := by
  obtain ⟨Ng, st, h0, hs', hl, p1, p2, p3, p4, p5, p6, j5, t, Sc, hbody, hh, hN0, hvy, hc, hsw, hdx, hdy, hcy⟩ := C
  refine ⟨tLerr X G.K (tLamV l) n [] hl z, fun i => ⟨fun pins s σ H Q I h => ?_⟩, fun F σ H env ts Q st q => ?_⟩
  · exact (pe_lerr (i := i) (P := fun _ => True) (WB := W) (s0 := (X i).s_0) (H0 := (X i).H_0) (benv := (X i).env) (outer := (X i).outer) (ex := (X i).ex) (fn := (X i).fn) (pn := (X i).pn) (xe := (X i).xe) S t Sc hbody hh hN0 hvy
      (fun pz sz σz Hz Iz _ => ⟨pz, σz, Hz, sz, [], Iz, Un.refl, fun b hb => (by cases hb), rfl, fun _ _ => rfl⟩) (S.takes i) (hlam i) (hgx i) hsw hdx hdy hcy (hst i)).run pins s σ H Q I ⟨True.intro, h⟩
  · obtain ⟨O, st1⟩ := st.ext
    refine ⟨st1.2.2.1.tabs.tabs, fun f H1 sm ln => ?_⟩
    obtain ⟨c, dv, pm, ctv, at1⟩ := lamNew_at ln
    exact ⟨.ref f, rfl, lb_sim (W' := W) S J hc F σ H1 env ts Q at1 (StO.rep (O := O) (st1.same sm)) q⟩
end
end Pv
end
section
set_option autoImplicit false
set_option Elab.async false
set_option linter.all false
set_option maxRecDepth 100000
namespace Pv
open PySem PySem.Spec PyProof.Rows L2
/-! ### the law itself, and the end -/
instance : Inhabited LamD := ⟨⟨default, default, default, default, default, default⟩⟩
def Gm.withL (G : Gm) (L : Nat → LamD) : Gm := { G with F := { G.F with L := L } }
section
variable [TN]
def spLaw (K : PySem.W.Frag) (nn : Nat) (m : SM) : Sp := fun vs H Q _ => ∃ (a : Addr) (ns : List Int), vs = [.ref a] ∧ SqL K H a (ns.map V.int) ∧ ns.length ≤ 63 ∧ LamX.Tabs TN.T H ∧ runFn nn m [.list (ns.map PV.int)] = .ok (.bool true) ∧ ∀ H', Q (.bl true) H'
theorem reps_intl {K : Fr} {A : Av} {H : Hp} : ∀ l : List Int, Reps K A H (l.map PV.int) (l.map V.int)
  | [] => .nil
  | _ :: r => .cons (by rw [Rep]) (reps_intl r)
theorem fn_law {G : Gm} {x : Str} {st : Stmt} {f : Addr} {fd : FuncData} {N : List Str} {k nn : Nat} {m : SM} (F : Fun G.K x x st f fd) (Sc : FnScope N ["script"] (defScope st)) (hN : N.length = nn) (LD : Nat → Nat → LamD)
    (hb : ∀ (cdv : Value) (A : Around) (outer : List PySem.Env) (s : Shared) (H : Hp) (E : XK), fd.code = cdv → Sits (G.withL (LD s.heap.objs.size)) (bodyX (G.withL (LD s.heap.objs.size)) N x (defScope st) f cdv A outer s H E) k (bodyW E) →
      SS (G.withL (LD s.heap.objs.size)) (bodyX (G.withL (LD s.heap.objs.size)) N x (defScope st) f cdv A outer s H E) (bodyW E) (defBody st) m) :
    FnOk G.P G.w G.K G.mg G.base (L2.CX G.P G.w) (k + 1) f fd ["script"] (spLaw G.K nn m) := by
  obtain ⟨oc, od, kV, doc, pm, an, cdv, ct, osl, rfl, lk, hcd⟩ := F.ex
  refine fn_of lk hcd Sc (fun vs H Q E h => by obtain ⟨a, ns, rfl, _⟩ := h; rfl) fun A outer s H vs Q E hr h => ?_
  obtain ⟨a, ns, rfl, hS, hl, hT, hm, q⟩ := h
  obtain ⟨t, h1, h2⟩ := hb cdv A outer s H E rfl (sits_body hr Sc.nd)
  have line63 : ns.length ≤ line := Nat.le_trans hl (by decide)
  refine ⟨t, h1 (), h2 ⟨H, fun _ => False, fun _ => False, fun _ => none⟩ _ H (Pv.start nn [.list (ns.map PV.int)]) [] _ ⟨fun _ => False, fun a z => z.elim, fun a o e _ => Stay.refl e, ?_, fun i b p a e => absurd e (no_own nn _ i b p), fun i j b b' p q a e => absurd e (no_own nn _ i b p), ⟨fun a z => z.elim, fun i p e => absurd e (no_own nn _ i true p)⟩, fun t ht => by cases ht⟩ ?_⟩
  · have rp : Reps (G.withL (LD s.heap.objs.size)).F (fun _ => False) H [.list (ns.map PV.int)] [.ref a] := .one (by
      rw [Rep]
      refine ⟨a, _, rfl, hS.elim (fun z => .inl ⟨id, z⟩) .inr, reps_intl ns, by rw [List.length_map]; exact line63⟩)
    have st := start_env (G := G.withL (LD s.heap.objs.size)) N nn [.ref a] [.list (ns.map PV.int)] (fun _ => False) H (fun a z => z.elim) ⟨hT, fun a _ z => z.elim⟩ rp hN
    exact ⟨fun a z => z.elim id id |>.elim, st.len, fun i p e => let ⟨y, g1, g2⟩ := st.slot i p e; ⟨y, g1, g2.ext (.less fun a z => z.elim id id)⟩, fun i b p e => absurd e (no_own nn _ i b p), st.tabs.less fun a z => z.elim id id⟩
  · unfold runFn at hm
    cases em : m (Pv.start nn [.list (ns.map PV.int)]) with
    | bad => rw [em] at hm; cases hm
    | exc e env' => rw [em] at hm; cases hm
    | ok fl env' =>
      rw [em] at hm
      cases fl with
      | next => cases hm
      | brk => cases hm
      | cnt => cases hm
      | ret p =>
        cases hm
        intro y σ' H' ⟨O, f1, f2, f3, f4, f5, f6, f7⟩
        have ry := f7 _ List.mem_cons_self
        rw [Rep] at ry
        have ey : y = .bl true := ry
        rw [ey]
        exact q H'
end
theorem cx_false {P : Program} {w : World} {H : Hp} {s s' : Shared} {u : Value} (h : L2.CX P w [] H s (fun _ _ _ => False) u s') : False := by
  obtain ⟨_, _, _, _, _, _, _, _, _, _, _, _, z⟩ := h
  exact z
/-- an empty table of code objects stands with the def at f -/
def TabOf (h : Heap) (f : Addr) : Prop := ∃ (c P : Addr) (o : Obj) (fd : FuncData), h.get? f = some o ∧ o.data = .func fd ∧ fd.code = .ref c ∧ PySem.W.CodeHd h c P ∧ h.get? P = some { cls := .none, data := .fields #[] }
theorem walk_pv {l : PySem.W.OpenLaw} {n k : Nat} {q : Program} {loose : List Str} {XP : (Str → Option Value) → Heap → Prop} {YP : World → Heap → Prop} {d : DefRec} {K : Params → PySem.W.Frag} {CX : World → CXT} {x : Str} (names : List Str)
    (hn : l.most = some n) (hn2 : n ≤ sizeLine) (hdf : d.params.defaults = []) (hr : Room k callerA) (hrec : ∀ y ∈ names, ((recsOf q).any fun e => e.name == y) = true) (hY : ∀ (w : World) (h : Heap), YP w h → (K w.params).In h)
    (F : ∀ (w : World) (mg : Str → Option Value) (fa : Addr) (h : Heap), (K w.params).In h → h.Ns mainGlobals mg → mg d.name = some (.ref fa) → (∀ y ∈ names, ∀ f, mg y = some (.ref f) → TabOf h f) → LamX.LawAtS l w (K w.params) (CX w) k n x mg fa h)
    (hCX : ∀ (w : World) (H : Hp) (s : Shared) (e : Value) (s' : Shared), CX w [] H s (fun _ _ _ => False) e s' → False) :
    PySem.W.WalkO q loose XP YP l.row.toRowW d [] (fun f vs => PySem.call f vs) := by
  refine Att.attach_callB hn hdf fun w s₀ s₁ mg mb fa o pm cd doc a vs ns G Y ho hd hcd hmg hobj hints hlen hbits hg => ?_
  have KX := hY w _ Y
  have tabs : ∀ y ∈ names, ∀ f, mg y = some (.ref f) → TabOf s₁.heap f := fun y hy f hf => by
    obtain ⟨dL, hm, hn1⟩ := List.any_eq_true.mp (hrec y hy)
    have en : dL.name = y := beq_iff_eq.mp hn1
    obtain ⟨a', o', fd', c', P', z1, z2, z3, z4, z5, z6⟩ := G.T.tab dL hm
    rw [en, hf] at z1
    cases z1
    exact ⟨c', P', o', fd', z2, z3, z4, PySem.W.CodeHd.of z5 z6, z6.2⟩
  obtain ⟨fd, cs, sp, hT, nT, C, hb, hsp, hF⟩ := F w mg fa _ KX G.T.g hmg tabs
  exact LamX.law_callTs KX G.T.g G.T.b G.T.builtins G.T.nolimit hg hT nT C G.T.bmain hobj hints (Nat.le_trans hlen hn2) hr hF hb (fun H hH hS => hsp H a ns hlen hbits hH hS) fun H e s' => hCX w H s₁ e s'
end Pv
end
section
set_option autoImplicit false
set_option Elab.async false
set_option linter.all false
set_option maxRecDepth 100000
namespace Pv
open PySem PySem.Spec PyProof.Rows L2
variable [TN]
/-! ### lambdas that are handed on: what one makes of numbers -/
/-- at any later heap in which these things stand, a call of a does as F tells -/
def Acts (P : Program) (w : World) (K : PySem.W.Frag) (mg : Str → Option Value) (base : Heap) (F : List PV → Rp PV) (a : Addr) (l : List (Addr × HO)) : Prop :=
  (∃ φ, (a, HO.ext φ) ∈ l ∧ ∀ h, φ h → PySem.W.FnAt a h) ∧
  ∀ (A : Around) (outer : List PySem.Env) (s : Shared) (H : Hp) (us : List Value) (ns : List Int) (r : Int) (Q : VK) (E : XK), (∀ p ∈ l, H p.1 = some p.2) → LamX.Tabs TN.T H → Room 1 A → Env0 P w K mg base A outer s H → Vals (ns.map V.int) us → F (ns.map PV.int) = .ok (.int r) → (∀ H', Same H H' → Q (.int r) H') →
    codeAny (model P w) A (.call (.ref a) ⟨us, []⟩) (CR (L2.CX P w) outer P w H s Q E) s
/-- the lambdas of a text: LF tells what each makes of what it caught and of its arguments -/
def Gm.Lams (G : Gm) (LF : Nat → List PV → List PV → Rp PV) : Prop := ∀ id q qs a l, G.F.C id (q :: qs) a l → Acts G.P G.w G.K G.mg G.base (LF id (q :: qs)) a l
def intsB : List PV → Option (List Int)
  | [] => some []
  | .int i :: r => (intsB r).map (i :: ·)
  | _ :: _ => none
theorem intsB_some : ∀ {ps : List PV} {ns : List Int}, intsB ps = some ns → ps = ns.map PV.int
  | [], ns, h => by cases h; rfl
  | p :: ps, ns, h => by
    cases p <;> (try cases h)
    unfold intsB at h
    cases e : intsB ps with
    | none => rw [e] at h; cases h
    | some ms => rw [e] at h; cases h; rw [intsB_some e]; rfl
theorem reps_intsV {K : Fr} {A : Av} {H : Hp} : ∀ {ns : List Int} {xs : List V}, Reps K A H (ns.map PV.int) xs → xs = ns.map V.int
  | [], xs, h => by rw [List.map_nil, Reps] at h; exact h
  | n :: ns, xs, h => by
    rw [List.map_cons, Reps] at h
    obtain ⟨x, r, rfl, h1, h2⟩ := h
    rw [Rep] at h1
    rw [h1, reps_intsV h2]; rfl
/-- name(..), the name a slot that holds such a lambda; numbers in, a number out -/
def pCallV (LF : Nat → List PV → List PV → Rp PV) (i : Nat) (l : LX) : PX := fun env => match env[i]? with
  | some (.v (.fn id (q :: qs))) => l env >>= fun xs => match intsB xs with
    | some _ => match LF id (q :: qs) xs with
      | .ok (.int r) => .ok (.int r)
      | _ => .bad
    | none => .bad
  | _ => .bad
section
variable {G : Gm} {ι : Type} {X : ι → Cx} {k : Nat} {W : WX} {e : Expr} {es : List Expr} {l : LX} {pos : Pos}
theorem x_callV {LF : Nat → List PV → List PV → Rp PV} {y : Str} {p : Pos} (S : Sits G X (k + 1) W) (hG : G.Lams LF) (i : Nat) (ha : AJ G X W Rep (e :: es) l) (hN : ∀ j, (X j).N[i]? = some y := by intro _; rfl) (hv : ∀ j, Vis (X j).env.scope y := by intro _; first | exact Or.inl rfl | exact Or.inr (Or.inl rfl) | exact Or.inr (Or.inr rfl))
    (hd : (y == ("__debug__" : Str)) = false := by decide) (hcd : (y == ("__classdict__" : Str)) = false := by decide) (he : ∀ i, starEach (e :: es) (X i).env = (false, eval e (X i).env) :: starEach es (X i).env := by intro _; rfl) (hpl : ∀ i, (backTo pos (starEach es (X i).env)).any (·.1) = false := by intro _; rfl) :
    XJ G X W Rep (.Call (.Name y p) (e :: es) [] pos) (pCallV LF i l) := by
  obtain ⟨t, h1, h2⟩ := ha
  refine ⟨fun σ H Q => LamX.Tabs TN.T H ∧ ∃ (a : Addr) (F : List PV → Rp PV) (tr : List (Addr × HO)), σ[i]? = some (some (.ref a)) ∧ Acts G.P G.w G.K G.mg G.base F a tr ∧ (∀ p ∈ tr, (∃ φ, p.2 = .ext φ) ∧ H p.1 = some p.2) ∧
    t σ H fun xs H2 => Same H H2 ∧ ∃ (ns : List Int) (r : Int), xs = ns.map V.int ∧ F (ns.map PV.int) = .ok (.int r) ∧ ∀ H', Same H2 H' → Q (.int r) H', fun j => ⟨fun pins s σ H Q I h => ?_⟩, fun A σ H env Q SS q => ?_⟩
  · obtain ⟨htab, a, F, tr, q1, ⟨⟨φ, hφ, fat⟩, act⟩, q2, q3⟩ := h
    have keep : ∀ {H2 : Hp}, Same H H2 → ∀ p ∈ tr, H2 p.1 = some p.2 := fun {H2} sm p hp => by
      obtain ⟨⟨ψ, e1⟩, e2⟩ := q2 p hp
      have := sm _ _ e2
      rw [e1] at this ⊢
      exact this
    have fatAt : ∀ {pz : List (Addr × Obj)} {σz : St} {H2 : Hp} {s2 : Shared}, Inv (X j) pz σz H2 s2 → Same H H2 → PySem.W.FnAt a s2.heap := fun J sm => fat _ (J.hok a _ (keep sm _ hφ)).1
    refine wpAny_Call_Name_kw (thn ((pe_var (pos := p) (i := i) (hN j) (hv j) hd hcd).run pins s σ H (fun v H1 => v = .ref a ∧ H1 = H) I ⟨.ref a, q1, rfl, rfl⟩) fun u s1 ⟨v, H1, I1, r1, qv⟩ => ?_)
    obtain ⟨ev, eH⟩ := qv
    subst ev
    rw [eH] at I1
    obtain rfl : u = Value.ref a := r1
    refine PySem.W.callWith_F (fatAt I1 (Same.refl H)) ?_ (he j) (hpl j)
    refine wpAny_mono ((h1 j).run pos pins s1 σ H _ I1 q3) (fun us s2 hus => ?_) fun _ _ w => w
    obtain ⟨xs, H2, I2, rv, sm, ns, r, exs, eF, hQ⟩ := hus
    subst exs
    refine ⟨fatAt I2 sm, ?_⟩
    have e0 := I2.env0
    rw [S.P j, S.w j, S.K j, S.mg j, S.base j] at e0
    have rc := act (X j).A (X j).stack s2 H2 us ns r Q (fun _ _ _ => False) (keep sm) (sm.tabs htab) ((S.room j).mono (by omega)) e0 rv eF hQ
    rw [← S.P j, ← S.w j] at rc
    rw [List.nil_append]
    refine wpAny_call (codeAny_mono rc fun r u hq => ?_)
    cases r with
    | error e =>
      have hx := passes_call (E := fun _ _ _ => False) (S.takes j) (fun _ _ _ _ w => w.elim)
      exact hx pins σ H2 s2 e u I2 hq
    | ok fl => cases fl <;> first | exact I2.after hq | exact False.elim hq
  · unfold pCallV at q
    split at q
    · rename_i id c cs e0
      obtain ⟨x, f1, f2⟩ := SS.slot i _ e0
      rw [Rep] at f2
      obtain ⟨a, tr, rfl, f3, f4⟩ := f2
      refine ⟨SS.tabs.tabs, a, LF id (c :: cs), tr, f1, hG _ _ _ _ _ f4, fun p hp => (f3 p hp).2, h2 A σ H env _ SS ?_⟩
      cases el : l env with
      | bad => rw [el] at q; exact q.elim
      | exc x => rw [el] at q; exact q
      | ok us =>
        rw [el] at q
        simp only [Rp.ok_bind] at q
        intro xs H2 sm rr
        cases ei : intsB us with
        | none => rw [ei] at q; exact q.elim
        | some ns =>
          rw [ei] at q
          have eu := intsB_some ei
          cases ef : LF id (c :: cs) us with
          | bad => rw [ef] at q; exact q.elim
          | exc x => rw [ef] at q; exact q.elim
          | ok v =>
            rw [ef] at q
            cases v <;> first | exact q.elim | skip
            rename_i r
            refine ⟨sm, ns, r, reps_intsV (by rw [← eu]; exact AllR.reps rr), by rw [← eu]; exact ef, fun H' s' => q _ H' (sm.trans s') (show Rep G.F A H' (.int r) (V.int r) by rw [Rep])⟩
    · exact q.elim
/-- a lambda that catches nothing, as a value -/
theorem x_lamC (S : Sits G X k W) {q : Str} (M : Mk G X q) (id : Nat) (lam : LamD) (hq : lam.qual = q) (hC : ∀ a c pm ctv, G.F.C id [.none] a [(a, FnO a lam .none pm c ctv), (c, LamX.CodeO c lam.qual)]) (hcl : ∀ i, closureFor lam.scope (X i).env = pure lam.cl) (hd : ∀ i, defaultsOf lam.params (X i).env = ([], []) := by intro _; rfl) (hdf : lam.dfl = false := by rfl) :
    XJ G X W Rep (.Lambda lam.params lam.body lam.scope pos) (pC (.fn id [.none])) := by
  obtain ⟨⟨c0, P, h1, h2, h3, h4⟩, h5⟩ := M
  subst hq
  refine ⟨_, fun i => pe_lam0 (by rw [S.base i, S.mg i]; exact h2) (h1 i) h3 h4 (h5 i) (hcl i) (hd i) hdf, fun A σ H env Q SS q => ⟨SS.tabs.tabs, fun f H1 sm ln => q _ H1 sm ?_⟩⟩
  obtain ⟨c, dv, pm, ctv, n1, g1, g2, g3, g4⟩ := ln
  have edv : dv = .none := by rw [hdf] at g4; exact g4
  subst edv
  rw [Rep]
  refine ⟨f, _, rfl, fun p hp => ?_, hC f c pm ctv⟩
  rcases List.mem_cons.mp hp with rfl | hp
  · exact ⟨fun z => SS.live f z n1, ⟨_, rfl⟩, g1⟩
  · rcases List.mem_cons.mp hp with rfl | hp
    · exact ⟨fun z => g2.elim (fun e => SS.live c z e) fun e => SS.tabs.nc c _ z e, ⟨_, rfl⟩, g3⟩
    · cases hp
theorem acts_lam {lam : LamD} {N ps : List Str} {F : List PV → Rp PV} {nn : Nat} (Sc : FnScope N ps lam.scope) (hN : N.length = nn) (hcl : lam.cl = []) (hbind : ∀ (pm cdv ctv : Value) (us : List Value), us.length = ps.length → bindArgs (lamFd lam .none pm cdv ctv) ⟨us, []⟩ = pure (ps.zip us)) (pb : PX)
    (hF : ∀ (ns : List Int) (r : Int), F (ns.map PV.int) = .ok (.int r) → ns.length = ps.length ∧ pb (Pv.start nn (ns.map PV.int)) = .ok (.int r))
    (hbody : ∀ (f c : Addr) (A : Around) (outer : List PySem.Env) (s : Shared) (H : Hp) (E : XK), Sits G (bodyX G N lam.qual lam.scope f (.ref c) A outer s H E) 0 (bodyW E) → XJ G (bodyX G N lam.qual lam.scope f (.ref c) A outer s H E) (bodyW E) Rep lam.body pb)
    (f c : Addr) (pm ctv : Value) : Acts G.P G.w G.K G.mg G.base F f [(f, FnO f lam .none pm c ctv), (c, LamX.CodeO c lam.qual)] := by
  refine ⟨⟨_, List.mem_cons_self, fun h e => ⟨_, _, _, _, e⟩⟩, fun A outer s H us ns r Q E tr htab hr e0 rv eF hQ => ?_⟩
  have t1 := tr _ List.mem_cons_self
  have t2 := tr _ (List.mem_cons_of_mem _ List.mem_cons_self)
  have ho : s.heap.get? f = some { cls := .type "function", data := .func (lamFd lam .none pm (.ref c) ctv) } := (e0.hok f _ t1).1
  obtain ⟨oc, cvs, t, c1, c2, c3⟩ := (e0.hok c _ t2).1
  obtain ⟨hlen, epb⟩ := hF ns r eF
  have ulen : us.length = ps.length := by rw [← rv.length, List.length_map, hlen]
  have lim : s.heap.NoLimit := e0.mod.nolimit.keeps fun b o e => (e0.bs b o e).1
  have kinds : ∀ y ∈ ps.zip us, lam.scope.names.lookup y.1 = some .local ∨ (lam.scope.names.lookup y.1 = some .cell ∧ ((cellsFrom (s.heap.objs.size + 1) lam.scope.names []).lookup y.1).isSome = true) := fun ⟨y, v⟩ hy =>
    (Sc.par y (List.of_mem_zip hy).1).imp id fun z => ⟨z, PySem.W.cellsFrom_some _ _ _ (.inl z)⟩
  refine PySem.W.kla_callFunE hr.depth ho rfl Sc.co Sc.gen rfl ⟨c, oc, cvs, t, rfl, c1, c2, c3⟩ ?_
  rw [hbind _ _ _ us ulen]
  refine wpAny_pure ?_
  have ecl : (lamFd lam .none pm (.ref c) ctv).closure = [] := hcl
  rw [ecl]
  refine wpAny_newFunctionEnv_cells Sc.kind kinds fun env he s1 x => ?_
  subst he
  refine ⟨lim.keeps x.toInCall.keep, ?_⟩
  obtain ⟨tb, b1, b2⟩ := hbody f c A outer s H E (sits_body (hr.deeper _) Sc.nd)
  have I : Inv (bodyX G N lam.qual lam.scope f (.ref c) A outer s H E ()) [] (L2.start N (ns.map V.int)) H s1 := inv_start Sc hr.hd e0 (by rw [List.length_map, hlen]) rv x
  have SS := start_env (G := G) N nn (ns.map V.int) (ns.map PV.int) (fun _ => False) H (fun a z => z.elim) ⟨htab, fun a _ z => z.elim⟩ (reps_intl ns) hN
  refine PySem.W.kla_codeExpr (wpAny_mono ((b1 ()).run [] s1 _ H Q I (b2 (fun _ => False) _ H _ Q SS ?_)) (fun v u hq => ?_) fun _ _ hq => hq)
  · rw [epb]
    intro x H' s' rx
    have rx : Rep G.F (fun _ => False) H' (.int r) x := rx
    rw [Rep] at rx
    rw [rx]; exact hQ H' s'
  · obtain ⟨w', H', J', rw', q⟩ := hq
    exact ⟨w', H', J'.os, J'.bare, J'.base, J'.hok, rw', q⟩
end
end Pv
end
section
set_option autoImplicit false
set_option Elab.async false
set_option linter.all false
set_option maxRecDepth 100000
namespace Pv
open PySem PySem.Spec PyProof.Rows L2
/-! ### the law's own lambdas, read off its text -/
def stVal : Stmt → Expr
  | .Assign _ v _ => v
  | .Return (some v) _ => v
  | .If t _ _ _ => t
  | .Expr v _ => v
  | _ => .Constant .none 0 ⟨0, 0, 0, 0⟩
def stBody : Stmt → List Stmt
  | .If _ b _ _ => b
  | .For _ _ b _ _ => b
  | _ => []
def exElts : Expr → List Expr
  | .List es _ => es
  | .Tuple es _ _ => es
  | .Call _ es _ _ => es
  | .BinOp a _ b _ => [a, b]
  | .Compare a _ bs _ => a :: bs
  | .BoolOp _ es _ => es
  | .UnaryOp _ e _ => [e]
  | _ => []
def exAt (e : Expr) (i : Nat) : Expr := (exElts e).getD i (.Constant .none 0 ⟨0, 0, 0, 0⟩)
def stAt (l : List Stmt) (i : Nat) : Stmt := l.getD i (.Pass ⟨0, 0, 0, 0⟩)
/-- the lambda that stands there -/
def lamOf (e : Expr) (qual : Str) (cells : List (Str × Addr)) (dfl : Bool) : LamD := match e with
  | .Lambda p b sc _ => ⟨p, b, sc, qual, cloFrom cells sc.names [], dfl⟩
  | _ => default
/-- its free names are the maker's cells -/
def frB (scope sc : Scope) : Bool := sc.names.all fun y => !decide (y.2 = .free) || decide (scope.names.lookup y.1 = some .cell)
theorem clo_in {scope sc : Scope} (h : frB scope sc = true) {q : Str} {n : Nat} {f : Addr} {cdv : Value} : closureFor sc (envOfC q scope n f cdv) = pure (cloFrom (cellsFrom (n + 1) scope.names []) sc.names []) := by
  refine closure_ok (env := envOfC q scope n f cdv) fun y hy e => ?_
  have h1 := List.all_eq_true.mp h y hy
  simp only [Bool.or_eq_true, Bool.not_eq_true', decide_eq_true_eq, decide_eq_false_iff_not] at h1
  exact cell_has (h1.elim (fun z => absurd e z) id)
/-- it does not see these slots -/
def noB (N : List Str) (vs : List Nat) (sc : Scope) : Bool := vs.all fun v => match N[v]? with
  | some y => !decide (sc.names.lookup y = some .free)
  | none => true
theorem no_by {N : List Str} {vs : List Nat} {sc : Scope} (h : noB N vs sc = true) : ∀ v ∈ vs, ∀ y, N[v]? = some y → sc.names.lookup y ≠ some .free := fun v hv y e z => by
  have h1 := List.all_eq_true.mp h v hv
  rw [e] at h1
  simp only [Bool.not_eq_true', decide_eq_false_iff_not] at h1
  exact h1 z
section
variable [TN]
/-- a family of one context, that of a def's body -/
theorem mk_body {G : Gm} {N : List Str} {x : Str} {sc : Scope} {f c P : Addr} {A : Around} {outer : List PySem.Env} {s : Shared} {H : Hp} {E : XK} {q : Str} (TB : LamX.TabB G.base G.mg c P) (hm : (P, q) ∈ TN.T) (hu : ∀ p ∈ TN.T, p.1 = P → p.2 = q) (hq : x ++ ".<locals>." ++ "<lambda>" = q) : Mk G (bodyX G N x sc f (.ref c) A outer s H E) q :=
  ⟨⟨c, P, fun _ => rfl, TB, hm, hu⟩, fun _ => hq⟩
end
end Pv
end
section
set_option autoImplicit false
set_option Elab.async false
set_option linter.all false
namespace Pv
open PySem PySem.Spec PyProof.Rows L2
variable {G : Gm} {ι : Type} {X : ι → Cx} {k : Nat} {W : WX} {a : Expr} {pa : PX} {pos : Pos}
variable [TN]
/-! ### a[lo:hi] with reckoned bounds -/
def OEnd (G : Gm) (A : Av) (W : WX) (σ : St) (H : Hp) (Q : Option Int → Hp → Prop) : Rp (Option Int) → Prop
  | .ok c => ∀ H', Same H H' → Q c H'
  | .exc e => ∀ d H', Same H H' → ExcRep G.F A H' d e.flds → W (G.cls e.cls) d σ H'
  | .bad => False
def PaJ (G : Gm) {ι : Type} (X : ι → Cx) (W : WX) (e : Option Expr) (p : OX) : Prop :=
  ∃ t : TO, (∀ i, PO (X i) e t) ∧ ∀ A σ H env Q, SRep G.F A σ H env → OEnd G A W σ H Q (p env) → t σ H Q
theorem pa_none : PaJ G X W none pNo := ⟨_, fun i => po_none, fun A σ H env Q S q => q H (Same.refl H)⟩
theorem pa_some (ha : XJ G X W BRep a pa) : PaJ G X W (some a) (pPart pa) := by
  obtain ⟨ta, h1, h2⟩ := ha
  refine ⟨_, fun i => po_some (h1 i), fun A σ H env Q S q => h2 A σ H env _ S ?_⟩
  unfold pPart at q
  cases ea : pa env with
  | bad => rw [ea] at q; exact q.elim
  | exc x => rw [ea] at q; exact q
  | ok u =>
    rw [ea] at q
    simp only [Rp.ok_bind] at q
    intro x H1 s1 r1
    cases u with
    | int i => rw [r1.int]; exact ⟨i, rfl, q H1 s1⟩
    | _ => exact q.elim
def rCutA (K : PySem.W.Frag) : V → Option Int → Option Int → Hp → VK → Prop := fun x lo hi H Q => rSlL K x lo hi H Q ∨ rSlA K x lo hi H Q
theorem j_cutA (lo hi : Option Int) (A : Av) (H : Hp) (p c : PV) (x : V) (hl : ∀ a, A a → H a ≠ none) (ra : BRep G.F A H p x) (e : oCutA lo hi p = some c) (Q : VK) (q : ∀ z H', Same H H' → Rep G.F A H' c z → Q z H') : rCutA G.K x lo hi H Q := by
  unfold oCutA at e
  split at e
  · cases e
    obtain ⟨l, xs, rfl, h1, h2⟩ := ra.list
    exact .inl ⟨l, xs, rfl, h1, fun p hp => q _ _ (same_new hp _) (rep_newL hl hp (h2.cut lo hi) (Nat.le_trans (cut_len _ _ _) ra.llen))⟩
  · rename_i ps
    cases e
    obtain ⟨l, xs, rfl, h1, h2⟩ := ra.tuple
    refine .inr ⟨l, xs, rfl, h1, fun hw => q _ H (Same.refl H) ?_, fun hn p hp => q _ _ (same_new hp _) (rep_newT hl hp (h2.cut lo hi) (Nat.le_trans (cut_len _ _ _) ra.tlen))⟩
    have hc : cut ps lo hi = ps := by
      have e0 : cutIx ps.length 0 lo = 0 := by have := hw.1; rw [h2.length] at this; exact this
      have e1 : cutIx ps.length ps.length hi = ps.length := by have := hw.2; rw [h2.length] at this; exact this
      unfold cut
      rw [e0, e1]
      simp
    rw [hc]
    rcases ra with r | ⟨b, eb, hb⟩
    · exact r
    · exact hb.elim
  · cases e
theorem x_cutA {lo hi : Option Expr} {pl ph : OX} {p2 : Pos} (S : Sits G X k W) (ha : XJ G X W BRep a pa) (hlo : PaJ G X W lo pl) (hhi : PaJ G X W hi ph) : XJ G X W Rep (.Subscript a (.Slice lo hi none p2) pos) (pCutA pa pl ph) := by
  obtain ⟨ta, h1, h2⟩ := ha
  obtain ⟨tl, h3, h4⟩ := hlo
  obtain ⟨th, h5, h6⟩ := hhi
  refine ⟨_, fun i => pe_slice (r := rCutA G.K) ?_ (h1 i) (h3 i) (h5 i), fun A σ H env Q S q => h2 A σ H env _ S ?_⟩
  · have := sl_list.or sl_tupA (X := X i)
    rw [S.K i] at this
    exact this
  · unfold pCutA at q
    cases ea : pa env with
    | bad => rw [ea] at q; exact q.elim
    | exc x => rw [ea] at q; exact q
    | ok u =>
      rw [ea] at q
      simp only [Rp.ok_bind] at q
      intro x H1 s1 r1
      refine h4 A σ H1 env _ (S.same s1) ?_
      cases el : pl env with
      | bad => rw [el] at q; exact q.elim
      | exc x => rw [el] at q; exact fun d H' s => q d H' (s1.trans s)
      | ok l =>
        rw [el] at q
        simp only [Rp.ok_bind] at q
        intro H2 s2
        refine h6 A σ H2 env _ (S.same (s1.trans s2)) ?_
        cases eh : ph env with
        | bad => rw [eh] at q; exact q.elim
        | exc x => rw [eh] at q; exact fun d H' s => q d H' (s1.trans (s2.trans s))
        | ok h =>
          rw [eh] at q
          simp only [Rp.ok_bind] at q
          intro H3 s3
          cases ef : oCutA l h u with
          | none => rw [ef] at q; exact q.elim
          | some c =>
            rw [ef] at q
            exact j_cutA l h A H3 u c x (same_live (s1.trans (s2.trans s3)) S.live) (r1.same (s2.trans s3)) ef Q fun z H' s => q z H' (s1.trans (s2.trans (s3.trans s)))
end Pv
end
section
set_option autoImplicit false
set_option Elab.async false
set_option linter.all false
namespace Pv
open PySem PySem.Spec PyProof.Rows L2
variable {G : Gm}
variable [TN]
theorem maxI_in : ∀ (r : List Int) (x : Int), maxI x r ∈ x :: r
  | [], x => by simp [maxI]
  | y :: r, x => by
    have h := maxI_in r (if y > x then y else x)
    unfold maxI
    rcases List.mem_cons.mp h with h | h
    · rw [h]; split <;> simp
    · exact List.mem_cons_of_mem _ (List.mem_cons_of_mem _ h)
theorem maxI_le : ∀ (r : List Int) (x y : Int), y ∈ x :: r → y ≤ maxI x r
  | [], x, y, h => by simp at h; simp [maxI, h]
  | z :: r, x, y, h => by
    unfold maxI
    have hz := maxI_le r (if z > x then z else x) (if z > x then z else x) (by simp)
    rcases List.mem_cons.mp h with rfl | h
    · revert hz; split <;> (intro hz; omega)
    · rcases List.mem_cons.mp h with rfl | h
      · revert hz; split <;> (intro hz; omega)
      · exact maxI_le r _ y (List.mem_cons_of_mem _ h)
theorem minI_in : ∀ (r : List Int) (x : Int), minI x r ∈ x :: r
  | [], x => by simp [minI]
  | y :: r, x => by
    have h := minI_in r (if y < x then y else x)
    unfold minI
    rcases List.mem_cons.mp h with h | h
    · rw [h]; split <;> simp
    · exact List.mem_cons_of_mem _ (List.mem_cons_of_mem _ h)
theorem minI_le : ∀ (r : List Int) (x y : Int), y ∈ x :: r → minI x r ≤ y
  | [], x, y, h => by simp at h; simp [minI, h]
  | z :: r, x, y, h => by
    unfold minI
    have hz := minI_le r (if z < x then z else x) (if z < x then z else x) (by simp)
    rcases List.mem_cons.mp h with rfl | h
    · revert hz; split <;> (intro hz; omega)
    · rcases List.mem_cons.mp h with rfl | h
      · revert hz; split <;> (intro hz; omega)
      · exact minI_le r _ y (List.mem_cons_of_mem _ h)
theorem two_ints {A : Av} {H : Hp} {i j : Int} {xs : List V} (ra : AllR (BRep G.F A H) [.int i, .int j] xs) : xs = [.int i, .int j] := by
  obtain ⟨x, r, rfl, h1, h2⟩ := ra
  obtain ⟨y, rfl, h3⟩ := allR1 h2
  rw [h1.int, h3.int]
theorem j_max : FnJ G (fun xs H Q => (∃ i j, xs = [.int i, .int j] ∧ Q (.int (if j > i then j else i)) H) ∨ rMax G.K xs H Q) fMax := by
  intro A H as c xs hl ra e Q q
  unfold fMax at e
  split at e
  · cases e
    exact .inl ⟨_, _, two_ints ra, q _ H (Same.refl H) (rInt _ _ _ _)⟩
  · rename_i ps
    cases eb : intsOf ps with
    | none => rw [eb] at e; cases e
    | some ns =>
      rw [eb] at e
      simp only [Option.bind_some] at e
      split at e
      · cases e
      · rename_i n r
        cases e
        obtain ⟨x, rfl, r0⟩ := allR1 ra
        obtain ⟨l, ys, rfl, h1, h2⟩ := r0.list
        rw [ints_rep eb h2] at h1
        refine .inr ⟨l, n :: r, rfl, h1, by simp, fun m hm hy => ?_⟩
        have e1 : m = maxI n r := Int.le_antisymm (maxI_le r n m hm) (hy _ (maxI_in r n))
        rw [e1]
        exact q _ H (Same.refl H) (rInt _ _ _ _)
  · cases e
theorem j_min : FnJ G (fun xs H Q => (∃ i j, xs = [.int i, .int j] ∧ Q (.int (if j < i then j else i)) H) ∨ rMin G.K xs H Q) fMin := by
  intro A H as c xs hl ra e Q q
  unfold fMin at e
  split at e
  · cases e
    exact .inl ⟨_, _, two_ints ra, q _ H (Same.refl H) (rInt _ _ _ _)⟩
  · rename_i ps
    cases eb : intsOf ps with
    | none => rw [eb] at e; cases e
    | some ns =>
      rw [eb] at e
      simp only [Option.bind_some] at e
      split at e
      · cases e
      · rename_i n r
        cases e
        obtain ⟨x, rfl, r0⟩ := allR1 ra
        obtain ⟨l, ys, rfl, h1, h2⟩ := r0.list
        rw [ints_rep eb h2] at h1
        refine .inr ⟨l, n :: r, rfl, h1, by simp, fun m hm hy => ?_⟩
        have e1 : m = minI n r := Int.le_antisymm (hy _ (minI_in r n)) (minI_le r n m hm)
        rw [e1]
        exact q _ H (Same.refl H) (rInt _ _ _ _)
  · cases e
theorem j_sum : FnJ G (rSum G.K) fSum := by
  intro A H as c xs hl ra e Q q
  unfold fSum at e
  split at e
  · rename_i ps
    cases eb : intsOf ps with
    | none => rw [eb] at e; cases e
    | some ns =>
      rw [eb] at e
      cases e
      obtain ⟨x, rfl, r⟩ := allR1 ra
      obtain ⟨l, ys, rfl, h1, h2⟩ := r.list
      rw [ints_rep eb h2] at h1
      exact ⟨l, ns, rfl, h1, q _ H (Same.refl H) (rInt _ _ _ _)⟩
  · cases e
theorem j_str : FnJ G (fun xs H Q => ∃ i, xs = [.int i] ∧ i.natAbs.log2 < 1920 ∧ Q (.str (Str.ofString (toString i))) H) fStr := by
  intro A H as c xs hl ra e Q q
  unfold fStr at e
  split at e
  · split at e
    · rename_i h
      cases e
      obtain ⟨x, rfl, r⟩ := allR1 ra
      rw [r.int]
      exact ⟨_, rfl, h, q _ H (Same.refl H) (by rw [Rep])⟩
    · cases e
  · cases e
theorem cr_max2 {X : Cx} (hc : X.calm = true) : CallR X (.builtin "max") (fun xs H Q => (∃ i j, xs = [V.int i, V.int j] ∧ Q (V.int (if j > i then j else i)) H) ∨ rMax X.K xs H Q) := (call_max2 hc).or (cr_max hc)
theorem cr_min2 {X : Cx} (hc : X.calm = true) : CallR X (.builtin "min") (fun xs H Q => (∃ i j, xs = [V.int i, V.int j] ∧ Q (V.int (if j < i then j else i)) H) ∨ rMin X.K xs H Q) := (call_min2 hc).or (cr_min hc)
end Pv
end
section
set_option autoImplicit false
set_option Elab.async false
set_option linter.all false
namespace Pv
open PySem PySem.Spec PyProof.Rows L2
variable {G : Gm} {ι : Type} {X : ι → Cx} {k : Nat} {W : WX} {elt iter tg : Expr} {ifs : List Expr} {pos : Pos} {ma : MX}
variable [TN]
/-- y = [..] on one line, whose making changes something -/
theorem ssetCompM {ts' : List Nat} {p : LX} {g : GX} {mc : MT} (i : Nat) {y : Str} {py spos : Pos} {scope : Scope} {own : List (Str × Nat)} (S : Sits G X k W) (hw : WlJ G X W true tg iter p) (ok : ∀ i, BlkOk (X i).N (X i).env.scope scope own)
    (hg : GJ G (blkF X scope) tg g ts') (ht : MTsJ G (blkF X scope) noW ifs mc) (he : MJ G (blkF X scope) noW elt ma) (hts : ∀ i ∈ ts', i ∈ own.map (·.2))
    (hy : ∀ j, (X j).N[i]? = some y := by intro _; rfl) (hyl : ∀ j, (X j).env.scope.names.lookup y = some .local := by intro _; rfl)
    (hsw : ∀ j, swapsWith (.ListComp elt [⟨tg, iter, ifs, 0⟩] scope pos) (some (.Name y py)) spos.line (X j).env = pure true := by intro _; exact sw_true rfl rfl rfl (by decide +kernel))
    (hs : ∀ i x, foldedSetIterable iter (X i).env x = pure x := by intro _ _; rfl) :
    S1 G X W (.Assign [.Name y py] (.ListComp elt [⟨tg, iter, ifs, 0⟩] scope pos) spos) (sAsgM (mComp (own.map (·.2)) p g mc ma) (gSet i)) := by
  obtain ⟨wi, w1, w2⟩ := hw
  obtain ⟨gt, g1, g2⟩ := hg
  obtain ⟨tt, t1, t2⟩ := ht
  obtain ⟨te, e1, e2⟩ := he
  refine ⟨_, fun j => ps_setLc (S.calm j) (S.nd j) (hy j) (hyl j) (hsw j) (w1 j) (ok j) (fun s H C cl fp => g1 (j, s, H, C, cl, fp)) (fun s H C cl fp => t1 (j, s, H, C, cl, fp)) (fun s H C cl fp => e1 (j, s, H, C, cl, fp)) (hs j), fun F σ H env ts D st q => mcomp_sim hts w2 g2 t2 e2 F σ H env ts _ st ?_⟩
  unfold sAsgM bindM at q
  cases ea : mComp (own.map (·.2)) p g mc ma env with
  | bad => rw [ea] at q; exact q
  | exc x e => rw [ea] at q; exact fun d H' s => q d σ H' s
  | ok c e => rw [ea] at q; exact fun x H' s => q _ H' s.put
end Pv
end
section
set_option autoImplicit false
set_option Elab.async false
set_option linter.all false
namespace Pv
open PySem PySem.Spec PyProof.Rows L2
variable {G : Gm} {ι : Type} {X : ι → Cx} {k : Nat} {W : WX} {a b : Expr} {es : List Expr} {pos : Pos} {ma : MX}
variable [TN]
/-- a changing test, whatever its whole is -/
def MWhJ (G : Gm) {ι : Type} (X : ι → Cx) (W : WX) (e : Expr) (m : MT) : Prop :=
  ∃ t : TT, (∀ i, PW (X i) e t) ∧ ∀ F σ H env ts Q, StRep G.F F σ H env ts → MTEnd G F ts W σ Q (m env) → t σ H Q
theorem MWhJ.t {e : Expr} {m : MT} (h : MWhJ G X W e m) : MTJ G X W e m := let ⟨t, h1, h2⟩ := h; ⟨t, fun i => (h1 i).pt, h2⟩
theorem mw_and1 {tc : MT} (h : MTJ G X W a tc) : MWhJ G X W (.BoolOp .And [a] pos) tc := let ⟨t, h1, h2⟩ := h; ⟨t, fun i => pw_and1 (h1 i), h2⟩
theorem mw_or1 {tc : MT} (h : MTJ G X W a tc) : MWhJ G X W (.BoolOp .Or [a] pos) tc := let ⟨t, h1, h2⟩ := h; ⟨t, fun i => pw_or1 (h1 i), h2⟩
theorem mw_and {tc td : MT} (ha : MTJ G X W a tc) (hb : MWhJ G X W (.BoolOp .And (b :: es) pos) td) : MWhJ G X W (.BoolOp .And (a :: b :: es) pos) (mtAnd tc td) := mt_and ha hb
theorem mw_or {tc td : MT} (ha : MTJ G X W a tc) (hb : MWhJ G X W (.BoolOp .Or (b :: es) pos) td) : MWhJ G X W (.BoolOp .Or (a :: b :: es) pos) (mtOr tc td) := by
  obtain ⟨t, h1, h2⟩ := ha
  obtain ⟨u, h3, h4⟩ := hb
  refine ⟨_, fun i => pw_or (h1 i) (h3 i), fun F σ H env ts Q st q => h2 F σ H env ts _ st ?_⟩
  unfold mtOr bindM at q
  cases ec : tc env with
  | bad => rw [ec] at q; exact q
  | exc x e => rw [ec] at q; exact q
  | ok v e =>
    rw [ec] at q
    intro H1 st1
    cases v with
    | false => exact h4 F σ H1 e ts Q st1 q
    | true => exact q H1 st1
theorem mt_not {tc : MT} (ha : MTJ G X W a tc) : MTJ G X W (.UnaryOp .Not a pos) (mtNot tc) := by
  obtain ⟨t, h1, h2⟩ := ha
  refine ⟨_, fun i => pt_not (h1 i), fun F σ H env ts Q st q => h2 F σ H env ts _ st ?_⟩
  unfold mtNot bindM at q
  cases ec : tc env with
  | bad => rw [ec] at q; exact q
  | exc x e => rw [ec] at q; exact q
  | ok v e => rw [ec] at q; exact q
/-- any other changing expression, by its truth -/
theorem mt_truth (S : Sits G X k W) (ha : MJ G X W a ma) (he : ∀ i whole, isTrue a (X i).env whole = (do let v ← whole; standAt a.pos; holding [v] (truthy v))) : MTJ G X W a (mtTruth ma) := by
  obtain ⟨ta, h1, h2⟩ := ha
  refine ⟨fun σ H Q => ta σ H fun x H' => ∃ k, TruV G.K x H' k ∧ Q k H', fun i => ?_, fun F σ H env ts Q st q => h2 F σ H env ts _ st ?_⟩
  · have := pt_truth (h1 i) (he i)
    rw [S.K i] at this
    exact this
  unfold mtTruth bindM at q
  cases ea : ma env with
  | bad => rw [ea] at q; exact q
  | exc x e => rw [ea] at q; exact q
  | ok u e =>
    rw [ea] at q
    simp only at q
    intro x H1 st1
    have stk := st1
    obtain ⟨O, st1⟩ := st1.ext
    have r1 : BRep G.F _ H1 u x := .inl (st1.has (t := (x, u)) List.mem_cons_self)
    cases u with
    | none => rw [r1.none]; exact ⟨_, rfl, q H1 stk.drop⟩
    | bool b => rw [r1.bool]; exact ⟨_, rfl, q H1 stk.drop⟩
    | int i => rw [r1.int]; exact ⟨_, rfl, q H1 stk.drop⟩
    | list ps =>
      obtain ⟨l, xs, rfl, h3, h4⟩ := r1.list
      refine ⟨!ps.isEmpty, .inl ⟨xs, h3, ?_⟩, q H1 stk.drop⟩
      have := h4.length
      cases xs <;> cases ps <;> simp at this <;> rfl
    | tuple ps =>
      obtain ⟨l, xs, rfl, h3, h4⟩ := r1.tuple
      refine ⟨!ps.isEmpty, .inr (.inl ⟨xs, h3, ?_⟩), q H1 stk.drop⟩
      have := h4.length
      cases xs <;> cases ps <;> simp at this <;> rfl
    | _ => exact q.elim
end Pv
end
section
set_option autoImplicit false
set_option Elab.async false
set_option linter.all false
namespace Pv
open PySem PySem.Spec PyProof.Rows L2
variable {G : Gm} {ι : Type} {X : ι → Cx} {k : Nat} {W : WX} {a b : Expr} {es : List Expr} {pos : Pos} {ma mb : MX} {ml : ML}
variable [TN]
theorem m_lst {n : Nat} (h : MLJ G X W es ml) (hm : ManyM n ml) (hn : n ≤ 1000 := by decide) : MJ G X W (.List es pos) (mLst ml) := by
  obtain ⟨t, h1, h2⟩ := h
  refine ⟨_, fun i => pe_lst (h1 i), fun F σ H env ts Q st q => h2 F σ H env ts _ st (MLEnd.bind q fun us env1 el q1 xs H1 hl st1 => ?_)⟩
  have hle : us.length ≤ sizeLine := by rw [hm env us env1 el]; exact Nat.le_of_lt (small1000 hn)
  refine ⟨by rw [hl]; exact hle, fun p hp => q1 _ _ ?_⟩
  obtain ⟨O, st1⟩ := st1.ext
  refine StO.rep (O := O) (StO.tmp (st1.same (same_new hp _)) fun t ht => ?_)
  rcases List.mem_cons.mp ht with rfl | ht
  · exact .inr (rep_newL st1.live hp (zip_reps hl fun t ht => st1.has ht) (by rw [line_eq]; exact hle))
  · exact .inl (List.mem_append_right _ ht)
def asBoolM : PV → Option Bool
  | .bool b => some b
  | _ => none
theorem m_one {op : BoolOp} (ha : MJ G X W a ma) : MJ G X W (.BoolOp op [a] pos) ma := by
  obtain ⟨ta, h1, h2⟩ := ha
  exact ⟨ta, fun i => pe_one (h1 i), h2⟩
end Pv
end
section
set_option autoImplicit false
set_option Elab.async false
set_option linter.all false
namespace Pv
open PySem PySem.Spec PyProof.Rows L2
variable {G : Gm} {ι : Type} {X : ι → Cx} {k : Nat} {W : WX} {a b e : Expr} {es : List Expr} {pos : Pos} {pa pb : PX}
variable [TN]
theorem Reps.rev {K : Fr} {A : Av} {H : Hp} : ∀ {ps : List PV} {xs : List V}, Reps K A H ps xs → Reps K A H ps.reverse xs.reverse
  | [], xs, r => by rw [Reps] at r; subst r; exact .nil
  | p :: ps, xs, r => by
    rw [Reps] at r
    obtain ⟨x, s, rfl, r1, r2⟩ := r
    rw [List.reverse_cons, List.reverse_cons]
    exact r2.rev.append (.one r1)
/-- a[::-1] -/
theorem f_rev {j : Nat} {p1' p2' p3' : Pos} (S : Sits G X k W) (ha : XJ G X W BRep a pa) : FJ G X W (.Subscript a (.Slice none none (some (.UnaryOp .USub (.Constant (.int 1) j p1') p2')) p3') pos) (p1 oRevL pa) := by
  obtain ⟨ta, h1, h2⟩ := ha
  refine ⟨tRevL G.K ta, fun i => by rw [← S.K i]; exact pe_revL (h1 i), fun A σ H env Q SS q => h2 A σ H env _ SS ?_⟩
  unfold p1 at q
  cases ea : pa env with
  | bad => rw [ea] at q; exact q.elim
  | exc x => rw [ea] at q; exact q
  | ok u =>
    rw [ea] at q
    simp only [Rp.ok_bind] at q
    intro x H1 s1 r1
    cases u with
    | list ps =>
      obtain ⟨l, xs, rfl, h3, h4⟩ := r1.list
      exact ⟨l, xs, rfl, h3, fun p hp => q _ _ (s1.trans (same_new hp _)) (fr_new (same_live s1 SS.live) s1 hp h4.rev (by rw [List.length_reverse]; exact r1.llen))⟩
    | _ => exact q.elim
/-- name.extend(a new list) -/
theorem sext (S : Sits G X k W) (i : Nat) {x : Str} {px pa1 pc1 : Pos} (he : FJ G X W e pa) (hN : ∀ j, (X j).N[i]? = some x := by intro _; rfl) (hv : ∀ j, Vis (X j).env.scope x := by intro _; first | exact Or.inl rfl | exact Or.inr (Or.inl rfl) | exact Or.inr (Or.inr rfl))
    (hd : (x == ("__debug__" : Str)) = false := by decide) (hcd : (x == ("__classdict__" : Str)) = false := by decide)
    (hbase : ∀ j, attributeBase (.Name x px) "extend" (X j).env (eval (.Name x px) (X j).env) = eval (.Name x px) (X j).env := by intro _; rfl)
    (hfew : ∀ j, ((backTo pc1 (starEach [e] (X j).env)).all (fun x => !x.1) && (backToKw pc1 (keywordEach [] (X j).env)).all (fun x => x.1.isSome) && decide (([e] : List Expr).length + ([] : List Keyword).length + (if ([] : List Keyword).isEmpty then 0 else 1) < 30)) = true := by intro _; rfl)
    (hline : (pa1.endLine == pc1.line) = true := by rfl) (hst : ∀ j, starEach [e] (X j).env = (false, eval e (X j).env) :: starEach [] (X j).env := by intro _; rfl) (hplain : ∀ j, (backTo pc1 (starEach [] (X j).env)).any (·.1) = false := by intro _; rfl)
    (hsw : ∀ j, swapsWith (.Call (.Attribute (.Name x px) "extend" pa1) [e] [] pc1) none pos.line (X j).env = pure false := by intro _; rfl) : S1 G X W (.Expr (.Call (.Attribute (.Name x px) "extend" pa1) [e] [] pc1) pos) (sExt i pa) := by
  obtain ⟨t, h1, h2⟩ := he
  refine ⟨tDrop (tBM G.K "list" rExtend (tVar i) (tCons t tNil)), fun j => ?_, fun F σ H env ts D st q => ?_⟩
  · have := ps_expr (pos := pos) (pe_bm (cpos := pc1) (apos := pa1) PySem.F.plainAttrs_list PySem.F.slot_list_extend PySem.F.type_list_extend mt_extend (pe_var (pos := px) (hN j) (hv j) hd hcd) (pa_cons (h1 j) pa_nil (hst j)) (hbase j) (hfew j) hline (hst j) (hplain j)) (hsw j)
    rw [S.K j] at this
    exact this
  unfold sExt at q
  split at q
  · rename_i b0 zs0 e0
    have st0 := st
    obtain ⟨O, st⟩ := st.ext
    obtain ⟨l, el, xs, hH, hr, hz2⟩ := st.2.2.1.own i b0 _ e0
    refine ⟨.ref l, el, .inl ⟨rfl, xs, .of hH⟩, ?_⟩
    refine h2 _ σ H env _ st.2.2.1 ?_
    cases ea : pa env with
    | bad => rw [ea] at q; exact q
    | exc x =>
      rw [ea] at q
      intro d H' s ex
      refine q d σ H' (st0.same s) fun nz => ?_
      obtain ⟨a, m, f1, f2, f3, f4⟩ := ex nz
      exact ⟨a, m, f1, fun z => f2 (.inr z), f3, fun f p fp => let ⟨v, g1, g2⟩ := f4 f p fp; ⟨v, g1, g2.ext (.less fun a z => .inr z)⟩⟩
    | ok c =>
      rw [ea] at q
      simp only [liftR_ok] at q
      intro y H' s ⟨a, ey, hn, ho⟩
      subst ey
      split at q
      · rename_i qs
        split at q
        · rename_i hz
          obtain ⟨ws, w1, w2, w3⟩ := ho
          have hH' : H' l = some (.lst xs) := s _ _ hH
          refine ⟨l, a, xs, ws, rfl, rfl, hH', w1, ?_, ?_⟩
          · rw [hr.length, w2.length, ← line_eq]; exact hz
          · have st' := st.same s
            refine q σ _ (StO.rep (O := O) (StO.write (p' := .list (zs0 ++ qs)) st' e0 el ⟨xs ++ ws, upd_same, ?_, by simp; exact hz⟩))
            have hO : O l := st.2.2.2.1 i b0 _ l e0 el
            have ex : Ext (fun a => O a ∨ F.B a) (fun a => O a ∨ F.B a) H' (upd H' l (.lst (xs ++ ws))) := ⟨fun b z => .inl z, fun c u q n => stay_upd (by assumption) (by exact True.intro) q fun z => n (.inl (by rw [z]; exact hO))⟩
            exact (Reps.ext ex (hr.same s)).append (Reps.ext ex (Reps.ext (.less fun a z => .inl z) w2))
        · exact q.elim
      · exact q.elim
  · exact q.elim
end Pv
end
section
set_option autoImplicit false
set_option Elab.async false
set_option linter.all false
namespace Pv
open PySem PySem.Spec PyProof.Rows L2
variable {G : Gm} {ι : Type} {X : ι → Cx} {k : Nat} {W : WX} {e : Expr} {pos : Pos} {pa : PX}
variable [TN]
/-- name += e, name -= e, of integers -/
theorem saug_of {op : Operator} {f : PV → PV → Option PV} {g : Int → Int → Int} (S : Sits G X k W) (i : Nat) {x : Str} {pos' : Pos} (hop : ∀ j, PIp (X j) op (ipI g)) (hf : ∀ p q c, f p q = some c → ∃ m n, p = .int m ∧ q = .int n ∧ c = .int (g m n)) (he : XJ G X W Rep e pa)
    (hi : ∀ j, (X j).N[i]? = some x) (hx : ∀ j, Loc (X j).env.scope x)
    (hfn : ∀ j, (X j).fn x = true ∨ (X j).env.scope.names.lookup x = some .local) : S1 G X W (.AugAssign (.Name x pos') op e pos) (sAug i f pa) := by
  obtain ⟨t, h1, h2⟩ := he
  refine ⟨_, fun j => ps_aug (S.nd j) (hi j) (hx j) (h1 j) (hop j) (hfn j), fun F σ H env ts D st q => ?_⟩
  unfold sAug at q
  split at q
  · rename_i p e0
    obtain ⟨O, st0⟩ := st.ext
    obtain ⟨v, ev, rv⟩ := st0.2.2.1.slot i p e0
    refine ⟨v, ev, in_x st h2 ?_⟩
    cases ea : pa env with
    | bad => rw [ea] at q; exact q
    | exc x => rw [ea] at q; exact fun d H' s => q d σ H' s
    | ok c =>
      rw [ea] at q
      simp only [liftR_ok] at q
      intro y H' st'
      cases ef : f p c with
      | none => rw [ef] at q; exact q.elim
      | some r =>
        rw [ef] at q
        simp only [ofOpt_some, liftR_ok] at q
        obtain ⟨m, n, rfl, rfl, rfl⟩ := hf _ _ _ ef
        have hv : v = .int m := by rw [Rep] at rv; exact rv
        obtain ⟨O', st1⟩ := st'.ext
        have ry := st1.has (t := (y, .int n)) List.mem_cons_self
        have hy : y = .int n := by simp only [Rep] at ry; exact ry
        subst hv hy
        refine ⟨m, n, rfl, rfl, q _ H' (StRep.put (StO.rep (O := O') (StO.tmp st1 fun t ht => ?_)))⟩
        rcases List.mem_cons.mp ht with rfl | ht
        · exact .inr (rInt _ _ _ _)
        · exact .inl (List.mem_cons_of_mem _ ht)
  · exact q.elim
theorem saug_add (S : Sits G X k W) (i : Nat) {x : Str} {pos' : Pos} (he : XJ G X W Rep e pa) (hi : ∀ j, (X j).N[i]? = some x := by intro _; rfl) (hx : ∀ j, Loc (X j).env.scope x := by intro _; first | exact Or.inl rfl | exact Or.inr rfl)
    (hfn : ∀ j, (X j).fn x = true ∨ (X j).env.scope.names.lookup x = some .local := by intro _; first | exact Or.inl rfl | exact Or.inr rfl) : S1 G X W (.AugAssign (.Name x pos') .Add e pos) (sAug i oAddZ pa) :=
  saug_of S i (fun _ => ip_add) (fun p q c h => by unfold oAddZ at h; split at h <;> cases h; exact ⟨_, _, rfl, rfl, rfl⟩) he hi hx hfn
theorem saug_sub (S : Sits G X k W) (i : Nat) {x : Str} {pos' : Pos} (he : XJ G X W Rep e pa) (hi : ∀ j, (X j).N[i]? = some x := by intro _; rfl) (hx : ∀ j, Loc (X j).env.scope x := by intro _; first | exact Or.inl rfl | exact Or.inr rfl)
    (hfn : ∀ j, (X j).fn x = true ∨ (X j).env.scope.names.lookup x = some .local := by intro _; first | exact Or.inl rfl | exact Or.inr rfl) : S1 G X W (.AugAssign (.Name x pos') .Sub e pos) (sAug i oSubZ pa) :=
  saug_of S i (fun _ => ip_sub) (fun p q c h => by unfold oSubZ at h; split at h <;> cases h; exact ⟨_, _, rfl, rfl, rfl⟩) he hi hx hfn
end Pv
end
section
set_option autoImplicit false
set_option Elab.async false
set_option linter.all false
namespace Pv
open PySem PySem.Spec PyProof.Rows L2
variable {G : Gm} {ι : Type} {X : ι → Cx} {k : Nat} {W : WX} {e : Expr} {es : List Expr} {pos : Pos} {l : LX}
variable [TN]
/-- a built-in function that was imported by name -/
theorem xbf {r : List V → Hp → VK → Prop} {f : List PV → Option PV} {id : String} {x : Str} {p : Pos} (hr : FnJ G r f) (hc : ∀ i, CallR (X i) (.builtin id) r) (S : Sits G X k W) (hm : G.mg x = some (.builtin id)) (ha : AJ G X W BRep (e :: es) l) (hg : ∀ i, Gl (X i) x := by intro _; rfl)
    (hdb : (x == ("__debug__" : Str)) = false := by decide) (he : ∀ i, starEach (e :: es) (X i).env = (false, eval e (X i).env) :: starEach es (X i).env := by intro _; rfl) (hpl : ∀ i, (backTo pos (starEach es (X i).env)).any (·.1) = false := by intro _; rfl) :
    XJ G X W Rep (.Call (.Name x p) (e :: es) [] pos) (pB f l) := by
  obtain ⟨t, h1, h2⟩ := ha
  exact ⟨_, fun i => pe_callBfun (hc i) (hg i) (by rw [S.mg i]; exact hm) (h1 i) hdb (he i) (hpl i), fun A σ H env Q SS q => callB hr SS (fun Q z => h2 A σ H env Q SS z) q⟩
theorem j_gcd : FnJ G rGcd fGcd := by
  intro A H as c xs hl ra e Q q
  unfold fGcd at e
  split at e
  · cases e
    exact ⟨_, _, two_ints ra, q _ H (Same.refl H) (rInt _ _ _ _)⟩
  · cases e
end Pv
end
section
set_option autoImplicit false
set_option Elab.async false
set_option linter.all false
set_option maxRecDepth 100000
namespace Pv
open PySem PySem.Spec PyProof.Rows L2
/-! ### max(.., default=d) -/
/-- the code of the walk, with what is given for nothing at all -/
abbrev mxC (kw : List (Str × Value)) (I S : Addr) : Code := .builtin "max.loop" ⟨[.ref I, .none, .ref S], kw⟩
section
variable {prog : Program} {w : World} {A : Around} {R : Result → Shared → Prop} {I : Addr} {fp wr : List Addr} {n : Nat} {P : Nat → Value → Prop} {Z : Nat → Heap → Prop} {ns : List Int} {kw : List (Str × Value)} {S : Addr}
theorem mx_nm : (toString "max" ++ toString ".loop" : String) = "max.loop" := by decide
theorem mx_go (W : Walks prog w A.in1 I fp wr ns.length P Z) (hP : ∀ i v, P i v → ∃ t, v = .int (ns.getD i 0) t) (hS : S ∉ fp) : ∀ (rest : List Int) (j : Nat) (s : Shared) (m : Int) (t : Tok) (c : Nat), ns.drop j = rest → j ≤ ns.length → Z j s.heap →
    s.heap.get? S = some { cls := .type "list", dict := none, data := .seq #[.int m t, .int m t] c, slots := #[] } →
    (∀ t' h' tk, (∀ b o, b ∉ wr → b ≠ S → s.heap.get? b = some o → h'.get? b = some o) → R (.ok (.ret (.int (maxI m rest) t'))) { s with heap := h', toks := tk }) → codeAny (model prog w) A (mxC kw I S) R s := by
  have nw : S ∉ wr := fun z => hS (W.sub _ z)
  intro rest
  induction rest with
  | nil =>
    intro j s m t c e hj z hs q
    have hj : j = ns.length := Nat.le_antisymm hj (List.drop_eq_nil_iff.mp e)
    subst hj
    refine codeAny_builtin F.entry_max_loop ?_; rw [Around.under_plainId F.plain_max_loop _]
    show wpAny _ A.in1 (seqItems? (.ref S) >>= fun _ => _) _ _ _
    refine wpAny_bind (wpAny_seqItems hs rfl ?_)
    show wpAny _ A.in1 (tryCatch (pyNext (.ref I)) _ >>= fun _ => _) _ _ _
    refine wpAny_bind (wpAny_tryCatch (W.done s _ _ z fun h1 tk k1 => ?_))
    have hs1 := k1 S _ nw hs
    show wpAny _ A.in1 (updateSeq S (fun _ => #[]) >>= fun _ => _) _ _ _
    exact wpAny_bind (wpAny_updateSeq hs1 rfl (wpAny_bind (wpAny_letGo (wpAny_pure (q t _ tk fun b o n1 n2 e => (Heap.get?_update_other _ _ (Ne.symm n2)).trans (k1 b o n1 e))))))
  | cons y r ih =>
    intro j s m t c e hj z hs q
    have lt : j < ns.length := by
      rcases Nat.lt_or_ge j ns.length with h | h
      · exact h
      · rw [List.drop_eq_nil_iff.mpr h] at e; cases e
    have ey : ns.getD j 0 = y ∧ ns.drop (j + 1) = r := by
      rw [List.drop_eq_getElem_cons lt] at e
      injection e with e1 e2
      exact ⟨by rw [List.getD_eq_getElem?_getD, List.getElem?_eq_getElem lt, e1]; rfl, e2⟩
    refine codeAny_builtin F.entry_max_loop ?_; rw [Around.under_plainId F.plain_max_loop _]
    show wpAny _ A.in1 (seqItems? (.ref S) >>= fun _ => _) _ _ _
    refine wpAny_bind (wpAny_seqItems hs rfl ?_)
    show wpAny _ A.in1 (tryCatch (pyNext (.ref I)) _ >>= fun _ => _) _ _ _
    refine wpAny_bind (wpAny_tryCatch (W.item j s _ _ lt z fun v h1 tk pv z1 k1 => ?_))
    obtain ⟨u, rfl⟩ := hP j v pv
    rw [ey.1]
    have hs1 := k1 S _ nw hs
    have cmp := CmpOf.ints_gt (prog := prog) (w := w) (A := A.in1) (P := fun i v => ∃ t, v = .int (if i = 0 then y else m) t) (fun i => if i = 0 then y else m) (fun i v h => h)
    show wpAny _ A.in1 (tryCatch (holding [.int y u, .int y u] (richCompare .Gt (.int y u) (.int m t) >>= fun _ => _)) _ >>= fun _ => _) _ _ _
    refine wpAny_bind (wpAny_tryCatch (wpAny_holding (wpAny_bind (cmp 0 1 (.int y u) (.int m t) _ _ _ ⟨u, rfl⟩ ⟨t, rfl⟩ ?_))))
    refine wpAny_bind (wpAny_holding (wpAny_truthy_bool ?_)); refine wpAny_bind (wpAny_letGo (wpAny_pure ?_))
    have fr : ∀ {h2 : Heap}, (∀ b ∈ fp, ∀ o, h1.get? b = some o → h2.get? b = some o) → Z (j + 1) h2 := fun k => W.frame _ _ _ z1 k
    by_cases gt : y > m
    · simp only [if_true, if_false, Nat.one_ne_zero, gt, decide_true]
      refine wpAny_bind (wpAny_updateSeq hs1 rfl (wpAny_bind (wpAny_letGo ?_))); rw [mx_nm]
      refine wpAny_pure ⟨plainId_quiet F.plain_max_loop _, ih (j + 1) _ y u _ ey.2 lt (fr fun b hb o e => (Heap.get?_update_other _ _ (fun h : S = b => hS (h ▸ hb))).trans e) (Heap.get?_update_self _ hs1 rfl) fun t' h' tk' k2 => ?_⟩
      have q' := q t' h' tk' fun b o n1 n2 e => k2 b o n1 n2 ((Heap.get?_update_other _ _ (Ne.symm n2)).trans (k1 b o n1 e))
      rw [maxI, if_pos gt] at q'
      exact q'
    · simp only [if_true, if_false, Nat.one_ne_zero, gt, decide_false, Bool.false_eq_true]
      refine wpAny_bind (wpAny_letGo ?_); rw [mx_nm]
      refine wpAny_pure ⟨plainId_quiet F.plain_max_loop _, ih (j + 1) _ m t c ey.2 lt z1 hs1 fun t' h' tk' k2 => ?_⟩
      have q' := q t' h' tk' fun b o n1 n2 e => k2 b o n1 n2 (k1 b o n1 e)
      rw [maxI, if_neg gt] at q'
      exact q'
theorem mx_cons {m : Int} {ms : List Int} (W : Walks prog w A.in1 I fp wr (m :: ms).length P Z) (hP : ∀ i v, P i v → ∃ t, v = .int ((m :: ms).getD i 0) t) (hS : S ∉ fp) {s : Shared} {c : Nat} (z : Z 0 s.heap) (hs : s.heap.get? S = some { cls := .type "list", dict := none, data := .seq #[] c, slots := #[] })
    (q : ∀ t' h' tk, (∀ b o, b ∉ wr → b ≠ S → s.heap.get? b = some o → h'.get? b = some o) → R (.ok (.ret (.int (maxI m ms) t'))) { s with heap := h', toks := tk }) : codeAny (model prog w) A (mxC kw I S) R s := by
  have nw : S ∉ wr := fun z => hS (W.sub _ z)
  refine codeAny_builtin F.entry_max_loop ?_; rw [Around.under_plainId F.plain_max_loop _]
  show wpAny _ A.in1 (seqItems? (.ref S) >>= fun _ => _) _ _ _
  refine wpAny_bind (wpAny_seqItems hs rfl ?_)
  show wpAny _ A.in1 (tryCatch (pyNext (.ref I)) _ >>= fun _ => _) _ _ _
  refine wpAny_bind (wpAny_tryCatch (W.item 0 s _ _ (Nat.succ_pos _) z fun v h1 tk pv z1 k1 => ?_))
  obtain ⟨u, rfl⟩ := hP 0 v pv
  have hs1 := k1 S _ nw hs
  show wpAny _ A.in1 (updateSeq S (fun _ => #[_, _]) >>= fun _ => _) _ _ _
  refine wpAny_bind (wpAny_updateSeq hs1 rfl ?_); rw [mx_nm]
  refine wpAny_pure ⟨plainId_quiet F.plain_max_loop _, mx_go W hP hS ms 1 _ m u _ rfl (Nat.succ_le_succ (Nat.zero_le _)) (W.frame _ _ _ z1 fun b hb o e => (Heap.get?_update_other _ _ (fun h : S = b => hS (h ▸ hb))).trans e) (Heap.get?_update_self _ hs1 rfl) fun t' h' tk' k2 => ?_⟩
  exact q t' h' tk' fun b o n1 n2 e => k2 b o n1 n2 ((Heap.get?_update_other _ _ (Ne.symm n2)).trans (k1 b o n1 e))
theorem mx_nil {d : Int} {td : Tok} (W : Walks prog w A.in1 I fp wr 0 P Z) (hS : S ∉ fp) {s : Shared} {c : Nat} (z : Z 0 s.heap) (hs : s.heap.get? S = some { cls := .type "list", dict := none, data := .seq #[] c, slots := #[] })
    (q : ∀ t' h' tk, (∀ b o, b ∉ wr → b ≠ S → s.heap.get? b = some o → h'.get? b = some o) → R (.ok (.ret (.int d t'))) { s with heap := h', toks := tk }) : codeAny (model prog w) A (mxC [("default", .int d td)] I S) R s := by
  refine codeAny_builtin F.entry_max_loop ?_; rw [Around.under_plainId F.plain_max_loop _]
  show wpAny _ A.in1 (seqItems? (.ref S) >>= fun _ => _) _ _ _
  refine wpAny_bind (wpAny_seqItems hs rfl ?_)
  show wpAny _ A.in1 (tryCatch (pyNext (.ref I)) _ >>= fun _ => _) _ _ _
  refine wpAny_bind (wpAny_tryCatch (W.done s _ _ z fun h1 tk k1 => ?_))
  refine wpAny_bind (wpAny_rule ?_)
  exact wpAny_pure (q td h1 tk fun b o n1 n2 e => k1 b o n1 e)
theorem mx_first {d : Int} {td : Tok} (W : Walks prog w A.in1 I fp wr ns.length P Z) (hP : ∀ i v, P i v → ∃ t, v = .int (ns.getD i 0) t) (hS : S ∉ fp) {s : Shared} {c : Nat} (z : Z 0 s.heap) (hs : s.heap.get? S = some { cls := .type "list", dict := none, data := .seq #[] c, slots := #[] })
    (q : ∀ t' h' tk, (∀ b o, b ∉ wr → b ≠ S → s.heap.get? b = some o → h'.get? b = some o) → R (.ok (.ret (.int (maxDI d ns) t'))) { s with heap := h', toks := tk }) : codeAny (model prog w) A (mxC [("default", .int d td)] I S) R s := by
  cases ns with
  | nil => exact mx_nil W hS z hs q
  | cons n r => exact mx_cons W hP hS z hs q
end
section
variable {prog : Program} {w : World} {A : Around} {E : Value → Shared → Prop} {s : Shared}
theorem args_maxD (a d : Value) : argsOk "max" ⟨[a], [("default", d)]⟩ := by unfold argsOk; kernel_rfl
/-- a built-in function with keywords, by its code -/
theorem call_kwT {id : String} {b : Builtin} {us : List Value} {kw : List (Str × Value)} {Q : Value → Shared → Prop} (hk : builtinKind id = none) (hp : plainId id = true) (hb : entryFor table id = some b) (ha : argsOk id ⟨us, kw⟩)
    (hc : wpAny (model prog w) A.in1 (b ⟨us, kw⟩) (fun fin u => match fin with
      | .done f => (match (Except.ok f : Result) with | .ok (.ret v) => Q v u | .ok _ => False | .error e => E e u)
      | .again c => c.quiet = true ∧ codeAny (model prog w) A c (fun r u => match r with | .ok (.ret v) => Q v u | .ok _ => False | .error e => E e u) u) E s) : wpAny (model prog w) A (call (.builtin id) us kw) Q E s := by
  refine wpAny_call (codeAny_call_builtin hp hb ?_)
  simp only [checkBuiltinCall, hk]
  cases sg : Manifest.signature? id with
  | none => exact wpAny_pure hc
  | some sig =>
    have e : Bind.checkArgs id sig ⟨us, kw⟩ = pure () := by simpa only [argsOk, sg] using ha
    show wpAny _ A.in1 (Bind.checkArgs id sig ⟨us, kw⟩) _ _ _
    rw [e]; exact wpAny_pure hc
theorem call_maxD {x : Value} {d : Int} {td : Tok} {ns : List Int} {Q : Value → Shared → Prop}
    (h : wpAny (model prog w) A.in1 (pyIter x) (fun it s2 => ∃ I fp wr P Z, it = .ref I ∧ Walks prog w A.in1 I fp wr ns.length P Z ∧ (∀ i v, P i v → ∃ t, v = .int (ns.getD i 0) t) ∧ Z 0 s2.heap ∧ (∀ b ∈ fp, b < s2.heap.objs.size) ∧
      ∀ t h' tk, (∀ b o, b ∉ wr → s2.heap.get? b = some o → h'.get? b = some o) → Q (.int (maxDI d ns) t) { s2 with heap := h', toks := tk }) E s) :
    wpAny (model prog w) A (call (.builtin "max") [x] [("default", .int d td)]) Q E s := by
  refine call_kwT F.kind_max F.plain_max F.entry_max (args_maxD _ _) ?_
  show wpAny _ A.in1 (Builtin.Builtins.bindParams "max" ["key", "default"] 0 ⟨[], [("default", .int d td)]⟩ >>= fun _ => _) _ _ _
  refine wpAny_bind (wpAny_of_eq (show Builtin.Builtins.bindParams "max" ["key", "default"] 0 ⟨[], [("default", .int d td)]⟩ = pure [none, some (.int d td)] from rfl) ?_)
  refine wpAny_bind (wpAny_pure (wpAny_bind (wpAny_mono h (fun it s2 h2 => ?_) fun _ _ e => e)))
  obtain ⟨I, fp, wr, P, Z, rfl, W, hP, z, hf, q⟩ := h2
  refine wpAny_bind (wpAny_newObj_type ?_); rw [mx_nm]
  have hS : s2.heap.objs.size ∉ fp := fun m => absurd (hf _ m) (Nat.lt_irrefl _)
  refine wpAny_pure ⟨plainId_quiet F.plain_max_loop _, mx_first (td := td) W hP hS (W.frame _ _ _ z fun b _ o e => Heap.get?_push_of_some _ e) (Heap.get?_push_size _ rfl) fun t h' tk k => ?_⟩
  exact q t h' tk fun b o n e => k b o n (Nat.ne_of_lt (Heap.lt_size e)) (Heap.get?_push_of_some _ e)
theorem call_maxN {x : Value} {m : Int} {ms : List Int} {Q : Value → Shared → Prop}
    (h : wpAny (model prog w) A.in1 (pyIter x) (fun it s2 => ∃ I fp wr P Z, it = .ref I ∧ Walks prog w A.in1 I fp wr (m :: ms).length P Z ∧ (∀ i v, P i v → ∃ t, v = .int ((m :: ms).getD i 0) t) ∧ Z 0 s2.heap ∧ (∀ b ∈ fp, b < s2.heap.objs.size) ∧
      ∀ t h' tk, (∀ b o, b ∉ wr → s2.heap.get? b = some o → h'.get? b = some o) → Q (.int (maxI m ms) t) { s2 with heap := h', toks := tk }) E s) :
    wpAny (model prog w) A (call (.builtin "max") [x]) Q E s := by
  refine call_kwT F.kind_max F.plain_max F.entry_max (F.args_max1 _) ?_
  show wpAny _ A.in1 (Builtin.Builtins.bindParams "max" ["key", "default"] 0 ⟨[], []⟩ >>= fun _ => _) _ _ _
  refine wpAny_bind (wpAny_of_eq (show Builtin.Builtins.bindParams "max" ["key", "default"] 0 ⟨[], []⟩ = pure [none, none] from rfl) ?_)
  refine wpAny_bind (wpAny_pure (wpAny_bind (wpAny_mono h (fun it s2 h2 => ?_) fun _ _ e => e)))
  obtain ⟨I, fp, wr, P, Z, rfl, W, hP, z, hf, q⟩ := h2
  refine wpAny_bind (wpAny_newObj_type ?_); rw [mx_nm]
  have hS : s2.heap.objs.size ∉ fp := fun m => absurd (hf _ m) (Nat.lt_irrefl _)
  refine wpAny_pure ⟨plainId_quiet F.plain_max_loop _, mx_cons (kw := []) W hP hS (W.frame _ _ _ z fun b _ o e => Heap.get?_push_of_some _ e) (Heap.get?_push_size _ rfl) fun t h' tk k => ?_⟩
  exact q t h' tk fun b o n e => k b o n (Nat.ne_of_lt (Heap.lt_size e)) (Heap.get?_push_of_some _ e)
theorem call_maxNT {T : Addr} {items : Array Value} {m : Int} {ms : List Int} {Q : Value → Shared → Prop} (hh : A.handled = none) (hT : s.heap.IsTuple T items) (hi : items.size = (m :: ms).length) (hv : ∀ (i : Nat) v, items[i]? = some v → ∃ t, v = .int ((m :: ms).getD i 0) t)
    (q : ∀ t h' tk, (∀ b o, s.heap.get? b = some o → h'.get? b = some o) → Q (.int (maxI m ms) t) { s with heap := h', toks := tk }) : wpAny (model prog w) A (call (.builtin "max") [.ref T]) Q E s := by
  have lt : T < s.heap.objs.size := by obtain ⟨_, e, _⟩ := hT; exact Heap.lt_size e
  have sz : ∀ o : Obj, (s.heap.push o).objs.size = s.heap.objs.size + 1 := fun o => Heap.size_push ..
  have W := Walks.tuple (prog := prog) (w := w) (A := A.in1) hh s.heap.objs.size T (Nat.ne_of_lt lt) items
  rw [hi] at W
  refine call_maxN (wpAny_pyIter_tuple hT ⟨_, _, _, _, _, rfl, W, hv, ⟨⟨_, Heap.get?_push_size _ rfl, rfl, rfl⟩, hT.push _⟩, fun b hb => ?_, fun t h' tk k => q t h' tk fun b o e => k b o (fun m => ?_) (Heap.get?_push_of_some _ e)⟩)
  · show b < (s.heap.push _).objs.size
    rw [sz]
    simp only [List.mem_cons, List.not_mem_nil, or_false] at hb
    rcases hb with rfl | rfl
    · exact Nat.lt_succ_self _
    · exact Nat.lt_succ_of_lt lt
  · simp only [List.mem_cons, List.not_mem_nil, or_false] at m
    exact Nat.lt_irrefl _ (by have lz := Heap.lt_size e; rw [m] at lz; exact lz)
theorem call_maxDT {T : Addr} {items : Array Value} {d : Int} {td : Tok} {ns : List Int} {Q : Value → Shared → Prop} (hh : A.handled = none) (hT : s.heap.IsTuple T items) (hi : items.size = ns.length) (hv : ∀ (i : Nat) v, items[i]? = some v → ∃ t, v = .int (ns.getD i 0) t)
    (q : ∀ t h' tk, (∀ b o, s.heap.get? b = some o → h'.get? b = some o) → Q (.int (maxDI d ns) t) { s with heap := h', toks := tk }) : wpAny (model prog w) A (call (.builtin "max") [.ref T] [("default", .int d td)]) Q E s := by
  have lt : T < s.heap.objs.size := by obtain ⟨_, e, _⟩ := hT; exact Heap.lt_size e
  have sz : ∀ o : Obj, (s.heap.push o).objs.size = s.heap.objs.size + 1 := fun o => Heap.size_push ..
  have W := Walks.tuple (prog := prog) (w := w) (A := A.in1) hh s.heap.objs.size T (Nat.ne_of_lt lt) items
  rw [hi] at W
  refine call_maxD (ns := ns) (wpAny_pyIter_tuple hT ⟨_, _, _, _, _, rfl, W, hv, ⟨⟨_, Heap.get?_push_size _ rfl, rfl, rfl⟩, hT.push _⟩, fun b hb => ?_, fun t h' tk k => q t h' tk fun b o e => k b o (fun m => ?_) (Heap.get?_push_of_some _ e)⟩)
  · show b < (s.heap.push _).objs.size
    rw [sz]
    simp only [List.mem_cons, List.not_mem_nil, or_false] at hb
    rcases hb with rfl | rfl
    · exact Nat.lt_succ_self _
    · exact Nat.lt_succ_of_lt lt
  · simp only [List.mem_cons, List.not_mem_nil, or_false] at m
    exact Nat.lt_irrefl _ (by have lz := Heap.lt_size e; rw [m] at lz; exact lz)
end

variable [TN]
section
variable {G : Gm} {ι : Type} {X : ι → Cx} {k : Nat} {W : WX} {e f a b : Expr} {pos : Pos} {pa pb : PX}
def rMaxDT (K : PySem.W.Frag) : R2 := fun x y H Q => ∃ l ns d, x = .ref l ∧ y = .int d ∧ SqT K H l (ns.map V.int) ∧ Q (.int (maxDI d ns)) H
def kw1 (r : R2) : List V → List V → Hp → VK → Prop := fun vs zs H Q => match vs, zs with
  | [x], [y] => r x y H Q
  | _, _ => False
theorem j_maxD : OpJ G (rMaxDT G.K) fMaxD := by
  intro A H a b c x y hl ra rb e Q q
  unfold fMaxD at e
  split at e
  · rename_i ps d
    cases ei : intsOf ps with
    | none => rw [ei] at e; cases e
    | some ns =>
      rw [ei] at e
      cases e
      obtain ⟨l, xs, rfl, h1, h2⟩ := ra.tuple
      rw [ints_rep ei h2] at h1
      exact ⟨l, ns, d, rfl, rb.int, h1, q _ H (Same.refl H) (rInt _ _ _ _)⟩
  · cases e
theorem ints_getD : ∀ {us : List Value} {ns : List Int}, IntsAre us ns → us.length = ns.length ∧ ∀ (i : Nat) v, us[i]? = some v → ∃ t, v = .int (ns.getD i 0) t
  | us, ns, h => by
    induction h with
    | nil => exact ⟨rfl, fun i v e => by simp at e⟩
    | @cons n t vs ns h ih =>
      refine ⟨by simp [ih.1], fun i v e => ?_⟩
      cases i with
      | zero => simp at e; subst e; exact ⟨_, rfl⟩
      | succ i => simpa using ih.2 i v (by simpa using e)
theorem cr_maxD {X : Cx} (hc : X.calm = true) : CallRK X (.builtin "max") ["default"] (kw1 (rMaxDT X.K)) := by
  intro pins s σ H vs zs us ws Q I r rz h
  unfold kw1 at h
  split at h
  · obtain ⟨l, ns, d, rfl, rfl, hs, q⟩ := h
    obtain rfl := Vals.ref1 r
    obtain ⟨w1, rfl, t, rfl⟩ := vals1 rz
    obtain ⟨its, rv, hT, _⟩ := I.tuple hs
    obtain ⟨e1, e2⟩ := ints_getD rv.ints
    exact call_maxDT (ns := ns) (I.ok.hd hc) hT (by rw [List.size_toArray]; exact e1) (fun i v e => e2 i v (by simpa using e)) fun t h' tk hk => ⟨.int _, H, I.kept hk, ⟨_, rfl⟩, q⟩
  · exact h.elim
theorem x_maxD {x : Str} {p kp : Pos} (S : Sits G X k W) (hm : G.mg x = none) (hv : bootBuiltins x = some (.builtin "max")) (ha : XJ G X W BRep e pa) (hb : XJ G X W BRep f pb) (hg : ∀ i, Gl (X i) x := by intro _; rfl) (hn : x ≠ "__name__" := by decide) (hdb : (x == ("__debug__" : Str)) = false := by decide)
    (he : ∀ i, backTo pos (starEach [e] (X i).env) = (false, eval e (X i).env) :: backTo pos (starEach [] (X i).env) := by intro _; rfl) (hst : ∀ i, starEach [e] (X i).env = (false, eval e (X i).env) :: starEach [] (X i).env := by intro _; rfl) (hpl : ∀ i, (backTo pos (starEach [e] (X i).env)).any (·.1) = false := by intro _; rfl) :
    XJ G X W Rep (.Call (.Name x p) [e] [⟨some "default", f, kp⟩] pos) (p2 fMaxD pa pb) := by
  obtain ⟨ta, h1, h2⟩ := ha
  obtain ⟨tb, h3, h4⟩ := hb
  refine ⟨tCKw (kw1 (rMaxDT G.K)) (tCons ta tNil) (tCons tb tNil), fun i => ?_, fun A σ H env Q S q => ?_⟩
  · have c := cr_maxD (S.calm i)
    rw [S.K i] at c
    exact pe_callBK c (hg i) (by rw [S.mg i]; exact hm) hv (pa_cons (h1 i) pa_nil (hst i)) (pk_cons (h3 i) pk_nil) hn hdb (he i) (hpl i)
  · exact two (fun Q z => h2 A σ H env Q S z) (fun H1 s Q z => h4 A σ H1 env Q (S.same s) z) S.live j_maxD q
def rMaxA (K : PySem.W.Frag) : List V → Hp → VK → Prop := fun xs H Q => (∃ l n r, xs = [.ref l] ∧ SqT K H l ((n :: r).map V.int) ∧ Q (.int (maxI n r)) H) ∨ ((∃ i j, xs = [V.int i, V.int j] ∧ Q (V.int (if j > i then j else i)) H) ∨ rMax K xs H Q)
theorem cr_maxA {X : Cx} (hc : X.calm = true) : CallR X (.builtin "max") (rMaxA X.K) := by
  refine CallR.or (fun pins s σ H vs us Q I r h => ?_) (cr_max2 hc)
  obtain ⟨l, n, ms, rfl, hs, q⟩ := h
  obtain rfl := Vals.ref1 r
  obtain ⟨its, rv, hT, _⟩ := I.tuple hs
  obtain ⟨e1, e2⟩ := ints_getD rv.ints
  exact call_maxNT (m := n) (ms := ms) (I.ok.hd hc) hT (by rw [List.size_toArray]; exact e1) (fun i v e => e2 i v (by simpa using e)) fun t h' tk hk => ⟨.int _, H, I.kept hk, ⟨_, rfl⟩, q⟩
theorem j_maxA : FnJ G (rMaxA G.K) fMaxA := by
  intro A H as c xs hl ra e Q q
  unfold fMaxA at e
  split at e
  · rename_i ps
    cases eb : intsOf ps with
    | none => rw [eb] at e; cases e
    | some ns =>
      rw [eb] at e
      simp only [Option.bind_some] at e
      split at e
      · cases e
      · rename_i n r
        cases e
        obtain ⟨x, rfl, r0⟩ := allR1 ra
        obtain ⟨l, ys, rfl, h1, h2⟩ := r0.tuple
        rw [ints_rep eb h2] at h1
        exact .inl ⟨l, n, r, rfl, h1, q _ H (Same.refl H) (rInt _ _ _ _)⟩
  · exact .inr (j_max A H _ c xs hl ra e Q q)
/-! ### [..] * k -/
theorem f_repL {j : Nat} {p1' : Pos} {i : Int} (S : Sits G X k W) (ha : FJ G X W a pa) : FJ G X W (.BinOp a .Mult (.Constant (.int i) j p1') pos) (p1 (oRepL i) pa) := by
  obtain ⟨ta, h1, h2⟩ := ha
  refine ⟨_, fun i => pe_op op_rep (h1 i) pe_int, fun A σ H env Q SS q => h2 A σ H env _ SS ?_⟩
  unfold p1 at q
  cases ea : pa env with
  | bad => rw [ea] at q; exact q.elim
  | exc x => rw [ea] at q; exact q
  | ok u =>
    rw [ea] at q
    simp only [Rp.ok_bind] at q
    intro x H1 s1 r1
    obtain ⟨l, rfl, hn, ho⟩ := r1
    unfold oRepL at q
    split at q
    · rename_i ps
      by_cases hz : 0 ≤ i ∧ i < 1000 ∧ ps.length ≤ 1000
      · rw [if_pos hz] at q
        obtain ⟨xs, w1, w2, w3⟩ := ho
        have fl : ∀ n : Nat, Reps G.F (fun b => A b ∨ b = l) H1 (List.replicate n ps).flatten (List.replicate n xs).flatten := fun n => by
          induction n with
          | zero => exact .nil
          | succ n ih => rw [List.replicate_succ, List.replicate_succ, List.flatten_cons, List.flatten_cons]; exact w2.append ih
        have len : (List.replicate i.toNat ps).flatten.length ≤ line := by
          rw [List.length_flatten, List.map_replicate, List.sum_replicate_nat]
          exact Nat.le_trans (Nat.mul_le_mul (show i.toNat ≤ 1000 by omega) hz.2.2) (by decide)
        refine ⟨l, i, xs, rfl, rfl, w1, by omega, by omega, ?_, fun p hp => ?_⟩
        · rw [w2.length]
          exact Nat.le_trans (Nat.mul_le_mul hz.2.2 (show i.toNat ≤ 1000 by omega)) (by rw [← line_eq]; decide)
        · refine q _ _ (s1.trans (same_new hp _)) ?_
          exact fr_new (same_live s1 SS.live) s1 hp (Reps.ext (.less fun a z => .inl z) (fl i.toNat)) len
      · rw [if_neg hz] at q; exact q.elim
    · exact q.elim
/-! ### in, of any data -/
mutual
theorem flat_up : ∀ (n : Nat) (p : PV), flatTo n p = true → flatTo (n + 1) p = true
  | 0, _, h => by simp [flatTo] at h
  | n + 1, .none, h => rfl
  | n + 1, .bool b, h => rfl
  | n + 1, .int i, h => rfl
  | n + 1, .str s, h => h
  | n + 1, .list ps, h => by
    have := flats_up n ps (by simpa [flatTo] using h)
    simpa [flatTo] using this
  | n + 1, .tuple ps, h => by
    have := flats_up n ps (by simpa [flatTo] using h)
    simpa [flatTo] using this
  | n + 1, .dict _ _, h => by simp [flatTo] at h
  | n + 1, .fn _ _, h => by simp [flatTo] at h
theorem flats_up : ∀ (n : Nat) (ps : List PV), flatsTo n ps = true → flatsTo (n + 1) ps = true
  | n, [], _ => by simp [flatsTo]
  | n, p :: ps, h => by
    simp only [flatsTo, Bool.and_eq_true] at h ⊢
    exact ⟨flat_up n p h.1, flats_up n ps h.2⟩
end
theorem toDs_any {a : PV} (ha : flatTo 60 a = true) : ∀ {xs : List PV}, flatsTo 59 xs = true → ((toDs xs).any fun z => PyData.eqv z (toD a)) = xs.any fun z => eqv z a
  | [], _ => rfl
  | p :: ps, h => by
    simp only [flatsTo, Bool.and_eq_true] at h
    show (PyData.eqv (toD p) (toD a) || (toDs ps).any _) = (eqv p a || ps.any _)
    rw [toDs_any ha h.2, eqv_toD 60 p a (flat_up 59 p h.1) ha]
theorem seq_dp {K : Fr} {A : Av} {H : Hp} {b : PV} {y : V} {xs : List PV} (es : seqOf b = some xs) (h : flatsTo 59 xs = true) (rb : BRep K A H b y) : ∃ d, (d = .list (toDs xs) ∨ d = .tuple (toDs xs)) ∧ Dp K H y d ∧ SeqAt.shaped d = true := by
  cases b with
  | list ps =>
    cases es
    have hb : flatTo 60 (.list xs) = true := by simpa [flatTo] using h
    exact ⟨toD (.list xs), .inl rfl, flat_dp 60 _ _ hb rb, flat_shaped hb⟩
  | tuple ps =>
    cases es
    have hb : flatTo 60 (.tuple xs) = true := by simpa [flatTo] using h
    exact ⟨toD (.tuple xs), .inr rfl, flat_dp 60 _ _ hb rb, flat_shaped hb⟩
  | _ => cases es
def rInG (K : PySem.W.Frag) (neg : Bool) : R2 := fun x y H Q => ∃ d ds, Dp K H x d ∧ (Dp K H y (.list ds) ∧ SeqAt.shaped (.list ds) = true ∨ Dp K H y (.tuple ds) ∧ SeqAt.shaped (.tuple ds) = true) ∧ SeqAt.shaped d = true ∧ Q (.bl (if neg then !(ds.any fun z => PyData.eqv z d) else ds.any fun z => PyData.eqv z d)) H
theorem op_inG {X : Cx} (hu : X.A.units + 65 < cLine) : OpR X (compareOp .In) (rInG X.K false) := by
  intro pins s σ H x y v u Q I rx ry h
  obtain ⟨d, ds, hd, he, sd, q⟩ := h
  obtain ⟨as, r1⟩ := Dp.reads I d x v hd rx
  rcases he with ⟨he, se⟩ | ⟨he, se⟩
  · obtain ⟨bs, r2⟩ := Dp.reads I (.list ds) y u he ry
    exact SeqAt.in_list_reads r2 r1 (SeqAt.canLay_of_shaped se) (SeqAt.canLay_of_shaped sd) (room_in_shaped sd hu) ⟨.bl _, H, I, rfl, q⟩
  · obtain ⟨bs, r2⟩ := Dp.reads I (.tuple ds) y u he ry
    exact SeqAt.in_tuple_reads r2 r1 (SeqAt.canLay_of_shaped se) (SeqAt.canLay_of_shaped sd) (room_in_shaped sd hu) ⟨.bl _, H, I, rfl, q⟩
theorem op_notInG {X : Cx} (hu : X.A.units + 65 < cLine) : OpR X (compareOp .NotIn) (rInG X.K true) := by
  intro pins s σ H x y v u Q I rx ry h
  obtain ⟨d, ds, hd, he, sd, q⟩ := h
  obtain ⟨as, r1⟩ := Dp.reads I d x v hd rx
  rcases he with ⟨he, se⟩ | ⟨he, se⟩
  · obtain ⟨bs, r2⟩ := Dp.reads I (.list ds) y u he ry
    exact SeqAt.notIn_list_reads r2 r1 (SeqAt.canLay_of_shaped se) (SeqAt.canLay_of_shaped sd) (room_in_shaped sd hu) ⟨.bl _, H, I, rfl, q⟩
  · obtain ⟨bs, r2⟩ := Dp.reads I (.tuple ds) y u he ry
    exact SeqAt.notIn_tuple_reads r2 r1 (SeqAt.canLay_of_shaped se) (SeqAt.canLay_of_shaped sd) (room_in_shaped sd hu) ⟨.bl _, H, I, rfl, q⟩
theorem j_inG : OpJ G (rInG G.K false) oInG := by
  intro A H a b c x y hl ra rb e Q q
  unfold oInG at e
  cases es : seqOf b with
  | none => rw [es] at e; cases e
  | some xs =>
    rw [es] at e
    simp only [Option.bind_some] at e
    split at e
    · rename_i h
      simp only [Bool.and_eq_true] at h
      cases e
      obtain ⟨d, hd, d1, d2⟩ := seq_dp es h.2 rb
      refine ⟨toD a, toDs xs, flat_dp 60 a x h.1 ra, (by rcases hd with z | z <;> subst z; exact .inl ⟨d1, d2⟩; exact .inr ⟨d1, d2⟩), flat_shaped h.1, ?_⟩
      rw [toDs_any h.1 h.2]
      exact q _ H (Same.refl H) (rBool _ _ _ _)
    · cases e
theorem j_notInG : OpJ G (rInG G.K true) oNotInG := by
  intro A H a b c x y hl ra rb e Q q
  unfold oNotInG at e
  cases es : seqOf b with
  | none => rw [es] at e; cases e
  | some xs =>
    rw [es] at e
    simp only [Option.bind_some] at e
    split at e
    · rename_i h
      simp only [Bool.and_eq_true] at h
      cases e
      obtain ⟨d, hd, d1, d2⟩ := seq_dp es h.2 rb
      refine ⟨toD a, toDs xs, flat_dp 60 a x h.1 ra, (by rcases hd with z | z <;> subst z; exact .inl ⟨d1, d2⟩; exact .inr ⟨d1, d2⟩), flat_shaped h.1, ?_⟩
      rw [toDs_any h.1 h.2]
      exact q _ H (Same.refl H) (rBool _ _ _ _)
    · cases e
end
end Pv
end
section
set_option autoImplicit false
set_option Elab.async false
set_option linter.all false
set_option maxRecDepth 100000
namespace Pv
open PySem PySem.Spec PyProof.Rows L2
/-! ### the table of a def's code object, read off what is kept -/
def tabIn (K : PySem.W.Frag) (c : Addr) : Addr := match K.lookup c with
  | some ⟨_, _, .fields vs, _⟩ => match (vs[11]? : Option Value) with
    | some (.ref P) => P
    | _ => 0
  | _ => 0
theorem codeHd_inj {h : Heap} {c P P' : Addr} (a : PySem.W.CodeHd h c P) (b : PySem.W.CodeHd h c P') : P = P' := by
  obtain ⟨o, vs, _, _, _, _, _, _, _, e1, _, e3, e4, _⟩ := a
  obtain ⟨o', vs', _, _, _, _, _, _, _, f1, _, f3, f4, _⟩ := b
  rw [e1] at f1; cases f1
  rw [e3] at f3; cases f3
  rw [e4] at f4; cases f4
  rfl
theorem tab_empty {K : PySem.W.Frag} {h : Heap} {f c : Addr} {o : Obj} {fd : FuncData} (X : K.In h) (lk : K.lookup f = some o) (hd : o.data = .func fd) (hc : fd.code = .ref c) (ch : PySem.W.codeHdIn K c (tabIn K c) = true) (t : TabOf h f) :
    h.get? (tabIn K c) = some { cls := .none, data := .fields #[] } := by
  obtain ⟨c', P', o', fd', z1, z2, z3, z4, z5⟩ := t
  have e := X _ _ lk
  rw [z1] at e
  cases e
  rw [hd] at z2
  cases z2
  rw [hc] at z3
  cases z3
  rw [codeHd_inj (PySem.W.codeHd_of_K X ch) z4]
  exact z5
theorem tabs_one {P : Addr} {q : Str} {H : Hp} (h : H P = some (.tbl #[])) : LamX.Tabs [(P, q)] H := fun p hp => by
  obtain rfl := List.mem_singleton.mp hp
  exact ⟨#[], h, by first | exact True.intro | (simp [TriplesOk]), fun pos cv e => by first | cases e | simp [codeAmong] at e⟩
section
variable [TN]
variable {G : Gm} {ι : Type} {X : ι → Cx} {k n : Nat} {W : WX} {pos : Pos}
theorem plam0 (S : Sits G X k W) {q : Str} (M : Mk G X q) {l : LamD} (hq : l.qual = q) (hcl : ∀ i, closureFor l.scope (X i).env = pure l.cl) (hd : ∀ i, defaultsOf l.params (X i).env = ([], []) := by intro _; rfl) (hdf : l.dfl = false := by rfl) :
    ∀ i, PE (X i) (.Lambda l.params l.body l.scope pos) (tLamV l) := by
  obtain ⟨⟨c, P, h1, h2, h3, h4⟩, h5⟩ := M
  subst hq
  exact fun i => pe_lam0 (by rw [S.base i, S.mg i]; exact h2) (h1 i) h3 h4 (h5 i) (hcl i) (hd i) hdf
theorem plam1 (S : Sits G X k W) {q : Str} (M : Mk G X q) {l : LamD} {p0 : Pos} {j : Nat} (hq : l.qual = q) (hcl : ∀ i, closureFor l.scope (X i).env = pure l.cl) (hd : ∀ i, defaultsOf l.params (X i).env = ([eval (.Constant (.int 0) j p0) (X i).env], []) := by intro _; rfl) (hdf : l.dfl = true := by rfl) :
    ∀ i, PE (X i) (.Lambda l.params l.body l.scope pos) (tLamV l) := by
  obtain ⟨⟨c, P, h1, h2, h3, h4⟩, h5⟩ := M
  subst hq
  exact fun i => pe_lam1 (by rw [S.base i, S.mg i]; exact h2) (h1 i) h3 h4 (h5 i) (hcl i) (hd i) hdf
end
theorem Hdl.withL {G : Gm} {sg : Scope} {hs : List ExceptHandler} {l : List (Addr × Str)} (h : Hdl G sg hs l) (L : Nat → LamD) : Hdl (G.withL L) sg hs l := by
  induction h with
  | nil => exact .nil
  | cons hm hg hd _ ih => exact .cons hm hg hd ih
theorem CatchOk.withL {G : Gm} {es : List String} (L : Nat → LamD) : ∀ {l : List (Addr × Str)} {m : List (List String × Str)}, CatchOk G es l m → CatchOk (G.withL L) es l m
  | [], [], _ => True.intro
  | [], _ :: _, h => h.elim
  | _ :: _, [], h => h.elim
  | (_, _) :: _, (_, _) :: _, h => ⟨h.1, h.2.1, CatchOk.withL L h.2.2⟩
/-- what each clause catches, by one look -/
theorem catch_by {K : PySem.W.Frag} {cls : String → Value} {es : List String} : ∀ {l : List (Addr × Str)} {m : List (List String × Str)}, ((l.length == m.length) && (l.zip m).all fun z => (z.1.2 == z.2.2) && es.all fun c => PySem.W.exmOne K (cls c) (.ref z.1.1) == some (decide (c ∈ z.2.1))) = true →
    ∀ G : Gm, G.K = K → G.cls = cls → CatchOk G es l m
  | [], [], _, _, _, _ => True.intro
  | [], _ :: _, h, _, _, _ => by simp at h
  | _ :: _, [], h, _, _, _ => by simp at h
  | (C, r) :: l, (ns, r') :: m, h, G, e1, e2 => by
    simp only [List.length_cons, List.zip_cons_cons, List.all_cons, Bool.and_eq_true, beq_iff_eq, Nat.add_right_cancel_iff, List.all_eq_true] at h
    obtain ⟨h1, ⟨h2, h3⟩, h4⟩ := h
    refine ⟨h2, fun c hc => by rw [e1, e2]; exact h3 c hc, catch_by (l := l) (m := m) ?_ G e1 e2⟩
    simp only [Bool.and_eq_true, beq_iff_eq, List.all_eq_true]
    exact ⟨h1, fun z hz => h4 z hz⟩
theorem units1 {k : Nat} {A : Around} (r : Room k A) : A.units + 65 < cLine := by have := r.un; omega
/-! ### in a tuple that the text tells -/
def valV : PV → V
  | .bool b => .bl b
  | .int i => .int i
  | .str s => .str s
  | _ => .non
def valIs : Value → PV → Bool
  | .none, .none => true
  | .bool b, .bool c => b == c
  | .int i _, .int j => i == j
  | .str s _, .str t => s == t
  | _, _ => false
def valsAre : List Value → List PV → Bool
  | [], [] => true
  | u :: us, p :: ps => valIs u p && valsAre us ps
  | _, _ => false
def tupIs (K : PySem.W.Frag) (a : Addr) (xs : List PV) : Bool := match K.lookup a with
  | some ⟨.type "tuple", _, .seq its _, _⟩ => decide (its.size ≤ 1000) && valsAre its.toList xs
  | _ => false
theorem valIs_rel {u : Value} {p : PV} (h : valIs u p = true) : RelV (valV p) u ∧ ∀ K H, Dp K H (valV p) (toD p) := by
  unfold valIs at h
  split at h
  · exact ⟨rfl, fun _ _ => .non⟩
  · obtain rfl := beq_iff_eq.mp h; exact ⟨rfl, fun _ _ => .bl _⟩
  · obtain rfl := beq_iff_eq.mp h; exact ⟨⟨_, rfl⟩, fun _ _ => .int _⟩
  · obtain rfl := beq_iff_eq.mp h; exact ⟨⟨_, rfl⟩, fun _ _ => .str _⟩
  · cases h
theorem vals_rel : ∀ {us : List Value} {xs : List PV}, valsAre us xs = true → Vals (xs.map valV) us ∧ ∀ K H, DpAll K H (xs.map valV) (toDs xs)
  | [], [], _ => ⟨.nil, fun _ _ => .nil⟩
  | [], _ :: _, h => by cases h
  | _ :: _, [], h => by cases h
  | u :: us, p :: ps, h => by
    unfold valsAre at h
    simp only [Bool.and_eq_true] at h
    obtain ⟨a1, a2⟩ := valIs_rel h.1
    obtain ⟨b1, b2⟩ := vals_rel h.2
    exact ⟨.cons a1 b1, fun K H => .cons (a2 K H) (b2 K H)⟩
/-- the name x of the module tells this tuple -/
structure TupAt (G : Gm) (x : Str) (xs : List PV) : Prop where
  ex : ∃ a, G.mg x = some (.ref a) ∧ tupIs G.K a xs = true
theorem TupAt.dp {G : Gm} {x : Str} {xs : List PV} (t : TupAt G x xs) : ∃ a, G.mg x = some (.ref a) ∧ ∀ H, SqT G.K H a (xs.map valV) ∧ Dp G.K H (.ref a) (.tuple (toDs xs)) := by
  obtain ⟨a, h1, h2⟩ := t
  refine ⟨a, h1, fun H => ?_⟩
  unfold tupIs at h2
  split at h2
  · rename_i d its n sl lk
    simp only [Bool.and_eq_true, decide_eq_true_eq] at h2
    obtain ⟨b1, b2⟩ := vals_rel h2.2
    have sq : SqT G.K H a (xs.map valV) := .inr ⟨_, its, n, lk, rfl, rfl, Nat.le_trans h2.1 (by rw [sizeLine_eq]; decide), b1⟩
    exact ⟨sq, .tup sq (b2 _ _)⟩
  · cases h2
section
variable [TN]
variable {G : Gm} {ι : Type} {X : ι → Cx} {k : Nat} {W : WX} {a : Expr} {pa : PX} {pos p : Pos} {x : Str} {xs : List PV}
theorem inC_one {neg : Bool} {A : Av} {H : Hp} {a c : PV} {v : V} {b : Addr} (hb : ∀ H, Dp G.K H (.ref b) (.tuple (toDs xs))) (ra : BRep G.F A H a v) (e : (if flatTo 60 a && flatsTo 59 xs then some (PV.bool (if neg then !xs.any fun z => eqv z a else xs.any fun z => eqv z a)) else none) = some c) (Q : VK) (q : ∀ z H', Same H H' → Rep G.F A H' c z → Q z H') : rInG G.K neg v (.ref b) H Q := by
  split at e
  · rename_i h
    simp only [Bool.and_eq_true] at h
    cases e
    have hx : flatTo 60 (.tuple xs) = true := by simpa [flatTo] using h.2
    refine ⟨toD a, toDs xs, flat_dp 60 a v h.1 ra, .inr ⟨hb H, flat_shaped hx⟩, flat_shaped h.1, ?_⟩
    rw [toDs_any h.1 h.2]
    exact q _ H (Same.refl H) (rBool _ _ _ _)
  · cases e
theorem x_inC (S : Sits G X k W) (t : TupAt G x xs) (ha : XJ G X W BRep a pa) (hg : ∀ i, Gl (X i) x := by intro _; rfl) (hd : (x == ("__debug__" : Str)) = false := by decide) : XJ G X W Rep (.Compare a [.In] [.Name x p] pos) (p1 (oInC xs) pa) := by
  obtain ⟨b, h1, h2⟩ := t.dp
  obtain ⟨ta, h3, h4⟩ := ha
  refine ⟨_, fun i => pe_cmpR (by have := op_inG (X := X i) (units1 (S.room i)); rw [S.K i] at this; exact this) (h3 i) (pe_glob (v := .ref b) (hg i) (by rw [S.mg i]; exact h1) rfl hd) rfl, fun A σ H env Q SS q => ?_⟩
  exact one (r := fun x H Q => rInG G.K false x (.ref b) H Q) (fun Q z => h4 A σ H env Q SS z) SS.live (fun A H a c v hl ra e Q q => inC_one (neg := false) (fun H => (h2 H).2) ra e Q q) q
theorem x_notInC (S : Sits G X k W) (t : TupAt G x xs) (ha : XJ G X W BRep a pa) (hg : ∀ i, Gl (X i) x := by intro _; rfl) (hd : (x == ("__debug__" : Str)) = false := by decide) : XJ G X W Rep (.Compare a [.NotIn] [.Name x p] pos) (p1 (oNotInC xs) pa) := by
  obtain ⟨b, h1, h2⟩ := t.dp
  obtain ⟨ta, h3, h4⟩ := ha
  refine ⟨_, fun i => pe_cmpR (by have := op_notInG (X := X i) (units1 (S.room i)); rw [S.K i] at this; exact this) (h3 i) (pe_glob (v := .ref b) (hg i) (by rw [S.mg i]; exact h1) rfl hd) rfl, fun A σ H env Q SS q => ?_⟩
  exact one (r := fun x H Q => rInG G.K true x (.ref b) H Q) (fun Q z => h4 A σ H env Q SS z) SS.live (fun A H a c v hl ra e Q q => inC_one (neg := true) (fun H => (h2 H).2) ra e Q q) q
theorem t_inC (S : Sits G X k W) (t : TupAt G x xs) (ha : XJ G X W BRep a pa) (hg : ∀ i, Gl (X i) x := by intro _; rfl) (hd : (x == ("__debug__" : Str)) = false := by decide) : TJ G X W (.Compare a [.In] [.Name x p] pos) (tBool (p1 (oInC xs) pa)) := by
  obtain ⟨b, h1, h2⟩ := t.dp
  obtain ⟨ta, h3, h4⟩ := ha
  refine ⟨_, fun i => pt_cmpR (by have := op_inG (X := X i) (units1 (S.room i)); rw [S.K i] at this; exact this) (h3 i) (pe_glob (v := .ref b) (hg i) (by rw [S.mg i]; exact h1) rfl hd) rfl, fun A σ H env Q SS q => test_of (fun Q z => ?_) q⟩
  exact one (r := fun x H Q => rInG G.K false x (.ref b) H Q) (fun Q z => h4 A σ H env Q SS z) SS.live (fun A H a c v hl ra e Q q => inC_one (neg := false) (fun H => (h2 H).2) ra e Q q) z
theorem t_notInC (S : Sits G X k W) (t : TupAt G x xs) (ha : XJ G X W BRep a pa) (hg : ∀ i, Gl (X i) x := by intro _; rfl) (hd : (x == ("__debug__" : Str)) = false := by decide) : TJ G X W (.Compare a [.NotIn] [.Name x p] pos) (tBool (p1 (oNotInC xs) pa)) := by
  obtain ⟨b, h1, h2⟩ := t.dp
  obtain ⟨ta, h3, h4⟩ := ha
  refine ⟨_, fun i => pt_cmpR (by have := op_notInG (X := X i) (units1 (S.room i)); rw [S.K i] at this; exact this) (h3 i) (pe_glob (v := .ref b) (hg i) (by rw [S.mg i]; exact h1) rfl hd) rfl, fun A σ H env Q SS q => test_of (fun Q z => ?_) q⟩
  exact one (r := fun x H Q => rInG G.K true x (.ref b) H Q) (fun Q z => h4 A σ H env Q SS z) SS.live (fun A H a c v hl ra e Q q => inC_one (neg := true) (fun H => (h2 H).2) ra e Q q) z
end
end Pv
end
section
set_option autoImplicit false
set_option linter.all false
namespace Pv
open PySem (Str)
def tup_PRIMES : List PV := [.int 5, .int 7, .int 11, .int 13]
def m_u_law_taken (n : Nat) : SM :=
  sSeq (sIf (tBool (p2 oGt (p2 oIx (pBor 0) (pC (.int 3))) (pC (.int 0)))) (sSeq (sAsg (p2 oMod (pB fInt (pCons (p2 oIx (pBor 0) (pC (.int 3))) (pNil))) (pBor 1)) (gSet 2)) (sSeq (sPut 0 (pC (.int 3)) (p2 oDiv (p2 oIx (pBor 0) (pC (.int 3))) (pBor 1))) (sRet (pVar 2)))) (sNext)) (sSeq (sPut 0 (pC (.int 1)) (p2 oAdd (p2 oIx (pBor 0) (pC (.int 1))) (pC (.int 1)))) (sSeq (sIf (tBool (p2 oGt (p2 oIx (pBor 0) (pC (.int 1))) (pB fLen (pCons (p2 oIx (pBor 0) (pC (.int 0))) (pNil))))) (sSeq (sPut 0 (pC (.int 2)) (p2 oMod (pB fInt (pCons (p2 oAdd (p2 oMul (p2 oIx (pBor 0) (pC (.int 2))) (pC (.int 48271))) (pC (.int 11))) (pNil))) (pC (.int 2147483647)))) (sRet (p2 oMod (pB fInt (pCons (p2 oDiv (p2 oIx (pBor 0) (pC (.int 2))) (pC (.int 7))) (pNil))) (pBor 1)))) (sNext)) (sSeq (sAsg (p2 oIx (p2 oIx (pBor 0) (pC (.int 0))) (p2 oMinus (p2 oIx (pBor 0) (pC (.int 1))) (pC (.int 1)))) (gSet 3)) (sSeq (sPut 0 (pC (.int 2)) (p2 oMod (pB fInt (pCons (p2 oAdd (p2 oAdd (p2 oMul (p2 oIx (pBor 0) (pC (.int 2))) (pC (.int 48271))) (pBor 3)) (pC (.int 11))) (pNil))) (pC (.int 2147483647)))) (sSeq (sIf (tBool (p2 oGe (pBor 3) (p2 oPow (pC (.int 10)) (pC (.int 18))))) (sPut 0 (pC (.int 3)) (p2 oDiv (pBor 3) (pBor 1))) (sNext)) (sRet (p2 oMod (pB fInt (pCons (pBor 3) (pNil))) (pBor 1))))))))
def F_u_law_taken : Nat → Env → Rs PV
  | 0, _ => .bad
  | n + 1, args => runIO 4 (m_u_law_taken n) args
def m_u_law_pick (n : Nat) : SM :=
  sRetM (mk2 oIx (mP (pVar 1)) (mCallIO (F_u_law_taken n) (.io 0 :: (.x (pB fLen (pCons (pBor 1) (pNil))) :: []))))
def F_u_law_pick : Nat → Env → Rs PV
  | 0, _ => .bad
  | n + 1, args => runIO 2 (m_u_law_pick n) args
def m_is_number (n : Nat) : SM :=
  sRet (pAnd (p1 (oIsA ["int"]) (pBor 0)) (pAnd (pNot (p1 (oIsA ["bool"]) (pBor 0))) (pChain oLe oLe (pBor 1) (pBor 0) (pBor 2))))
def F_is_number : Nat → List PV → Rp PV
  | 0, _ => .bad
  | n + 1, args => runFn 3 (m_is_number n) args
def m_is_lot (n : Nat) : SM :=
  sSeq (sIf (tOr (tNot (tTruth (p1 (oIsA ["tuple"]) (pBor 0)))) (tBool (p2 oEq (pB fLen (pCons (pBor 0) (pNil))) (pC (.int 0))))) (sRet (pC (.bool false))) (sNext)) (sSeq (sIf (tNot (tTruth (pB fAll (pCons (pComp [2] (wSeq (pBor 0)) (gSet 2) (tYes) (pCall (F_is_number n) (pCons (pVar 2) (pCons (pC (.int 0)) (pCons (p2 oMinus (pBor 1) (pC (.int 1))) (pNil)))))) (pNil))))) (sRet (pC (.bool false))) (sNext)) (sRet (pB fAll (pCons (pComp [3, 4] (wZip (pVar 0) (p1 (oCut (some 1) none) (pBor 0))) (gTuple (gCons (gSet 3) (gCons (gSet 4) (gNil)))) (tYes) (p2 oLt (pBor 3) (pBor 4))) (pNil)))))
def F_is_lot : Nat → List PV → Rp PV
  | 0, _ => .bad
  | n + 1, args => runFn 5 (m_is_lot n) args
def m_require_lot (n : Nat) : SM :=
  sIf (tNot (tTruth (pCall (F_is_lot n) (pCons (pVar 0) (pCons (pVar 1) (pNil)))))) (sRaise "BadLot" (pCons (pC (.str (Str.ofString "a lot is an ascending tuple of one or more unlike people"))) (pNil))) (sNext)
def F_require_lot : Nat → List PV → Rp PV
  | 0, _ => .bad
  | n + 1, args => runFn 2 (m_require_lot n) args
def m_u_require_secret (n : Nat) : SM :=
  sIf (tNot (tTruth (pCall (F_is_number n) (pCons (pVar 1) (pCons (pC (.int 0)) (pCons (p2 oMinus (pBor 0) (pC (.int 1))) (pNil))))))) (sRaise "BadSecret" (pCons (pC (.str (Str.ofString "a secret is an integer from 0 up, below the prime"))) (pNil))) (sNext)
def F_u_require_secret : Nat → List PV → Rp PV
  | 0, _ => .bad
  | n + 1, args => runFn 2 (m_u_require_secret n) args
def m_require_many (n : Nat) : SM :=
  sIf (tNot (tTruth (pCall (F_is_number n) (pCons (pVar 0) (pCons (pC (.int 2)) (pCons (pC (.int 4)) (pNil))))))) (sRaise "BadNumber" (pCons (pC (.str (Str.ofString "there are 2 to 4 people"))) (pNil))) (sNext)
def F_require_many : Nat → List PV → Rp PV
  | 0, _ => .bad
  | n + 1, args => runFn 1 (m_require_many n) args
def m_require_prime (n : Nat) : SM :=
  sIf (tBool (p1 (oNotInC tup_PRIMES) (pBor 0))) (sRaise "BadPrime" (pCons (pC (.str (Str.ofString "the prime is 5, 7, 11 or 13"))) (pNil))) (sNext)
def F_require_prime : Nat → List PV → Rp PV
  | 0, _ => .bad
  | n + 1, args => runFn 1 (m_require_prime n) args
def m_seen (n : Nat) : SM :=
  sSeq (sExpr (pCall (F_require_prime n) (pCons (pVar 0) (pNil)))) (sSeq (sExpr (pCall (F_require_many n) (pCons (pVar 1) (pNil)))) (sSeq (sIf (tNot (tTruth (pCall (F_is_number n) (pCons (pVar 2) (pCons (pC (.int 1)) (pCons (pC (.int 3)) (pNil))))))) (sRaise "BadNumber" (pCons (pC (.str (Str.ofString "there are 1 to 3 coins"))) (pNil))) (sNext)) (sSeq (sExpr (pCall (F_u_require_secret n) (pCons (pVar 0) (pCons (pVar 3) (pNil))))) (sSeq (sExpr (pCall (F_require_lot n) (pCons (pVar 4) (pCons (pVar 1) (pNil))))) ((fun _ => .bad))))))
def F_seen : Nat → List PV → Rp PV
  | 0, _ => .bad
  | n + 1, args => runFn 10 (m_seen n) args
def m_u_is_point (n : Nat) : SM :=
  sSeq (sIf (tOr (tNot (tTruth (p1 (oIsA ["tuple"]) (pBor 1)))) (tBool (p2 oNe (pB fLen (pCons (pBor 1) (pNil))) (pC (.int 2))))) (sRet (pC (.bool false))) (sNext)) (sRet (pAnd (pCall (F_is_number n) (pCons (p2 oIx (pBor 1) (pC (.int 0))) (pCons (pC (.int 1)) (pCons (p2 oMinus (pBor 0) (pC (.int 1))) (pNil))))) (pCall (F_is_number n) (pCons (p2 oIx (pBor 1) (pC (.int 1))) (pCons (pC (.int 0)) (pCons (p2 oMinus (pBor 0) (pC (.int 1))) (pNil)))))))
def F_u_is_point : Nat → List PV → Rp PV
  | 0, _ => .bad
  | n + 1, args => runFn 2 (m_u_is_point n) args
def m_u_are_points (n : Nat) : SM :=
  sSeq (sIf (tOr (tNot (tTruth (p1 (oIsA ["tuple"]) (pBor 1)))) (tNot (tBool (pChain oLe oLe (pC (.int 1)) (pB fLen (pCons (pBor 1) (pNil))) (pC (.int 5)))))) (sRet (pC (.bool false))) (sNext)) (sSeq (sIf (tNot (tTruth (pB fAll (pCons (pComp [2] (wSeq (pBor 1)) (gSet 2) (tYes) (pCall (F_u_is_point n) (pCons (pVar 0) (pCons (pVar 2) (pNil))))) (pNil))))) (sRet (pC (.bool false))) (sNext)) (sRet (pB fAll (pCons (pComp [3, 4] (wZip (pVar 1) (p1 (oCut (some 1) none) (pBor 1))) (gTuple (gCons (gSet 3) (gCons (gSet 4) (gNil)))) (tYes) (p2 oLt (p2 oIx (pBor 3) (pC (.int 0))) (p2 oIx (pBor 4) (pC (.int 0))))) (pNil)))))
def F_u_are_points : Nat → List PV → Rp PV
  | 0, _ => .bad
  | n + 1, args => runFn 5 (m_u_are_points n) args
def m_rebuilt (n : Nat) : SM :=
  sSeq (sExpr (pCall (F_require_prime n) (pCons (pVar 0) (pNil)))) (sSeq (sIf (tNot (tTruth (pCall (F_u_are_points n) (pCons (pVar 0) (pCons (pVar 1) (pNil)))))) (sRaise "BadPoints" (pCons (pC (.str (Str.ofString "points are a tuple of 1 to 5 pairs of a place, these ascending, and a value"))) (pNil))) (sNext)) ((fun _ => .bad)))
def F_rebuilt : Nat → List PV → Rp PV
  | 0, _ => .bad
  | n + 1, args => runFn 7 (m_rebuilt n) args
def m_are_numbers (n : Nat) : SM :=
  sSeq (sIf (tOr (tNot (tTruth (p1 (oIsA ["tuple"]) (pBor 0)))) (tBool (p2 oNe (pB fLen (pCons (pBor 0) (pNil))) (pBor 1)))) (sRet (pC (.bool false))) (sNext)) (sRet (pB fAll (pCons (pComp [3] (wSeq (pBor 0)) (gSet 3) (tYes) (pCall (F_is_number n) (pCons (pVar 3) (pCons (pC (.int 0)) (pCons (pVar 2) (pNil)))))) (pNil))))
def F_are_numbers : Nat → List PV → Rp PV
  | 0, _ => .bad
  | n + 1, args => runFn 4 (m_are_numbers n) args
def m_dealt (n : Nat) : SM :=
  sSeq (sExpr (pCall (F_require_prime n) (pCons (pVar 0) (pNil)))) (sSeq (sExpr (pCall (F_require_many n) (pCons (pVar 1) (pNil)))) (sSeq (sExpr (pCall (F_u_require_secret n) (pCons (pVar 0) (pCons (pVar 2) (pNil))))) (sSeq (sIf (tOr (tNot (tTruth (p1 (oIsA ["tuple"]) (pBor 3)))) (tNot (tBool (pChain oLe oLe (pC (.int 1)) (pB fLen (pCons (pBor 3) (pNil))) (pC (.int 3)))))) (sRaise "BadCoins" (pCons (pC (.str (Str.ofString "there are 1 to 3 coins"))) (pNil))) (sNext)) (sSeq (sIf (tNot (tTruth (pCall (F_are_numbers n) (pCons (pVar 3) (pCons (pB fLen (pCons (pBor 3) (pNil))) (pCons (p2 oMinus (pBor 0) (pC (.int 1))) (pNil))))))) (sRaise "BadCoins" (pCons (pC (.str (Str.ofString "a coin is an integer from 0 up, below the prime"))) (pNil))) (sNext)) ((fun _ => .bad))))))
def F_dealt : Nat → List PV → Rp PV
  | 0, _ => .bad
  | n + 1, args => runFn 4 (m_dealt n) args
def ES : List String := ["BadCoins", "BadLot", "BadNumber", "BadPoints", "BadPrime", "BadSecret"]
def HM : List (List String × Str) := [(["BadCoins"], (Str.ofString "BadCoins")), (["BadLot"], (Str.ofString "BadLot")), (["BadNumber"], (Str.ofString "BadNumber")), (["BadPoints"], (Str.ofString "BadPoints")), (["BadPrime"], (Str.ofString "BadPrime")), (["BadSecret"], (Str.ofString "BadSecret")), (["BadCoins", "BadLot", "BadNumber", "BadPoints", "BadPrime", "BadSecret"], (Str.ofString "other"))]
def CZ : Str := (Str.ofString "")
def L_0 (n : Nat) : MX :=
  mP (pCall (F_seen n) (pCons (pVar 5) (pCons (pVar 4) (pCons (pC (.int 1)) (pCons (pC (.int 0)) (pCons (pVar 3) (pNil)))))))
def L_1 (n : Nat) : MX :=
  mP (pCall (F_rebuilt n) (pCons (pVar 5) (pCons (pVar 3) (pNil))))
def L_2 (n : Nat) : MX :=
  mP (pCall (F_dealt n) (pCons (pVar 5) (pCons (pVar 4) (pCons (pC (.int 0)) (pCons (pVar 3) (pNil))))))
def L_3 (n : Nat) : MX :=
  mP (pCall (F_seen n) (pCons (pVar 5) (pCons (pVar 4) (pCons (pC (.int 1)) (pCons (pVar 3) (pCons (pC .none) (pNil)))))))
def L_4 (n : Nat) : MX :=
  mP (pCall (F_dealt n) (pCons (pVar 5) (pCons (pVar 4) (pCons (pVar 3) (pCons (pC .none) (pNil))))))
def L_5 (n : Nat) : MX :=
  mCall (F_seen n) (mCons (mP (pVar 5)) (mCons (mP (pVar 4)) (mCons (mCallIO (F_u_law_pick n) (.io 6 :: (.x (pLst (pCons (pC .none) (pCons (pC (.int 0)) (pCons (pC (.int 4)) (pCons (pC (.bool true)) (pNil)))))) :: []))) (mCons (mP (pC .none)) (mCons (mP (pC .none)) (mNil))))))
def L_6 (n : Nat) : MX :=
  mP (pCall (F_seen n) (pCons (pVar 5) (pCons (pVar 3) (pCons (pC .none) (pCons (pC .none) (pCons (pC .none) (pNil)))))))
def L_7 (n : Nat) : MX :=
  mP (pCall (F_dealt n) (pCons (pVar 5) (pCons (pVar 3) (pCons (pC .none) (pCons (pC .none) (pNil))))))
def L_8 (n : Nat) : MX :=
  mP (pCall (F_seen n) (pCons (pVar 3) (pCons (pC .none) (pCons (pC .none) (pCons (pC .none) (pCons (pC .none) (pNil)))))))
def L_9 (n : Nat) : MX :=
  mP (pCall (F_rebuilt n) (pCons (pVar 3) (pCons (pC .none) (pNil))))
def L_10 (n : Nat) : MX :=
  mP (pCall (F_dealt n) (pCons (pVar 3) (pCons (pC .none) (pCons (pC .none) (pCons (pC .none) (pNil))))))
def Ls (n : Nat) : Nat → MX
  | 0 => L_0 n
  | 1 => L_1 n
  | 2 => L_2 n
  | 3 => L_3 n
  | 4 => L_4 n
  | 5 => L_5 n
  | 6 => L_6 n
  | 7 => L_7 n
  | 8 => L_8 n
  | 9 => L_9 n
  | 10 => L_10 n
  | _ => fun _ => .bad
def m_law (n : Nat) : SM :=
  sSeq (sOwn 6 (pLst (pCons (pVar 0) (pCons (pC (.int 0)) (pCons (pC (.int 7729)) (pCons (pC (.int 0)) (pNil))))))) (sSeq (sAsgM (mTup (mCons (mCallIO (F_u_law_pick (n + 3)) (.io 6 :: (.x (pLst (pCons (pC (.int 5)) (pCons (pC (.int 7)) (pCons (pC (.int 11)) (pCons (pC (.int 13)) (pNil)))))) :: []))) (mCons (mk2 oAdd (mP (pC (.int 2))) (mCallIO (F_u_law_taken (n + 3)) (.io 6 :: (.x (pC (.int 3)) :: [])))) (mNil)))) (gTuple (gCons (gSet 5) (gCons (gSet 4) (gNil))))) (sSeq (sAsgM (mCallIO (F_u_law_pick (n + 3)) (.io 6 :: (.x (pLst (pCons (pC .none) (pCons (pC (.int 2)) (pCons (pC (.int 3)) (pCons (pC (.int 4)) (pCons (pC (.int 6)) (pCons (pC (.int 9)) (pCons (pC (.int 17)) (pCons (pC (.bool true)) (pCons (pC (.str (Str.ofString "5"))) (pCons (pTup (pCons (pC (.int 5)) (pNil))) (pCons (p1 oNeg (pC (.int 5))) (pCons (pLst (pNil)) (pNil)))))))))))))) :: []))) (gSet 3)) (sSeq (sAsg (pLst (pCons (pC (.fn 10 [])) (pCons (pC (.fn 9 [])) (pCons (pC (.fn 8 [])) (pNil))))) (gSet 1)) (sSeq (sIfM (mtBool (mk2 oNe (mComp [7] (wSeq (pVar 1)) (gSet 7) (mtBool (mk2 oNe (mLerr 7 (Ls n) ES HM CZ) (mP (pC (.str (Str.ofString "BadPrime")))))) (mP (pVar 7))) (mP (pLst (pNil))))) (sRet (pC (.bool false))) (sNext)) (sSeq (sAsgM (mCallIO (F_u_law_pick (n + 3)) (.io 6 :: (.x (pLst (pCons (pC .none) (pCons (pC (.int 1)) (pCons (pC (.int 5)) (pCons (pC (.bool true)) (pCons (pC (.str (Str.ofString "2"))) (pCons (pTup (pCons (pC (.int 2)) (pNil))) (pCons (pLst (pNil)) (pNil))))))))) :: []))) (gSet 3)) (sSeq (sAsg (pLst (pCons (pC (.fn 7 [])) (pCons (pC (.fn 6 [])) (pNil)))) (gSet 1)) (sSeq (sIfM (mtBool (mk2 oNe (mComp [7] (wSeq (pVar 1)) (gSet 7) (mtBool (mk2 oNe (mLerr 7 (Ls n) ES HM CZ) (mP (pC (.str (Str.ofString "BadNumber")))))) (mP (pVar 7))) (mP (pLst (pNil))))) (sRet (pC (.bool false))) (sNext)) (sSeq (sIfM (mtBool (mk2 oNe (mLerrL (L_5 n) ES HM CZ) (mP (pC (.str (Str.ofString "BadNumber")))))) (sRet (pC (.bool false))) (sNext)) (sSeq (sAsgM (mCallIO (F_u_law_pick (n + 3)) (.io 6 :: (.x (pLst (pCons (pC .none) (pCons (p1 oNeg (pC (.int 1))) (pCons (pVar 5) (pCons (pC (.bool true)) (pCons (pC (.str (Str.ofString "0"))) (pCons (pTup (pCons (pC (.int 0)) (pNil))) (pCons (pLst (pNil)) (pNil))))))))) :: []))) (gSet 3)) (sSeq (sIfM (mtBool (mk2 oNe (mLst (mCons (mLerrL (L_4 n) ES HM CZ) (mCons (mLerrL (L_3 n) ES HM CZ) (mNil)))) (mP (p1 (oRepL 2) (pLst (pCons (pC (.str (Str.ofString "BadSecret"))) (pNil))))))) (sRet (pC (.bool false))) (sNext)) (sSeq (sAsgM (mCallIO (F_u_law_pick (n + 3)) (.io 6 :: (.x (pLst (pCons (pC .none) (pCons (pTup (pNil)) (pCons (p2 oMul (pTup (pCons (pC (.int 0)) (pNil))) (pC (.int 4))) (pCons (pTup (pCons (pVar 5) (pNil))) (pCons (pTup (pCons (p1 oNeg (pC (.int 1))) (pNil))) (pCons (pTup (pCons (pC (.bool true)) (pNil))) (pCons (pLst (pCons (pC (.int 0)) (pNil))) (pCons (pC (.str (Str.ofString "0"))) (pCons (pC (.dict false [])) (pCons (pTup (pCons (pC .none) (pNil))) (pCons (pTup (pCons (pLst (pNil)) (pNil))) (pNil))))))))))))) :: []))) (gSet 3)) (sSeq (sIfM (mtBool (mk2 oNe (mLerrL (L_2 n) ES HM CZ) (mP (pC (.str (Str.ofString "BadCoins")))))) (sRet (pC (.bool false))) (sNext)) (sSeq (sAsg (pLst (pCons (pC .none) (pCons (pTup (pNil)) (pCons (p2 oMul (pTup (pCons (pTup (pCons (pC (.int 1)) (pCons (pC (.int 0)) (pNil)))) (pNil))) (pC (.int 2))) (pCons (pTup (pCons (pTup (pCons (pC (.int 2)) (pCons (pC (.int 0)) (pNil)))) (pCons (pTup (pCons (pC (.int 1)) (pCons (pC (.int 0)) (pNil)))) (pNil)))) (pCons (pTup (pCons (pTup (pCons (pC (.int 0)) (pCons (pC (.int 0)) (pNil)))) (pNil))) (pCons (pTup (pCons (pTup (pCons (pVar 5) (pCons (pC (.int 0)) (pNil)))) (pNil))) (pCons (pTup (pCons (pTup (pCons (pC (.int 1)) (pCons (pVar 5) (pNil)))) (pNil))) (pCons (pTup (pCons (pTup (pCons (pC (.int 1)) (pCons (p1 oNeg (pC (.int 1))) (pNil)))) (pNil))) (pCons (pTup (pCons (pTup (pCons (pC (.bool true)) (pCons (pC (.int 0)) (pNil)))) (pNil))) (pCons (pTup (pCons (pTup (pCons (pC (.int 1)) (pCons (pC (.bool true)) (pNil)))) (pNil))) (pCons (pTup (pCons (pTup (pCons (pC (.int 1)) (pCons (pC (.int 0)) (pCons (pC (.int 0)) (pNil))))) (pNil))) (pCons (pTup (pCons (pLst (pCons (pC (.int 1)) (pCons (pC (.int 0)) (pNil)))) (pNil))) (pCons (pLst (pCons (pTup (pCons (pC (.int 1)) (pCons (pC (.int 0)) (pNil)))) (pNil))) (pNil))))))))))))))) (gSet 2)) (sSeq (sAsg (p2 oAdd (pBor 2) (pLst (pCons (p2 oAdd (pB fTuple (pCons (pComp [8] (wRange (pCons (pC (.int 1)) (pCons (pC (.int 5)) (pNil)))) (gSet 8) (tYes) (pTup (pCons (pVar 8) (pCons (pC (.int 0)) (pNil))))) (pNil))) (pTup (pCons (pTup (pCons (pC (.int 4)) (pCons (pC (.int 0)) (pNil)))) (pNil)))) (pCons (pTup (pCons (pTup (pCons (pC (.int 1)) (pCons (pC .none) (pNil)))) (pNil))) (pCons (pTup (pCons (pTup (pCons (pC .none) (pCons (pC (.int 0)) (pNil)))) (pNil))) (pCons (pC (.str (Str.ofString "10"))) (pCons (pC (.dict false [])) (pCons (pTup (pCons (pTup (pCons (pLst (pNil)) (pCons (pC (.int 0)) (pNil)))) (pNil))) (pCons (pTup (pCons (pTup (pCons (pC (.int 1)) (pCons (pC (.int 0)) (pNil)))) (pCons (pTup (pCons (pC (.int 1)) (pCons (pC (.int 1)) (pNil)))) (pNil)))) (pNil)))))))))) (gSet 2)) (sSeq (sAsgM (mCallIO (F_u_law_pick (n + 3)) (.io 6 :: (.x (p2 oAdd (pBor 2) (pIf (tBool (p2 oGt (pBor 5) (pC (.int 6)))) (pLst (pCons (pB fTuple (pCons (pComp [8] (wRange (pCons (pC (.int 1)) (pCons (pC (.int 7)) (pNil)))) (gSet 8) (tYes) (pTup (pCons (pVar 8) (pCons (pC (.int 0)) (pNil))))) (pNil))) (pNil))) (pLst (pNil)))) :: []))) (gSet 3)) (sSeq (sIfM (mtBool (mk2 oNe (mLerrL (L_1 n) ES HM CZ) (mP (pC (.str (Str.ofString "BadPoints")))))) (sRet (pC (.bool false))) (sNext)) (sSeq (sAsgM (mCallIO (F_u_law_pick (n + 3)) (.io 6 :: (.x (pLst (pCons (pC .none) (pCons (pTup (pNil)) (pCons (pLst (pCons (pC (.int 0)) (pNil))) (pCons (pTup (pCons (pC (.int 1)) (pCons (pC (.int 0)) (pNil)))) (pCons (pTup (pCons (pC (.int 0)) (pCons (pC (.int 0)) (pNil)))) (pCons (pTup (pCons (pVar 4) (pNil))) (pCons (pTup (pCons (p1 oNeg (pC (.int 1))) (pNil))) (pCons (pTup (pCons (pC (.bool true)) (pNil))) (pCons (pC (.str (Str.ofString "0"))) (pCons (pC (.dict false [])) (pCons (pC (.int 0)) (pCons (pTup (pCons (pC .none) (pNil))) (pCons (pTup (pCons (pLst (pNil)) (pNil))) (pNil))))))))))))))) :: []))) (gSet 3)) (sRetM (mk2 oEq (mLerrL (L_0 n) ES HM CZ) (mP (pC (.str (Str.ofString "BadLot")))))))))))))))))))))))
end Pv
end
section
set_option autoImplicit false
set_option Elab.async false
set_option linter.all false
set_option maxRecDepth 100000
namespace Pv
open PySem PySem.Spec PyProof.Rows L2
variable [TN]
def top (i : Nat) : Stmt := PySem.Challenge.pw_nomoretold_k29_shares_refused.main.body.getD i (.Pass ⟨0, 0, 0, 0⟩)
theorem sc_u_law_taken : FnScope ["row", "many", "found", "cell"] ["row", "many"] (defScope (top 33)) := ⟨rfl, rfl, rfl, by decide +kernel, rfl, by decide +kernel, by decide +kernel⟩
theorem w_u_law_taken {G : Gm} {n : Nat} (t : FnThere G "_law_taken" ["row", "many"] (top 33)) (z_int : G.mg "int" = none) (z_len : G.mg "len" = none) : FnHas G (n + 1) "_law_taken" ["row", "many"] (spM G 2 (F_u_law_taken (n + 1))) :=
  t.hasIO sc_u_law_taken rfl rfl (m := m_u_law_taken n) fun cdv A outer s H E S =>
    ss_cons (s_if (t_cmp (j_cmp _) (fun _ => op_gt) ((x_ix j_ix (fun i => by rw [← S.K i]; exact ix_S2) (xb 0) ((x_int).br) (fun _ _ => rfl)).br) ((x_int).br) (nomark _)) (ss_cons (sset S 2 (x_op j_mod (fun _ => op_mod) ((xty j_intF (fun _ => call_int1) S z_int PyProof.Rows.boot_int (a_cons ((x_ix j_ix (fun i => by rw [← S.K i]; exact ix_S2) (xb 0) ((x_int).br) (fun _ _ => rfl)).br) (a_nil))).br) (xb 1))) (ss_cons (s_put S 0 (x_op j_div (fun _ => op_fdiv) ((x_ix j_ix (fun i => by rw [← S.K i]; exact ix_S2) (xb 0) ((x_int).br) (fun _ _ => rfl)).br) (xb 1)) (x_int)) (ss_one (s_ret (xv 2))))) (ss_nil)) (ss_cons (s_put S 0 (x_op j_add (fun i => by rw [← S.K i]; exact op_addAll) ((x_ix j_ix (fun i => by rw [← S.K i]; exact ix_S2) (xb 0) ((x_int).br) (fun _ _ => rfl)).br) ((x_int).br)) (x_int)) (ss_cons (s_if (t_cmp (j_cmp _) (fun _ => op_gt) ((x_ix j_ix (fun i => by rw [← S.K i]; exact ix_S2) (xb 0) ((x_int).br) (fun _ _ => rfl)).br) ((xbi j_len (fun i => by rw [← S.K i]; exact call_len_seq) S z_len PySem.boot_len (a_cons ((x_ix j_ix (fun i => by rw [← S.K i]; exact ix_S2) (xb 0) ((x_int).br) (fun _ _ => rfl)).br) (a_nil))).br) (nomark _)) (ss_cons (s_put S 0 (x_op j_mod (fun _ => op_mod) ((xty j_intF (fun _ => call_int1) S z_int PyProof.Rows.boot_int (a_cons ((x_op j_add (fun i => by rw [← S.K i]; exact op_addAll) ((x_op j_mul (fun i => by rw [← S.K i]; exact op_mulAll) ((x_ix j_ix (fun i => by rw [← S.K i]; exact ix_S2) (xb 0) ((x_int).br) (fun _ _ => rfl)).br) ((x_int).br)).br) ((x_int).br)).br) (a_nil))).br) ((x_int).br)) (x_int)) (ss_one (s_ret (x_op j_mod (fun _ => op_mod) ((xty j_intF (fun _ => call_int1) S z_int PyProof.Rows.boot_int (a_cons ((x_op j_div (fun _ => op_fdiv) ((x_ix j_ix (fun i => by rw [← S.K i]; exact ix_S2) (xb 0) ((x_int).br) (fun _ _ => rfl)).br) ((x_int).br)).br) (a_nil))).br) (xb 1))))) (ss_nil)) (ss_cons (sset S 3 (x_ix j_ix (fun i => by rw [← S.K i]; exact ix_S2) ((x_ix j_ix (fun i => by rw [← S.K i]; exact ix_S2) (xb 0) ((x_int).br) (fun _ _ => rfl)).br) ((x_op j_sub (fun _ => op_sub) ((x_ix j_ix (fun i => by rw [← S.K i]; exact ix_S2) (xb 0) ((x_int).br) (fun _ _ => rfl)).br) ((x_int).br)).br) (fun _ _ => rfl))) (ss_cons (s_put S 0 (x_op j_mod (fun _ => op_mod) ((xty j_intF (fun _ => call_int1) S z_int PyProof.Rows.boot_int (a_cons ((x_op j_add (fun i => by rw [← S.K i]; exact op_addAll) ((x_op j_add (fun i => by rw [← S.K i]; exact op_addAll) ((x_op j_mul (fun i => by rw [← S.K i]; exact op_mulAll) ((x_ix j_ix (fun i => by rw [← S.K i]; exact ix_S2) (xb 0) ((x_int).br) (fun _ _ => rfl)).br) ((x_int).br)).br) (xb 3)).br) ((x_int).br)).br) (a_nil))).br) ((x_int).br)) (x_int)) (ss_cons (s_if (t_cmp (j_cmp _) (fun _ => op_ge) (xb 3) ((x_op j_pow (fun _ => op_pow) ((x_int).br) ((x_int).br)).br) (nomark _)) (ss_one (s_put S 0 (x_op j_div (fun _ => op_fdiv) (xb 3) (xb 1)) (x_int))) (ss_nil)) (ss_one (s_ret (x_op j_mod (fun _ => op_mod) ((xty j_intF (fun _ => call_int1) S z_int PyProof.Rows.boot_int (a_cons (xb 3) (a_nil))).br) (xb 1)))))))))
theorem sc_u_law_pick : FnScope ["row", "things"] ["row", "things"] (defScope (top 34)) := ⟨rfl, rfl, rfl, by decide +kernel, rfl, by decide +kernel, by decide +kernel⟩
theorem w_u_law_pick {G : Gm} {n : Nat} (t : FnThere G "_law_pick" ["row", "things"] (top 34)) (h_u_law_taken : FnHas G n "_law_taken" ["row", "many"] (spM G 2 (F_u_law_taken n))) (z_len : G.mg "len" = none) : FnHas G (n + 1) "_law_pick" ["row", "things"] (spM G 2 (F_u_law_pick (n + 1))) :=
  t.hasIO sc_u_law_pick rfl rfl (m := m_u_law_pick n) fun cdv A outer s H E S =>
    ss_one (s_retM (m_ix j_ix (fun i => by rw [← S.K i]; exact ix_S2) (m_p (xv 1)) (m_callIO S h_u_law_taken (ar_io 0 (ar_x (xbi j_len (fun i => by rw [← S.K i]; exact call_len_seq) S z_len PySem.boot_len (a_cons (xb 1) (a_nil))) (ar_nil))) rfl (by decide)) (fun _ _ => rfl)))
theorem sc_is_number : FnScope ["value", "least", "most"] ["value", "least", "most"] (defScope (top 9)) := ⟨rfl, rfl, rfl, by decide +kernel, rfl, by decide +kernel, by decide +kernel⟩
theorem w_is_number {G : Gm} {n : Nat} (t : FnThere G "is_number" ["value", "least", "most"] (top 9)) (z_isinstance : G.mg "isinstance" = none) (z_bool : G.mg "bool" = none) (z_int : G.mg "int" = none) : FnHas G (n + 1) "is_number" ["value", "least", "most"] (spP G 3 (F_is_number (n + 1))) :=
  t.has sc_is_number rfl rfl (m := m_is_number n) fun cdv A outer s H E S =>
    ss_one (s_ret (x_and (xisa (u := "int") S (xb 0) z_isinstance PyProof.Rows.boot_isinstance z_int PyProof.Rows.boot_int) (x_and (x_not (xisa (u := "bool") S (xb 0) z_isinstance PyProof.Rows.boot_isinstance z_bool PyProof.Rows.boot_bool)) (x_one (x_chain (j_cmp _) (j_cmp _) (fun _ => op_le) (fun _ => op_le) (xb 1) (xb 0) (xb 2) (fun _ _ _ _ h1 h2 h3 => pe_chain op_le op_le h1 h2 h3))))))
theorem sc_is_lot : FnScope ["value", "many", "thing", "one", "other"] ["value", "many"] (defScope (top 11)) := ⟨rfl, rfl, rfl, by decide +kernel, rfl, by decide +kernel, by decide +kernel⟩
theorem w_is_lot {G : Gm} {n : Nat} (t : FnThere G "is_lot" ["value", "many"] (top 11)) (h_is_number : FnHas G n "is_number" ["value", "least", "most"] (spP G 3 (F_is_number n))) (z_zip : G.mg "zip" = none) (z_all : G.mg "all" = none) (z_len : G.mg "len" = none) (z_isinstance : G.mg "isinstance" = none) (z_tuple : G.mg "tuple" = none) : FnHas G (n + 1) "is_lot" ["value", "many"] (spP G 2 (F_is_lot (n + 1))) :=
  t.has sc_is_lot rfl rfl (m := m_is_lot n) fun cdv A outer s H E S =>
    ss_cons (s_if ((w_or (t_not (t_truth S ((xisa (u := "tuple") S (xb 0) z_isinstance PyProof.Rows.boot_isinstance z_tuple PyProof.Rows.boot_tuple).br) (fun _ _ => rfl))) (w_or1 (t_cmp j_eq (fun i => by rw [← S.K i]; exact op_eqD (S.room i).units) ((xbi j_len (fun i => by rw [← S.K i]; exact call_len_seq) S z_len PySem.boot_len (a_cons (xb 0) (a_nil))).br) ((x_int).br) (nomark _)))).t) (ss_one (s_ret (x_bl))) (ss_nil)) (ss_cons (s_if (t_not (t_truth S ((xbi j_all (fun i => by rw [← S.K i]; exact cr_all (S.calm i)) S z_all PyProof.Rows.boot_all (a_cons ((x_comp (own := [("thing", 2)]) S (wl_look S (xb 0)) (fun _ => blkOk_by (by rfl)) (gn (S.blk _) 2) (ts_nil) (xcall (S.blk _) h_is_number (a_cons (xv 2) (a_cons (x_int) (a_cons (x_op j_sub (fun _ => op_sub) (xb 1) ((x_int).br)) (a_nil)))) (many_cons (many_cons (many_cons (many_nil))))) (by decide)).br) (a_nil))).br) (fun _ _ => rfl))) (ss_one (s_ret (x_bl))) (ss_nil)) (ss_one (s_ret (xbi j_all (fun i => by rw [← S.K i]; exact cr_all (S.calm i)) S z_all PyProof.Rows.boot_all (a_cons ((x_comp (own := [("one", 3), ("other", 4)]) S ((wz S z_zip (xv 0) (x_cut S (xb 0) (part_int) (part_none))).weak) (fun _ => blkOk_by (by rfl)) (g_tup (S.blk _) (gs_cons (gn (S.blk _) 3) (gs_cons (gn (S.blk _) 4) (gs_nil)))) (ts_nil) (x_cmp (j_cmp _) (fun _ => op_lt) (xb 3) (xb 4) (nomark _)) (by decide)).br) (a_nil))))))
theorem sc_require_lot : FnScope ["lot", "many"] ["lot", "many"] (defScope (top 21)) := ⟨rfl, rfl, rfl, by decide +kernel, rfl, by decide +kernel, by decide +kernel⟩
theorem w_require_lot {G : Gm} {n : Nat} {Bq Nq Iq : String} {Mq : List Value} (t : FnThere G "require_lot" ["lot", "many"] (top 21)) (h_is_lot : FnHas G n "is_lot" ["value", "many"] (spP G 2 (F_is_lot n))) (e_BadLot : ErrAt G "BadLot" "BadLot" Bq Nq Iq Mq) : FnHas G (n + 1) "require_lot" ["lot", "many"] (spP G 2 (F_require_lot (n + 1))) :=
  t.has sc_require_lot rfl rfl (m := m_require_lot n) fun cdv A outer s H E S =>
    ss_one (s_if (t_not (t_truth S ((xcall S h_is_lot (a_cons (xv 0) (a_cons (xv 1) (a_nil))) (many_cons (many_cons (many_nil)))).br) (fun _ _ => rfl))) (ss_one (s_raise S e_BadLot (a_cons (x_str) (a_nil)) (many_cons (many_nil)).le)) (ss_nil))
theorem sc_u_require_secret : FnScope ["p", "secret"] ["p", "secret"] (defScope (top 22)) := ⟨rfl, rfl, rfl, by decide +kernel, rfl, by decide +kernel, by decide +kernel⟩
theorem w_u_require_secret {G : Gm} {n : Nat} {Bq Nq Iq : String} {Mq : List Value} (t : FnThere G "_require_secret" ["p", "secret"] (top 22)) (h_is_number : FnHas G n "is_number" ["value", "least", "most"] (spP G 3 (F_is_number n))) (e_BadSecret : ErrAt G "BadSecret" "BadSecret" Bq Nq Iq Mq) : FnHas G (n + 1) "_require_secret" ["p", "secret"] (spP G 2 (F_u_require_secret (n + 1))) :=
  t.has sc_u_require_secret rfl rfl (m := m_u_require_secret n) fun cdv A outer s H E S =>
    ss_one (s_if (t_not (t_truth S ((xcall S h_is_number (a_cons (xv 1) (a_cons (x_int) (a_cons (x_op j_sub (fun _ => op_sub) (xb 0) ((x_int).br)) (a_nil)))) (many_cons (many_cons (many_cons (many_nil))))).br) (fun _ _ => rfl))) (ss_one (s_raise S e_BadSecret (a_cons (x_str) (a_nil)) (many_cons (many_nil)).le)) (ss_nil))
theorem sc_require_many : FnScope ["many"] ["many"] (defScope (top 20)) := ⟨rfl, rfl, rfl, by decide +kernel, rfl, by decide +kernel, by decide +kernel⟩
theorem w_require_many {G : Gm} {n : Nat} {ty_MOST_PEOPLE : Tok} {ty_LEAST_PEOPLE : Tok} {Bq Nq Iq : String} {Mq : List Value} (t : FnThere G "require_many" ["many"] (top 20)) (h_is_number : FnHas G n "is_number" ["value", "least", "most"] (spP G 3 (F_is_number n))) (z_MOST_PEOPLE : G.mg "MOST_PEOPLE" = some (.int 4 ty_MOST_PEOPLE)) (z_LEAST_PEOPLE : G.mg "LEAST_PEOPLE" = some (.int 2 ty_LEAST_PEOPLE)) (e_BadNumber : ErrAt G "BadNumber" "BadNumber" Bq Nq Iq Mq) : FnHas G (n + 1) "require_many" ["many"] (spP G 1 (F_require_many (n + 1))) :=
  t.has sc_require_many rfl rfl (m := m_require_many n) fun cdv A outer s H E S =>
    ss_one (s_if (t_not (t_truth S ((xcall S h_is_number (a_cons (xv 0) (a_cons (xg S z_LEAST_PEOPLE) (a_cons (xg S z_MOST_PEOPLE) (a_nil)))) (many_cons (many_cons (many_cons (many_nil))))).br) (fun _ _ => rfl))) (ss_one (s_raise S e_BadNumber (a_cons (x_str) (a_nil)) (many_cons (many_nil)).le)) (ss_nil))
theorem sc_require_prime : FnScope ["p"] ["p"] (defScope (top 19)) := ⟨rfl, rfl, rfl, by decide +kernel, rfl, by decide +kernel, by decide +kernel⟩
theorem w_require_prime {G : Gm} {n : Nat} {Bq Nq Iq : String} {Mq : List Value} (t : FnThere G "require_prime" ["p"] (top 19)) (e_BadPrime : ErrAt G "BadPrime" "BadPrime" Bq Nq Iq Mq) (tu_PRIMES : TupAt G "PRIMES" tup_PRIMES) : FnHas G (n + 1) "require_prime" ["p"] (spP G 1 (F_require_prime (n + 1))) :=
  t.has sc_require_prime rfl rfl (m := m_require_prime n) fun cdv A outer s H E S =>
    ss_one (s_if (t_notInC S tu_PRIMES (xb 0)) (ss_one (s_raise S e_BadPrime (a_cons (x_str) (a_nil)) (many_cons (many_nil)).le)) (ss_nil))
theorem sc_seen : FnScope ["p", "many", "size", "secret", "lot", "found", "coins", "shares", "got", "person"] ["p", "many", "size", "secret", "lot"] (defScope (top 31)) := ⟨rfl, rfl, rfl, by decide +kernel, rfl, by decide +kernel, by decide +kernel⟩
theorem w_seen {G : Gm} {n : Nat} {ty_MOST_COINS : Tok} {Bq Nq Iq : String} {Mq : List Value} (t : FnThere G "seen" ["p", "many", "size", "secret", "lot"] (top 31)) (h_require_lot : FnHas G n "require_lot" ["lot", "many"] (spP G 2 (F_require_lot n))) (h_u_require_secret : FnHas G n "_require_secret" ["p", "secret"] (spP G 2 (F_u_require_secret n))) (h_is_number : FnHas G n "is_number" ["value", "least", "most"] (spP G 3 (F_is_number n))) (h_require_many : FnHas G n "require_many" ["many"] (spP G 1 (F_require_many n))) (h_require_prime : FnHas G n "require_prime" ["p"] (spP G 1 (F_require_prime n))) (z_MOST_COINS : G.mg "MOST_COINS" = some (.int 3 ty_MOST_COINS)) (e_BadNumber : ErrAt G "BadNumber" "BadNumber" Bq Nq Iq Mq) : FnHas G (n + 1) "seen" ["p", "many", "size", "secret", "lot"] (spP G 5 (F_seen (n + 1))) :=
  t.has sc_seen rfl rfl (m := m_seen n) fun cdv A outer s H E S =>
    ss_cons (s_expr (xcall S h_require_prime (a_cons (xv 0) (a_nil)) (many_cons (many_nil)))) (ss_cons (s_expr (xcall S h_require_many (a_cons (xv 1) (a_nil)) (many_cons (many_nil)))) (ss_cons (s_if (t_not (t_truth S ((xcall S h_is_number (a_cons (xv 2) (a_cons (x_int) (a_cons (xg S z_MOST_COINS) (a_nil)))) (many_cons (many_cons (many_cons (many_nil))))).br) (fun _ _ => rfl))) (ss_one (s_raise S e_BadNumber (a_cons (x_str) (a_nil)) (many_cons (many_nil)).le)) (ss_nil)) (ss_cons (s_expr (xcall S h_u_require_secret (a_cons (xv 0) (a_cons (xv 3) (a_nil))) (many_cons (many_cons (many_nil))))) (ss_cons (s_expr (xcall S h_require_lot (a_cons (xv 4) (a_cons (xv 1) (a_nil))) (many_cons (many_cons (many_nil))))) (ss_bad)))))
theorem sc_u_is_point : FnScope ["p", "value"] ["p", "value"] (defScope (top 28)) := ⟨rfl, rfl, rfl, by decide +kernel, rfl, by decide +kernel, by decide +kernel⟩
theorem w_u_is_point {G : Gm} {n : Nat} (t : FnThere G "_is_point" ["p", "value"] (top 28)) (h_is_number : FnHas G n "is_number" ["value", "least", "most"] (spP G 3 (F_is_number n))) (z_len : G.mg "len" = none) (z_isinstance : G.mg "isinstance" = none) (z_tuple : G.mg "tuple" = none) : FnHas G (n + 1) "_is_point" ["p", "value"] (spP G 2 (F_u_is_point (n + 1))) :=
  t.has sc_u_is_point rfl rfl (m := m_u_is_point n) fun cdv A outer s H E S =>
    ss_cons (s_if ((w_or (t_not (t_truth S ((xisa (u := "tuple") S (xb 1) z_isinstance PyProof.Rows.boot_isinstance z_tuple PyProof.Rows.boot_tuple).br) (fun _ _ => rfl))) (w_or1 (t_cmp j_ne (fun i => by rw [← S.K i]; exact op_neD (S.room i).units) ((xbi j_len (fun i => by rw [← S.K i]; exact call_len_seq) S z_len PySem.boot_len (a_cons (xb 1) (a_nil))).br) ((x_int).br) (nomark _)))).t) (ss_one (s_ret (x_bl))) (ss_nil)) (ss_one (s_ret (x_and (xcall S h_is_number (a_cons (x_ix j_ix (fun i => by rw [← S.K i]; exact ix_S2) (xb 1) ((x_int).br) (fun _ _ => rfl)) (a_cons (x_int) (a_cons (x_op j_sub (fun _ => op_sub) (xb 0) ((x_int).br)) (a_nil)))) (many_cons (many_cons (many_cons (many_nil))))) (x_one (xcall S h_is_number (a_cons (x_ix j_ix (fun i => by rw [← S.K i]; exact ix_S2) (xb 1) ((x_int).br) (fun _ _ => rfl)) (a_cons (x_int) (a_cons (x_op j_sub (fun _ => op_sub) (xb 0) ((x_int).br)) (a_nil)))) (many_cons (many_cons (many_cons (many_nil)))))))))
theorem sc_u_are_points : FnScope ["p", "value", "point", "one", "other"] ["p", "value"] (defScope (top 27)) := ⟨rfl, rfl, rfl, by decide +kernel, rfl, by decide +kernel, by decide +kernel⟩
theorem w_u_are_points {G : Gm} {n : Nat} {ty_MOST_POINTS : Tok} (t : FnThere G "_are_points" ["p", "value"] (top 27)) (h_u_is_point : FnHas G n "_is_point" ["p", "value"] (spP G 2 (F_u_is_point n))) (z_zip : G.mg "zip" = none) (z_all : G.mg "all" = none) (z_len : G.mg "len" = none) (z_MOST_POINTS : G.mg "MOST_POINTS" = some (.int 5 ty_MOST_POINTS)) (z_isinstance : G.mg "isinstance" = none) (z_tuple : G.mg "tuple" = none) : FnHas G (n + 1) "_are_points" ["p", "value"] (spP G 2 (F_u_are_points (n + 1))) :=
  t.has sc_u_are_points rfl rfl (m := m_u_are_points n) fun cdv A outer s H E S =>
    ss_cons (s_if ((w_or (t_not (t_truth S ((xisa (u := "tuple") S (xb 1) z_isinstance PyProof.Rows.boot_isinstance z_tuple PyProof.Rows.boot_tuple).br) (fun _ _ => rfl))) (w_or1 (t_not (t_chain (j_cmp _) (j_cmp _) (fun _ => op_le) (fun _ => op_le) ((x_int).br) ((xbi j_len (fun i => by rw [← S.K i]; exact call_len_seq) S z_len PySem.boot_len (a_cons (xb 1) (a_nil))).br) ((xg S z_MOST_POINTS).br) (fun _ _ _ _ h1 h2 h3 => pt_chain op_le op_le h1 h2 h3))))).t) (ss_one (s_ret (x_bl))) (ss_nil)) (ss_cons (s_if (t_not (t_truth S ((xbi j_all (fun i => by rw [← S.K i]; exact cr_all (S.calm i)) S z_all PyProof.Rows.boot_all (a_cons ((x_comp (own := [("point", 2)]) S (wl_look S (xb 1)) (fun _ => blkOk_by (by rfl)) (gn (S.blk _) 2) (ts_nil) (xcall (S.blk _) h_u_is_point (a_cons (xv 0) (a_cons (xv 2) (a_nil))) (many_cons (many_cons (many_nil)))) (by decide)).br) (a_nil))).br) (fun _ _ => rfl))) (ss_one (s_ret (x_bl))) (ss_nil)) (ss_one (s_ret (xbi j_all (fun i => by rw [← S.K i]; exact cr_all (S.calm i)) S z_all PyProof.Rows.boot_all (a_cons ((x_comp (own := [("one", 3), ("other", 4)]) S ((wz S z_zip (xv 1) (x_cut S (xb 1) (part_int) (part_none))).weak) (fun _ => blkOk_by (by rfl)) (g_tup (S.blk _) (gs_cons (gn (S.blk _) 3) (gs_cons (gn (S.blk _) 4) (gs_nil)))) (ts_nil) (x_cmp (j_cmp _) (fun _ => op_lt) ((x_ix j_ix (fun i => by rw [← (S.blk _).K i]; exact ix_S2) (xb 3) ((x_int).br) (fun _ _ => rfl)).br) ((x_ix j_ix (fun i => by rw [← (S.blk _).K i]; exact ix_S2) (xb 4) ((x_int).br) (fun _ _ => rfl)).br) (nomark _)) (by decide)).br) (a_nil))))))
theorem sc_rebuilt : FnScope ["p", "points", "weights", "place", "_", "weight", "value"] ["p", "points"] (defScope (top 26)) := ⟨rfl, rfl, rfl, by decide +kernel, rfl, by decide +kernel, by decide +kernel⟩
theorem w_rebuilt {G : Gm} {n : Nat} {Bq Nq Iq : String} {Mq : List Value} (t : FnThere G "rebuilt" ["p", "points"] (top 26)) (h_u_are_points : FnHas G n "_are_points" ["p", "value"] (spP G 2 (F_u_are_points n))) (h_require_prime : FnHas G n "require_prime" ["p"] (spP G 1 (F_require_prime n))) (e_BadPoints : ErrAt G "BadPoints" "BadPoints" Bq Nq Iq Mq) : FnHas G (n + 1) "rebuilt" ["p", "points"] (spP G 2 (F_rebuilt (n + 1))) :=
  t.has sc_rebuilt rfl rfl (m := m_rebuilt n) fun cdv A outer s H E S =>
    ss_cons (s_expr (xcall S h_require_prime (a_cons (xv 0) (a_nil)) (many_cons (many_nil)))) (ss_cons (s_if (t_not (t_truth S ((xcall S h_u_are_points (a_cons (xv 0) (a_cons (xv 1) (a_nil))) (many_cons (many_cons (many_nil)))).br) (fun _ _ => rfl))) (ss_one (s_raise S e_BadPoints (a_cons (x_str) (a_nil)) (many_cons (many_nil)).le)) (ss_nil)) (ss_bad))
theorem sc_are_numbers : FnScope ["value", "many", "most", "number"] ["value", "many", "most"] (defScope (top 10)) := ⟨rfl, rfl, rfl, by decide +kernel, rfl, by decide +kernel, by decide +kernel⟩
theorem w_are_numbers {G : Gm} {n : Nat} (t : FnThere G "are_numbers" ["value", "many", "most"] (top 10)) (h_is_number : FnHas G n "is_number" ["value", "least", "most"] (spP G 3 (F_is_number n))) (z_all : G.mg "all" = none) (z_len : G.mg "len" = none) (z_isinstance : G.mg "isinstance" = none) (z_tuple : G.mg "tuple" = none) : FnHas G (n + 1) "are_numbers" ["value", "many", "most"] (spP G 3 (F_are_numbers (n + 1))) :=
  t.has sc_are_numbers rfl rfl (m := m_are_numbers n) fun cdv A outer s H E S =>
    ss_cons (s_if ((w_or (t_not (t_truth S ((xisa (u := "tuple") S (xb 0) z_isinstance PyProof.Rows.boot_isinstance z_tuple PyProof.Rows.boot_tuple).br) (fun _ _ => rfl))) (w_or1 (t_cmp j_ne (fun i => by rw [← S.K i]; exact op_neD (S.room i).units) ((xbi j_len (fun i => by rw [← S.K i]; exact call_len_seq) S z_len PySem.boot_len (a_cons (xb 0) (a_nil))).br) (xb 1) (nomark _)))).t) (ss_one (s_ret (x_bl))) (ss_nil)) (ss_one (s_ret (xbi j_all (fun i => by rw [← S.K i]; exact cr_all (S.calm i)) S z_all PyProof.Rows.boot_all (a_cons ((x_comp (own := [("number", 3)]) S (wl_look S (xb 0)) (fun _ => blkOk_by (by rfl)) (gn (S.blk _) 3) (ts_nil) (xcall (S.blk _) h_is_number (a_cons (xv 3) (a_cons (x_int) (a_cons (xv 2) (a_nil)))) (many_cons (many_cons (many_cons (many_nil))))) (by decide)).br) (a_nil)))))
theorem sc_dealt : FnScope ["p", "many", "secret", "coins"] ["p", "many", "secret", "coins"] (defScope (top 23)) := ⟨rfl, rfl, rfl, by decide +kernel, rfl, by decide +kernel, by decide +kernel⟩
theorem w_dealt {G : Gm} {n : Nat} {ty_MOST_COINS : Tok} {Bq Nq Iq : String} {Mq : List Value} (t : FnThere G "dealt" ["p", "many", "secret", "coins"] (top 23)) (h_are_numbers : FnHas G n "are_numbers" ["value", "many", "most"] (spP G 3 (F_are_numbers n))) (h_u_require_secret : FnHas G n "_require_secret" ["p", "secret"] (spP G 2 (F_u_require_secret n))) (h_require_many : FnHas G n "require_many" ["many"] (spP G 1 (F_require_many n))) (h_require_prime : FnHas G n "require_prime" ["p"] (spP G 1 (F_require_prime n))) (z_len : G.mg "len" = none) (z_MOST_COINS : G.mg "MOST_COINS" = some (.int 3 ty_MOST_COINS)) (z_isinstance : G.mg "isinstance" = none) (z_tuple : G.mg "tuple" = none) (e_BadCoins : ErrAt G "BadCoins" "BadCoins" Bq Nq Iq Mq) : FnHas G (n + 1) "dealt" ["p", "many", "secret", "coins"] (spP G 4 (F_dealt (n + 1))) :=
  t.has sc_dealt rfl rfl (m := m_dealt n) fun cdv A outer s H E S =>
    ss_cons (s_expr (xcall S h_require_prime (a_cons (xv 0) (a_nil)) (many_cons (many_nil)))) (ss_cons (s_expr (xcall S h_require_many (a_cons (xv 1) (a_nil)) (many_cons (many_nil)))) (ss_cons (s_expr (xcall S h_u_require_secret (a_cons (xv 0) (a_cons (xv 2) (a_nil))) (many_cons (many_cons (many_nil))))) (ss_cons (s_if ((w_or (t_not (t_truth S ((xisa (u := "tuple") S (xb 3) z_isinstance PyProof.Rows.boot_isinstance z_tuple PyProof.Rows.boot_tuple).br) (fun _ _ => rfl))) (w_or1 (t_not (t_chain (j_cmp _) (j_cmp _) (fun _ => op_le) (fun _ => op_le) ((x_int).br) ((xbi j_len (fun i => by rw [← S.K i]; exact call_len_seq) S z_len PySem.boot_len (a_cons (xb 3) (a_nil))).br) ((xg S z_MOST_COINS).br) (fun _ _ _ _ h1 h2 h3 => pt_chain op_le op_le h1 h2 h3))))).t) (ss_one (s_raise S e_BadCoins (a_cons (x_str) (a_nil)) (many_cons (many_nil)).le)) (ss_nil)) (ss_cons (s_if (t_not (t_truth S ((xcall S h_are_numbers (a_cons (xv 3) (a_cons (xbi j_len (fun i => by rw [← S.K i]; exact call_len_seq) S z_len PySem.boot_len (a_cons (xb 3) (a_nil))) (a_cons (x_op j_sub (fun _ => op_sub) (xb 0) ((x_int).br)) (a_nil)))) (many_cons (many_cons (many_cons (many_nil))))).br) (fun _ _ => rfl))) (ss_one (s_raise S e_BadCoins (a_cons (x_str) (a_nil)) (many_cons (many_nil)).le)) (ss_nil)) (ss_bad)))))
end Pv
end
section
set_option autoImplicit false
set_option linter.all false
set_option maxRecDepth 100000
/-! What the laws draw, over the mirrors. -/
namespace Pv
open PySem (Str)
/-- the drawing's state: the script, the place, the seed, the rest of a great cell -/
def rowOf (ns : List Int) (p s r : Int) : PV := .list [.list (ns.map .int), .int p, .int s, .int r]
def RowOk (row : PV) : Prop := ∃ ns p s r, row = rowOf ns p s r ∧ 0 ≤ p ∧ ns.length ≤ 63
theorem taken_ok {n : Nat} {row : PV} {many : Int} (h : RowOk row) (h1 : 0 < many) (h2 : many < 1073741824) :
    ∃ j row', F_u_law_taken (n + 1) [.o true row, .v (.int many)] = .ok (.int j) [.o true row', .v (.int many)] ∧ 0 ≤ j ∧ j < many ∧ RowOk row' := by
  obtain ⟨ns, p, s, r, rfl, hp, hl⟩ := h
  by_cases hr : 0 < r
  · refine ⟨r % many, rowOf ns p s (r / many), ?_, Int.emod_nonneg _ (by omega), Int.emod_lt_of_pos _ h1, ns, p, s, r / many, rfl, hp, hl⟩
    simp [F_u_law_taken, runIO, m_u_law_taken, rowOf, sSeq, sIf, tBool, p2, oIx, pBor, pC, seqOf, atOf, ixOf, cmpI, asBool, hr, sAsg, pB, pCons, pNil, fInt, oMod, gSet, puts, sPut, oDiv, putAt, sRet, pVar, outs, h1, h2, liftR]
  · by_cases hc : (ns.length : Int) < p + 1
    · refine ⟨((s * 48271 + 11) % 2147483647 / 7) % many, rowOf ns (p + 1) ((s * 48271 + 11) % 2147483647) r, ?_, Int.emod_nonneg _ (by omega), Int.emod_lt_of_pos _ h1, ns, p + 1, _, r, rfl, by omega, hl⟩
      simp [F_u_law_taken, runIO, m_u_law_taken, rowOf, sSeq, sIf, tBool, p2, oIx, pBor, pC, seqOf, atOf, ixOf, cmpI, asBool, hr, sAsg, pB, pCons, pNil, fInt, fLen, oMod, oMul, oMulI, oAdd, oAddI, gSet, puts, sPut, oDiv, putAt, sRet, pVar, outs, h1, h2, liftR, sNext, hc]
    · have hpl : p < ns.length := by omega
      have hk : p.toNat < ns.length := by omega
      obtain ⟨c, ec⟩ : ∃ c, ns[p.toNat] = c := ⟨_, rfl⟩
      by_cases hg : (1000000000000000000 : Int) ≤ c
      · refine ⟨c % many, rowOf ns (p + 1) ((s * 48271 + c + 11) % 2147483647) (c / many), ?_, Int.emod_nonneg _ (by omega), Int.emod_lt_of_pos _ h1, ns, p + 1, _, _, rfl, by omega, hl⟩
        simp [F_u_law_taken, runIO, m_u_law_taken, rowOf, sSeq, sIf, tBool, p2, oIx, pBor, pC, seqOf, atOf, ixOf, cmpI, asBool, hr, sAsg, pB, pCons, pNil, fInt, fLen, oMod, oMul, oMulI, oAdd, oAddI, oMinus, oPow, gSet, puts, sPut, oDiv, putAt, sRet, pVar, outs, h1, h2, liftR, sNext, hc, hp, hpl, ec, hg]
      · refine ⟨c % many, rowOf ns (p + 1) ((s * 48271 + c + 11) % 2147483647) r, ?_, Int.emod_nonneg _ (by omega), Int.emod_lt_of_pos _ h1, ns, p + 1, _, _, rfl, by omega, hl⟩
        simp [F_u_law_taken, runIO, m_u_law_taken, rowOf, sSeq, sIf, tBool, p2, oIx, pBor, pC, seqOf, atOf, ixOf, cmpI, asBool, hr, sAsg, pB, pCons, pNil, fInt, fLen, oMod, oMul, oMulI, oAdd, oAddI, oMinus, oPow, gSet, puts, sPut, oDiv, putAt, sRet, pVar, outs, h1, h2, liftR, sNext, hc, hp, hpl, ec, hg]
end Pv
end
section
set_option autoImplicit false
set_option linter.all false
set_option maxRecDepth 100000
namespace Pv
open PySem (Str)
/-! ### the law ends with True -/
def Run (m : SM) (e : Env) : Prop := ∃ e', m e = .ok (.ret (.bool true)) e'
theorem run_fn {n : Nat} {m : SM} {args : List PV} (h : Run m (start n args)) : runFn n m args = .ok (.bool true) := by
  obtain ⟨e', h⟩ := h
  unfold runFn
  rw [h]
theorem run_next {a b : SM} {e e' : Env} (h : a e = .ok .next e') (k : Run b e') : Run (sSeq a b) e := by
  obtain ⟨e2, k⟩ := k
  exact ⟨e2, by unfold sSeq; rw [h]; exact k⟩
/-- a draw -/
theorem m_taken {n r : Nat} {X : PX} {e : Env} {row : PV} {c : Bool} {many : Int} (hr : e[r]? = some (.o c row)) (ok : RowOk row) (hx : X e = .ok (.int many)) (h1 : 0 < many) (h2 : many < 1073741824) :
    ∃ j row', mCallIO (F_u_law_taken (n + 1)) (.io r :: .x X :: []) e = .ok (.int j) (e.set r (.o c row')) ∧ 0 ≤ j ∧ j < many ∧ RowOk row' := by
  obtain ⟨j, row', h, j0, j1, ok'⟩ := taken_ok (n := n) ok h1 h2
  refine ⟨j, row', ?_, j0, j1, ok'⟩
  simp only [mCallIO, argsM, hr, hx, Rp.ok_bind, liftR_ok, h, outsM]
theorem pick_ok {n : Nat} {row : PV} {ts : List PV} (h : RowOk row) (h1 : 0 < ts.length) (h2 : ts.length < 1073741824) :
    ∃ t ∈ ts, ∃ row', F_u_law_pick (n + 2) [.o true row, .v (.list ts)] = .ok t [.o true row', .v (.list ts)] ∧ RowOk row' := by
  obtain ⟨j, row', e, j0, j1, ok⟩ := taken_ok (n := n) (many := (ts.length : Int)) h (by omega) (by omega)
  have hj : j.toNat < ts.length := by omega
  refine ⟨ts[j.toNat], List.getElem_mem hj, row', ?_, ok⟩
  simp [F_u_law_pick, runIO, m_u_law_pick, sRetM, mk2, bindM, mP, pVar, mCallIO, argsM, liftR, pB, fLen, pBor, pCons, pNil, seqOf, e, outsM, mOpt, oIx, atOf, ixOf, j0, j1, hj, outs]
theorem m_pick {n r : Nat} {X : PX} {e : Env} {row : PV} {c : Bool} {ts : List PV} (hr : e[r]? = some (.o c row)) (ok : RowOk row) (hx : X e = .ok (.list ts)) (h1 : 0 < ts.length) (h2 : ts.length < 1073741824) :
    ∃ t ∈ ts, ∃ row', mCallIO (F_u_law_pick (n + 2)) (.io r :: .x X :: []) e = .ok t (e.set r (.o c row')) ∧ RowOk row' := by
  obtain ⟨t, ht, row', h, ok'⟩ := pick_ok (n := n) ok h1 h2
  refine ⟨t, ht, row', ?_, ok'⟩
  simp only [mCallIO, argsM, hr, hx, Rp.ok_bind, liftR_ok, h, outsM]
/-- name = a pick -/
theorem run_pick {n r i : Nat} {X : PX} {b : SM} {e : Env} {row : PV} {c : Bool} {ts : List PV} (hr : e[r]? = some (.o c row)) (ok : RowOk row) (hx : X e = .ok (.list ts)) (h1 : 0 < ts.length) (h2 : ts.length < 1073741824)
    (k : ∀ t ∈ ts, ∀ row', RowOk row' → Run b ((e.set r (.o c row')).set i (.v t))) : Run (sSeq (sAsgM (mCallIO (F_u_law_pick (n + 2)) (.io r :: .x X :: [])) (gSet i)) b) e := by
  obtain ⟨t, ht, row', h, ok'⟩ := m_pick (n := n) hr ok hx h1 h2
  refine run_next (e' := (e.set r (.o c row')).set i (.v t)) ?_ (k t ht row' ok')
  simp only [sAsgM, bindM, h, gSet, ofOpt_some, liftR_ok, puts]
theorem chk1 {α γ : Type} {l : List α} {F G : α → γ} (h : l.map F = l.map G) : ∀ a ∈ l, F a = G a := List.map_inj_left.mp h
theorem chk2 {α β γ : Type} {l : List α} {f : α → List β} {F G : α → β → γ} (h : l.map (fun a => (f a).map (F a)) = l.map (fun a => (f a).map (G a))) : ∀ a ∈ l, ∀ b ∈ f a, F a b = G a b := fun a ha => List.map_inj_left.mp (List.map_inj_left.mp h a ha)
theorem chk3 {α β δ γ : Type} {l : List α} {f : α → List β} {g : α → β → List δ} {F G : α → β → δ → γ} (h : l.map (fun a => (f a).map fun b => (g a b).map (F a b)) = l.map (fun a => (f a).map fun b => (g a b).map (G a b))) : ∀ a ∈ l, ∀ b ∈ f a, ∀ c ∈ g a b, F a b c = G a b c :=
  fun a ha b hb => List.map_inj_left.mp (List.map_inj_left.mp (List.map_inj_left.mp h a ha) b hb)
end Pv
end
section
set_option autoImplicit false
set_option linter.all false
set_option maxRecDepth 100000
namespace Pv
open PySem (Str)
def st_0 (n : Nat) : SM := sOwn 6 (pLst (pCons (pVar 0) (pCons (pC (.int 0)) (pCons (pC (.int 7729)) (pCons (pC (.int 0)) (pNil))))))
def st_1 (n : Nat) : SM := sAsgM (mTup (mCons (mCallIO (F_u_law_pick (n + 3)) (.io 6 :: (.x (pLst (pCons (pC (.int 5)) (pCons (pC (.int 7)) (pCons (pC (.int 11)) (pCons (pC (.int 13)) (pNil)))))) :: []))) (mCons (mk2 oAdd (mP (pC (.int 2))) (mCallIO (F_u_law_taken (n + 3)) (.io 6 :: (.x (pC (.int 3)) :: [])))) (mNil)))) (gTuple (gCons (gSet 5) (gCons (gSet 4) (gNil))))
def st_2 (n : Nat) : SM := sAsgM (mCallIO (F_u_law_pick (n + 3)) (.io 6 :: (.x (pLst (pCons (pC .none) (pCons (pC (.int 2)) (pCons (pC (.int 3)) (pCons (pC (.int 4)) (pCons (pC (.int 6)) (pCons (pC (.int 9)) (pCons (pC (.int 17)) (pCons (pC (.bool true)) (pCons (pC (.str (Str.ofString "5"))) (pCons (pTup (pCons (pC (.int 5)) (pNil))) (pCons (p1 oNeg (pC (.int 5))) (pCons (pLst (pNil)) (pNil)))))))))))))) :: []))) (gSet 3)
def st_3 (n : Nat) : SM := sAsg (pLst (pCons (pC (.fn 10 [])) (pCons (pC (.fn 9 [])) (pCons (pC (.fn 8 [])) (pNil))))) (gSet 1)
def st_4 (n : Nat) : SM := sIfM (mtBool (mk2 oNe (mComp [7] (wSeq (pVar 1)) (gSet 7) (mtBool (mk2 oNe (mLerr 7 (Ls n) ES HM CZ) (mP (pC (.str (Str.ofString "BadPrime")))))) (mP (pVar 7))) (mP (pLst (pNil))))) (sRet (pC (.bool false))) (sNext)
def st_5 (n : Nat) : SM := sAsgM (mCallIO (F_u_law_pick (n + 3)) (.io 6 :: (.x (pLst (pCons (pC .none) (pCons (pC (.int 1)) (pCons (pC (.int 5)) (pCons (pC (.bool true)) (pCons (pC (.str (Str.ofString "2"))) (pCons (pTup (pCons (pC (.int 2)) (pNil))) (pCons (pLst (pNil)) (pNil))))))))) :: []))) (gSet 3)
def st_6 (n : Nat) : SM := sAsg (pLst (pCons (pC (.fn 7 [])) (pCons (pC (.fn 6 [])) (pNil)))) (gSet 1)
def st_7 (n : Nat) : SM := sIfM (mtBool (mk2 oNe (mComp [7] (wSeq (pVar 1)) (gSet 7) (mtBool (mk2 oNe (mLerr 7 (Ls n) ES HM CZ) (mP (pC (.str (Str.ofString "BadNumber")))))) (mP (pVar 7))) (mP (pLst (pNil))))) (sRet (pC (.bool false))) (sNext)
def st_8 (n : Nat) : SM := sIfM (mtBool (mk2 oNe (mLerrL (L_5 n) ES HM CZ) (mP (pC (.str (Str.ofString "BadNumber")))))) (sRet (pC (.bool false))) (sNext)
def st_9 (n : Nat) : SM := sAsgM (mCallIO (F_u_law_pick (n + 3)) (.io 6 :: (.x (pLst (pCons (pC .none) (pCons (p1 oNeg (pC (.int 1))) (pCons (pVar 5) (pCons (pC (.bool true)) (pCons (pC (.str (Str.ofString "0"))) (pCons (pTup (pCons (pC (.int 0)) (pNil))) (pCons (pLst (pNil)) (pNil))))))))) :: []))) (gSet 3)
def st_10 (n : Nat) : SM := sIfM (mtBool (mk2 oNe (mLst (mCons (mLerrL (L_4 n) ES HM CZ) (mCons (mLerrL (L_3 n) ES HM CZ) (mNil)))) (mP (p1 (oRepL 2) (pLst (pCons (pC (.str (Str.ofString "BadSecret"))) (pNil))))))) (sRet (pC (.bool false))) (sNext)
def st_11 (n : Nat) : SM := sAsgM (mCallIO (F_u_law_pick (n + 3)) (.io 6 :: (.x (pLst (pCons (pC .none) (pCons (pTup (pNil)) (pCons (p2 oMul (pTup (pCons (pC (.int 0)) (pNil))) (pC (.int 4))) (pCons (pTup (pCons (pVar 5) (pNil))) (pCons (pTup (pCons (p1 oNeg (pC (.int 1))) (pNil))) (pCons (pTup (pCons (pC (.bool true)) (pNil))) (pCons (pLst (pCons (pC (.int 0)) (pNil))) (pCons (pC (.str (Str.ofString "0"))) (pCons (pC (.dict false [])) (pCons (pTup (pCons (pC .none) (pNil))) (pCons (pTup (pCons (pLst (pNil)) (pNil))) (pNil))))))))))))) :: []))) (gSet 3)
def st_12 (n : Nat) : SM := sIfM (mtBool (mk2 oNe (mLerrL (L_2 n) ES HM CZ) (mP (pC (.str (Str.ofString "BadCoins")))))) (sRet (pC (.bool false))) (sNext)
def st_13 (n : Nat) : SM := sAsg (pLst (pCons (pC .none) (pCons (pTup (pNil)) (pCons (p2 oMul (pTup (pCons (pTup (pCons (pC (.int 1)) (pCons (pC (.int 0)) (pNil)))) (pNil))) (pC (.int 2))) (pCons (pTup (pCons (pTup (pCons (pC (.int 2)) (pCons (pC (.int 0)) (pNil)))) (pCons (pTup (pCons (pC (.int 1)) (pCons (pC (.int 0)) (pNil)))) (pNil)))) (pCons (pTup (pCons (pTup (pCons (pC (.int 0)) (pCons (pC (.int 0)) (pNil)))) (pNil))) (pCons (pTup (pCons (pTup (pCons (pVar 5) (pCons (pC (.int 0)) (pNil)))) (pNil))) (pCons (pTup (pCons (pTup (pCons (pC (.int 1)) (pCons (pVar 5) (pNil)))) (pNil))) (pCons (pTup (pCons (pTup (pCons (pC (.int 1)) (pCons (p1 oNeg (pC (.int 1))) (pNil)))) (pNil))) (pCons (pTup (pCons (pTup (pCons (pC (.bool true)) (pCons (pC (.int 0)) (pNil)))) (pNil))) (pCons (pTup (pCons (pTup (pCons (pC (.int 1)) (pCons (pC (.bool true)) (pNil)))) (pNil))) (pCons (pTup (pCons (pTup (pCons (pC (.int 1)) (pCons (pC (.int 0)) (pCons (pC (.int 0)) (pNil))))) (pNil))) (pCons (pTup (pCons (pLst (pCons (pC (.int 1)) (pCons (pC (.int 0)) (pNil)))) (pNil))) (pCons (pLst (pCons (pTup (pCons (pC (.int 1)) (pCons (pC (.int 0)) (pNil)))) (pNil))) (pNil))))))))))))))) (gSet 2)
def st_14 (n : Nat) : SM := sAsg (p2 oAdd (pBor 2) (pLst (pCons (p2 oAdd (pB fTuple (pCons (pComp [8] (wRange (pCons (pC (.int 1)) (pCons (pC (.int 5)) (pNil)))) (gSet 8) (tYes) (pTup (pCons (pVar 8) (pCons (pC (.int 0)) (pNil))))) (pNil))) (pTup (pCons (pTup (pCons (pC (.int 4)) (pCons (pC (.int 0)) (pNil)))) (pNil)))) (pCons (pTup (pCons (pTup (pCons (pC (.int 1)) (pCons (pC .none) (pNil)))) (pNil))) (pCons (pTup (pCons (pTup (pCons (pC .none) (pCons (pC (.int 0)) (pNil)))) (pNil))) (pCons (pC (.str (Str.ofString "10"))) (pCons (pC (.dict false [])) (pCons (pTup (pCons (pTup (pCons (pLst (pNil)) (pCons (pC (.int 0)) (pNil)))) (pNil))) (pCons (pTup (pCons (pTup (pCons (pC (.int 1)) (pCons (pC (.int 0)) (pNil)))) (pCons (pTup (pCons (pC (.int 1)) (pCons (pC (.int 1)) (pNil)))) (pNil)))) (pNil)))))))))) (gSet 2)
def st_15 (n : Nat) : SM := sAsgM (mCallIO (F_u_law_pick (n + 3)) (.io 6 :: (.x (p2 oAdd (pBor 2) (pIf (tBool (p2 oGt (pBor 5) (pC (.int 6)))) (pLst (pCons (pB fTuple (pCons (pComp [8] (wRange (pCons (pC (.int 1)) (pCons (pC (.int 7)) (pNil)))) (gSet 8) (tYes) (pTup (pCons (pVar 8) (pCons (pC (.int 0)) (pNil))))) (pNil))) (pNil))) (pLst (pNil)))) :: []))) (gSet 3)
def st_16 (n : Nat) : SM := sIfM (mtBool (mk2 oNe (mLerrL (L_1 n) ES HM CZ) (mP (pC (.str (Str.ofString "BadPoints")))))) (sRet (pC (.bool false))) (sNext)
def st_17 (n : Nat) : SM := sAsgM (mCallIO (F_u_law_pick (n + 3)) (.io 6 :: (.x (pLst (pCons (pC .none) (pCons (pTup (pNil)) (pCons (pLst (pCons (pC (.int 0)) (pNil))) (pCons (pTup (pCons (pC (.int 1)) (pCons (pC (.int 0)) (pNil)))) (pCons (pTup (pCons (pC (.int 0)) (pCons (pC (.int 0)) (pNil)))) (pCons (pTup (pCons (pVar 4) (pNil))) (pCons (pTup (pCons (p1 oNeg (pC (.int 1))) (pNil))) (pCons (pTup (pCons (pC (.bool true)) (pNil))) (pCons (pC (.str (Str.ofString "0"))) (pCons (pC (.dict false [])) (pCons (pC (.int 0)) (pCons (pTup (pCons (pC .none) (pNil))) (pCons (pTup (pCons (pLst (pNil)) (pNil))) (pNil))))))))))))))) :: []))) (gSet 3)
def st_18 (n : Nat) : SM := sRetM (mk2 oEq (mLerrL (L_0 n) ES HM CZ) (mP (pC (.str (Str.ofString "BadLot")))))
theorem law_is (n : Nat) : m_law n = sSeq (st_0 n) (sSeq (st_1 n) (sSeq (st_2 n) (sSeq (st_3 n) (sSeq (st_4 n) (sSeq (st_5 n) (sSeq (st_6 n) (sSeq (st_7 n) (sSeq (st_8 n) (sSeq (st_9 n) (sSeq (st_10 n) (sSeq (st_11 n) (sSeq (st_12 n) (sSeq (st_13 n) (sSeq (st_14 n) (sSeq (st_15 n) (sSeq (st_16 n) (sSeq (st_17 n) (st_18 n)))))))))))))))))) := rfl
end Pv
end
section
set_option autoImplicit false
set_option linter.all false
set_option maxRecDepth 100000
namespace Pv
open PySem (Str)
theorem start_pm {u row : PV} (ok : RowOk row) {b : SM} (k : ∀ p ∈ [(5 : Int), 7, 11, 13], ∀ m ∈ [(2 : Int), 3, 4], ∀ row', RowOk row' → Run b [.v u, .no, .no, .no, .v (.int m), .v (.int p), .o false row', .no, .no]) :
    Run (sSeq (st_1 57) b) [.v u, .no, .no, .no, .no, .no, .o false row, .no, .no] := by
  obtain ⟨t, ht, row1, h1, ok1⟩ := m_pick (n := 58) (r := 6) (e := [.v u, .no, .no, .no, .no, .no, .o false row, .no, .no]) (c := false) (X := pLst (pCons (pC (.int 5)) (pCons (pC (.int 7)) (pCons (pC (.int 11)) (pCons (pC (.int 13)) (pNil)))))) (ts := [.int 5, .int 7, .int 11, .int 13]) rfl ok rfl (by decide) (by decide)
  obtain ⟨j, row2, h2, j0, j1, ok2⟩ := m_taken (n := 59) (r := 6) (e := [.v u, .no, .no, .no, .no, .no, .o false row1, .no, .no]) (c := false) (X := pC (.int 3)) (many := 3) rfl ok1 rfl (by decide) (by decide)
  obtain ⟨p, hp, rfl⟩ : ∃ p ∈ [(5 : Int), 7, 11, 13], t = .int p := by
    simp only [List.mem_cons, List.not_mem_nil, or_false] at ht
    rcases ht with rfl | rfl | rfl | rfl <;> exact ⟨_, by decide, rfl⟩
  have hj : (2 + j) ∈ [(2 : Int), 3, 4] := by
    have : j = 0 ∨ j = 1 ∨ j = 2 := by omega
    rcases this with rfl | rfl | rfl <;> decide
  refine run_next (e' := [.v u, .no, .no, .no, .v (.int (2 + j)), .v (.int p), .o false row2, .no, .no]) ?_ (k p hp (2 + j) hj row2 ok2)
  simp only [st_1, sAsgM, mTup, bindM, mCons, h1, List.set, mk2, mP, pC, liftR_ok, h2, mOpt, oAdd, oAddI, Option.some_or, mNil, gTuple, gCons, gSet, gNil, Option.bind_some, Option.map_some, ofOpt_some, puts, List.append, List.cons_append, List.nil_append]
/-- the test with the lambda's outcome put in -/
def S8 (r : Rs PV) : SM := sIfM (mtBool (mk2 oNe (fun _ => lerr ES HM CZ r) (mP (pC (.str (Str.ofString "BadNumber")))))) (sRet (pC (.bool false))) sNext
/-- a pick within a lambda -/
theorem st8 {u calls x3 pp mm row : PV} (ok : RowOk row) : ∃ t ∈ [PV.none, .int 0, .int 4, .bool true], ∃ row', RowOk row' ∧
    st_8 57 [.v u, .v calls, .no, .v x3, .v mm, .v pp, .o false row, .no, .no] = S8 (mCall (F_seen 57) (mCons (mP (pC pp)) (mCons (mP (pC mm)) (mCons (mP (pC t)) (mCons (mP (pC .none)) (mCons (mP (pC .none)) mNil))))) [.v u, .v calls, .no, .v x3, .v mm, .v pp, .o false row', .no, .no]) [.v u, .v calls, .no, .v x3, .v mm, .v pp, .o false row', .no, .no] := by
  obtain ⟨t, ht, row1, h1, ok1⟩ := m_pick (n := 55) (r := 6) (e := [.v u, .v calls, .no, .v x3, .v mm, .v pp, .o false row, .no, .no]) (c := false) (X := pLst (pCons (pC .none) (pCons (pC (.int 0)) (pCons (pC (.int 4)) (pCons (pC (.bool true)) (pNil)))))) (ts := [PV.none, .int 0, .int 4, .bool true]) rfl ok rfl (by decide) (by decide)
  refine ⟨t, ht, row1, ok1, ?_⟩
  have e : L_5 57 [.v u, .v calls, .no, .v x3, .v mm, .v pp, .o false row, .no, .no] = mCall (F_seen 57) (mCons (mP (pC pp)) (mCons (mP (pC mm)) (mCons (mP (pC t)) (mCons (mP (pC .none)) (mCons (mP (pC .none)) mNil))))) [.v u, .v calls, .no, .v x3, .v mm, .v pp, .o false row1, .no, .no] := by
    simp only [L_5, mCall, bindM, mCons, mP, pVar, pC, List.getElem?_cons_succ, List.getElem?_cons_zero, liftR_ok, h1, List.set, mNil]
  show S8 (L_5 57 [.v u, .v calls, .no, .v x3, .v mm, .v pp, .o false row, .no, .no]) [.v u, .v calls, .no, .v x3, .v mm, .v pp, .o false row, .no, .no] = _
  rw [e]
  simp only [S8, sIfM, mtBool, mk2, bindM]
def slotL (i : Nat) : Rs Flow → List PV
  | .ok .next e => match e[i]? with
    | some (.v (.list l)) => l
    | _ => []
  | _ => []
def odd13_5_2 : List PV := slotL 2 (st_13 57 [.v .none, .no, .no, .v .none, .v (.int 2), .v (.int 5), .no, .no, .no])
def odd14_5_2 : List PV := slotL 2 (st_14 57 [.v .none, .no, .v (.list odd13_5_2), .v .none, .v (.int 2), .v (.int 5), .no, .no, .no])
def ts15_5_2 : List PV := odd14_5_2 ++ []
theorem tail_5_2 (u row : PV) (ok : RowOk row) : Run (sSeq (st_2 57) (sSeq (st_3 57) (sSeq (st_4 57) (sSeq (st_5 57) (sSeq (st_6 57) (sSeq (st_7 57) (sSeq (st_8 57) (sSeq (st_9 57) (sSeq (st_10 57) (sSeq (st_11 57) (sSeq (st_12 57) (sSeq (st_13 57) (sSeq (st_14 57) (sSeq (st_15 57) (sSeq (st_16 57) (sSeq (st_17 57) (st_18 57))))))))))))))))) [.v u, .no, .no, .no, .v (.int 2), .v (.int 5), .o false row, .no, .no] := by
  refine run_pick (r := 6) (c := false)  rfl ok rfl (by decide +kernel) (by decide +kernel) fun a ha row1 ok1 => ?_
  refine run_next (e' := [.v u, .v (.list [.fn 10 [], .fn 9 [], .fn 8 []]), .no, .v a, .v (.int 2), .v (.int 5), .o false row1, .no, .no]) rfl ?_
  refine run_next (e' := [.v u, .v (.list [.fn 10 [], .fn 9 [], .fn 8 []]), .no, .v a, .v (.int 2), .v (.int 5), .o false row1, .no, .no]) (chk1 (F := fun a => st_4 57 [.v u, .v (.list [.fn 10 [], .fn 9 [], .fn 8 []]), .no, .v a, .v (.int 2), .v (.int 5), .o false row1, .no, .no]) (G := fun a => .ok .next [.v u, .v (.list [.fn 10 [], .fn 9 [], .fn 8 []]), .no, .v a, .v (.int 2), .v (.int 5), .o false row1, .no, .no]) (by kernel_rfl) a ha) ?_
  refine run_pick (r := 6) (c := false)  rfl ok1 rfl (by decide +kernel) (by decide +kernel) fun b hb row2 ok2 => ?_
  refine run_next (e' := [.v u, .v (.list [.fn 7 [], .fn 6 []]), .no, .v b, .v (.int 2), .v (.int 5), .o false row2, .no, .no]) rfl ?_
  refine run_next (e' := [.v u, .v (.list [.fn 7 [], .fn 6 []]), .no, .v b, .v (.int 2), .v (.int 5), .o false row2, .no, .no]) (chk1 (F := fun b => st_7 57 [.v u, .v (.list [.fn 7 [], .fn 6 []]), .no, .v b, .v (.int 2), .v (.int 5), .o false row2, .no, .no]) (G := fun b => .ok .next [.v u, .v (.list [.fn 7 [], .fn 6 []]), .no, .v b, .v (.int 2), .v (.int 5), .o false row2, .no, .no]) (by kernel_rfl) b hb) ?_
  obtain ⟨c, hc, row3, ok3, e8⟩ := st8 (u := u) (calls := .list [.fn 7 [], .fn 6 []]) (x3 := b) (pp := .int 5) (mm := .int 2) ok2
  refine run_next (e' := [.v u, .v (.list [.fn 7 [], .fn 6 []]), .no, .v b, .v (.int 2), .v (.int 5), .o false row3, .no, .no]) (e8.trans (chk1 (F := fun c => S8 (mCall (F_seen 57) (mCons (mP (pC (.int 5))) (mCons (mP (pC (.int 2))) (mCons (mP (pC c)) (mCons (mP (pC .none)) (mCons (mP (pC .none)) mNil))))) [.v u, .v (.list [.fn 7 [], .fn 6 []]), .no, .v b, .v (.int 2), .v (.int 5), .o false row3, .no, .no]) [.v u, .v (.list [.fn 7 [], .fn 6 []]), .no, .v b, .v (.int 2), .v (.int 5), .o false row3, .no, .no]) (G := fun c => .ok .next [.v u, .v (.list [.fn 7 [], .fn 6 []]), .no, .v b, .v (.int 2), .v (.int 5), .o false row3, .no, .no]) (by kernel_rfl) c hc)) ?_
  refine run_pick (r := 6) (c := false)  rfl ok3 rfl (by decide +kernel) (by decide +kernel) fun d hd row4 ok4 => ?_
  refine run_next (e' := [.v u, .v (.list [.fn 7 [], .fn 6 []]), .no, .v d, .v (.int 2), .v (.int 5), .o false row4, .no, .no]) (chk1 (F := fun d => st_10 57 [.v u, .v (.list [.fn 7 [], .fn 6 []]), .no, .v d, .v (.int 2), .v (.int 5), .o false row4, .no, .no]) (G := fun d => .ok .next [.v u, .v (.list [.fn 7 [], .fn 6 []]), .no, .v d, .v (.int 2), .v (.int 5), .o false row4, .no, .no]) (by kernel_rfl) d hd) ?_
  refine run_pick (r := 6) (c := false)  rfl ok4 rfl (by decide +kernel) (by decide +kernel) fun f hf row5 ok5 => ?_
  refine run_next (e' := [.v u, .v (.list [.fn 7 [], .fn 6 []]), .no, .v f, .v (.int 2), .v (.int 5), .o false row5, .no, .no]) (chk1 (F := fun f => st_12 57 [.v u, .v (.list [.fn 7 [], .fn 6 []]), .no, .v f, .v (.int 2), .v (.int 5), .o false row5, .no, .no]) (G := fun f => .ok .next [.v u, .v (.list [.fn 7 [], .fn 6 []]), .no, .v f, .v (.int 2), .v (.int 5), .o false row5, .no, .no]) (by kernel_rfl) f hf) ?_
  refine run_next (e' := [.v u, .v (.list [.fn 7 [], .fn 6 []]), .v (.list odd13_5_2), .v f, .v (.int 2), .v (.int 5), .o false row5, .no, .no]) (by kernel_rfl) ?_
  refine run_next (e' := [.v u, .v (.list [.fn 7 [], .fn 6 []]), .v (.list odd14_5_2), .v f, .v (.int 2), .v (.int 5), .o false row5, .no, .no]) (by kernel_rfl) ?_
  refine run_pick (r := 6) (c := false) (ts := ts15_5_2) rfl ok5 (by kernel_rfl) (by decide +kernel) (by decide +kernel) fun g hg row6 ok6 => ?_
  refine run_next (e' := [.v u, .v (.list [.fn 7 [], .fn 6 []]), .v (.list odd14_5_2), .v g, .v (.int 2), .v (.int 5), .o false row6, .no, .no]) (chk1 (F := fun g => st_16 57 [.v u, .v (.list [.fn 7 [], .fn 6 []]), .v (.list odd14_5_2), .v g, .v (.int 2), .v (.int 5), .o false row6, .no, .no]) (G := fun g => .ok .next [.v u, .v (.list [.fn 7 [], .fn 6 []]), .v (.list odd14_5_2), .v g, .v (.int 2), .v (.int 5), .o false row6, .no, .no]) (by kernel_rfl) g hg) ?_
  refine run_pick (r := 6) (c := false)  rfl ok6 rfl (by decide +kernel) (by decide +kernel) fun k hk row7 ok7 => ?_
  exact ⟨_, chk1 (F := fun k => st_18 57 [.v u, .v (.list [.fn 7 [], .fn 6 []]), .v (.list odd14_5_2), .v k, .v (.int 2), .v (.int 5), .o false row7, .no, .no]) (G := fun k => .ok (.ret (.bool true)) [.v u, .v (.list [.fn 7 [], .fn 6 []]), .v (.list odd14_5_2), .v k, .v (.int 2), .v (.int 5), .o false row7, .no, .no]) (by kernel_rfl) k hk⟩
def odd13_5_3 : List PV := slotL 2 (st_13 57 [.v .none, .no, .no, .v .none, .v (.int 3), .v (.int 5), .no, .no, .no])
def odd14_5_3 : List PV := slotL 2 (st_14 57 [.v .none, .no, .v (.list odd13_5_3), .v .none, .v (.int 3), .v (.int 5), .no, .no, .no])
def ts15_5_3 : List PV := odd14_5_3 ++ []
theorem tail_5_3 (u row : PV) (ok : RowOk row) : Run (sSeq (st_2 57) (sSeq (st_3 57) (sSeq (st_4 57) (sSeq (st_5 57) (sSeq (st_6 57) (sSeq (st_7 57) (sSeq (st_8 57) (sSeq (st_9 57) (sSeq (st_10 57) (sSeq (st_11 57) (sSeq (st_12 57) (sSeq (st_13 57) (sSeq (st_14 57) (sSeq (st_15 57) (sSeq (st_16 57) (sSeq (st_17 57) (st_18 57))))))))))))))))) [.v u, .no, .no, .no, .v (.int 3), .v (.int 5), .o false row, .no, .no] := by
  refine run_pick (r := 6) (c := false)  rfl ok rfl (by decide +kernel) (by decide +kernel) fun a ha row1 ok1 => ?_
  refine run_next (e' := [.v u, .v (.list [.fn 10 [], .fn 9 [], .fn 8 []]), .no, .v a, .v (.int 3), .v (.int 5), .o false row1, .no, .no]) rfl ?_
  refine run_next (e' := [.v u, .v (.list [.fn 10 [], .fn 9 [], .fn 8 []]), .no, .v a, .v (.int 3), .v (.int 5), .o false row1, .no, .no]) (chk1 (F := fun a => st_4 57 [.v u, .v (.list [.fn 10 [], .fn 9 [], .fn 8 []]), .no, .v a, .v (.int 3), .v (.int 5), .o false row1, .no, .no]) (G := fun a => .ok .next [.v u, .v (.list [.fn 10 [], .fn 9 [], .fn 8 []]), .no, .v a, .v (.int 3), .v (.int 5), .o false row1, .no, .no]) (by kernel_rfl) a ha) ?_
  refine run_pick (r := 6) (c := false)  rfl ok1 rfl (by decide +kernel) (by decide +kernel) fun b hb row2 ok2 => ?_
  refine run_next (e' := [.v u, .v (.list [.fn 7 [], .fn 6 []]), .no, .v b, .v (.int 3), .v (.int 5), .o false row2, .no, .no]) rfl ?_
  refine run_next (e' := [.v u, .v (.list [.fn 7 [], .fn 6 []]), .no, .v b, .v (.int 3), .v (.int 5), .o false row2, .no, .no]) (chk1 (F := fun b => st_7 57 [.v u, .v (.list [.fn 7 [], .fn 6 []]), .no, .v b, .v (.int 3), .v (.int 5), .o false row2, .no, .no]) (G := fun b => .ok .next [.v u, .v (.list [.fn 7 [], .fn 6 []]), .no, .v b, .v (.int 3), .v (.int 5), .o false row2, .no, .no]) (by kernel_rfl) b hb) ?_
  obtain ⟨c, hc, row3, ok3, e8⟩ := st8 (u := u) (calls := .list [.fn 7 [], .fn 6 []]) (x3 := b) (pp := .int 5) (mm := .int 3) ok2
  refine run_next (e' := [.v u, .v (.list [.fn 7 [], .fn 6 []]), .no, .v b, .v (.int 3), .v (.int 5), .o false row3, .no, .no]) (e8.trans (chk1 (F := fun c => S8 (mCall (F_seen 57) (mCons (mP (pC (.int 5))) (mCons (mP (pC (.int 3))) (mCons (mP (pC c)) (mCons (mP (pC .none)) (mCons (mP (pC .none)) mNil))))) [.v u, .v (.list [.fn 7 [], .fn 6 []]), .no, .v b, .v (.int 3), .v (.int 5), .o false row3, .no, .no]) [.v u, .v (.list [.fn 7 [], .fn 6 []]), .no, .v b, .v (.int 3), .v (.int 5), .o false row3, .no, .no]) (G := fun c => .ok .next [.v u, .v (.list [.fn 7 [], .fn 6 []]), .no, .v b, .v (.int 3), .v (.int 5), .o false row3, .no, .no]) (by kernel_rfl) c hc)) ?_
  refine run_pick (r := 6) (c := false)  rfl ok3 rfl (by decide +kernel) (by decide +kernel) fun d hd row4 ok4 => ?_
  refine run_next (e' := [.v u, .v (.list [.fn 7 [], .fn 6 []]), .no, .v d, .v (.int 3), .v (.int 5), .o false row4, .no, .no]) (chk1 (F := fun d => st_10 57 [.v u, .v (.list [.fn 7 [], .fn 6 []]), .no, .v d, .v (.int 3), .v (.int 5), .o false row4, .no, .no]) (G := fun d => .ok .next [.v u, .v (.list [.fn 7 [], .fn 6 []]), .no, .v d, .v (.int 3), .v (.int 5), .o false row4, .no, .no]) (by kernel_rfl) d hd) ?_
  refine run_pick (r := 6) (c := false)  rfl ok4 rfl (by decide +kernel) (by decide +kernel) fun f hf row5 ok5 => ?_
  refine run_next (e' := [.v u, .v (.list [.fn 7 [], .fn 6 []]), .no, .v f, .v (.int 3), .v (.int 5), .o false row5, .no, .no]) (chk1 (F := fun f => st_12 57 [.v u, .v (.list [.fn 7 [], .fn 6 []]), .no, .v f, .v (.int 3), .v (.int 5), .o false row5, .no, .no]) (G := fun f => .ok .next [.v u, .v (.list [.fn 7 [], .fn 6 []]), .no, .v f, .v (.int 3), .v (.int 5), .o false row5, .no, .no]) (by kernel_rfl) f hf) ?_
  refine run_next (e' := [.v u, .v (.list [.fn 7 [], .fn 6 []]), .v (.list odd13_5_3), .v f, .v (.int 3), .v (.int 5), .o false row5, .no, .no]) (by kernel_rfl) ?_
  refine run_next (e' := [.v u, .v (.list [.fn 7 [], .fn 6 []]), .v (.list odd14_5_3), .v f, .v (.int 3), .v (.int 5), .o false row5, .no, .no]) (by kernel_rfl) ?_
  refine run_pick (r := 6) (c := false) (ts := ts15_5_3) rfl ok5 (by kernel_rfl) (by decide +kernel) (by decide +kernel) fun g hg row6 ok6 => ?_
  refine run_next (e' := [.v u, .v (.list [.fn 7 [], .fn 6 []]), .v (.list odd14_5_3), .v g, .v (.int 3), .v (.int 5), .o false row6, .no, .no]) (chk1 (F := fun g => st_16 57 [.v u, .v (.list [.fn 7 [], .fn 6 []]), .v (.list odd14_5_3), .v g, .v (.int 3), .v (.int 5), .o false row6, .no, .no]) (G := fun g => .ok .next [.v u, .v (.list [.fn 7 [], .fn 6 []]), .v (.list odd14_5_3), .v g, .v (.int 3), .v (.int 5), .o false row6, .no, .no]) (by kernel_rfl) g hg) ?_
  refine run_pick (r := 6) (c := false)  rfl ok6 rfl (by decide +kernel) (by decide +kernel) fun k hk row7 ok7 => ?_
  exact ⟨_, chk1 (F := fun k => st_18 57 [.v u, .v (.list [.fn 7 [], .fn 6 []]), .v (.list odd14_5_3), .v k, .v (.int 3), .v (.int 5), .o false row7, .no, .no]) (G := fun k => .ok (.ret (.bool true)) [.v u, .v (.list [.fn 7 [], .fn 6 []]), .v (.list odd14_5_3), .v k, .v (.int 3), .v (.int 5), .o false row7, .no, .no]) (by kernel_rfl) k hk⟩
def odd13_5_4 : List PV := slotL 2 (st_13 57 [.v .none, .no, .no, .v .none, .v (.int 4), .v (.int 5), .no, .no, .no])
def odd14_5_4 : List PV := slotL 2 (st_14 57 [.v .none, .no, .v (.list odd13_5_4), .v .none, .v (.int 4), .v (.int 5), .no, .no, .no])
def ts15_5_4 : List PV := odd14_5_4 ++ []
theorem tail_5_4 (u row : PV) (ok : RowOk row) : Run (sSeq (st_2 57) (sSeq (st_3 57) (sSeq (st_4 57) (sSeq (st_5 57) (sSeq (st_6 57) (sSeq (st_7 57) (sSeq (st_8 57) (sSeq (st_9 57) (sSeq (st_10 57) (sSeq (st_11 57) (sSeq (st_12 57) (sSeq (st_13 57) (sSeq (st_14 57) (sSeq (st_15 57) (sSeq (st_16 57) (sSeq (st_17 57) (st_18 57))))))))))))))))) [.v u, .no, .no, .no, .v (.int 4), .v (.int 5), .o false row, .no, .no] := by
  refine run_pick (r := 6) (c := false)  rfl ok rfl (by decide +kernel) (by decide +kernel) fun a ha row1 ok1 => ?_
  refine run_next (e' := [.v u, .v (.list [.fn 10 [], .fn 9 [], .fn 8 []]), .no, .v a, .v (.int 4), .v (.int 5), .o false row1, .no, .no]) rfl ?_
  refine run_next (e' := [.v u, .v (.list [.fn 10 [], .fn 9 [], .fn 8 []]), .no, .v a, .v (.int 4), .v (.int 5), .o false row1, .no, .no]) (chk1 (F := fun a => st_4 57 [.v u, .v (.list [.fn 10 [], .fn 9 [], .fn 8 []]), .no, .v a, .v (.int 4), .v (.int 5), .o false row1, .no, .no]) (G := fun a => .ok .next [.v u, .v (.list [.fn 10 [], .fn 9 [], .fn 8 []]), .no, .v a, .v (.int 4), .v (.int 5), .o false row1, .no, .no]) (by kernel_rfl) a ha) ?_
  refine run_pick (r := 6) (c := false)  rfl ok1 rfl (by decide +kernel) (by decide +kernel) fun b hb row2 ok2 => ?_
  refine run_next (e' := [.v u, .v (.list [.fn 7 [], .fn 6 []]), .no, .v b, .v (.int 4), .v (.int 5), .o false row2, .no, .no]) rfl ?_
  refine run_next (e' := [.v u, .v (.list [.fn 7 [], .fn 6 []]), .no, .v b, .v (.int 4), .v (.int 5), .o false row2, .no, .no]) (chk1 (F := fun b => st_7 57 [.v u, .v (.list [.fn 7 [], .fn 6 []]), .no, .v b, .v (.int 4), .v (.int 5), .o false row2, .no, .no]) (G := fun b => .ok .next [.v u, .v (.list [.fn 7 [], .fn 6 []]), .no, .v b, .v (.int 4), .v (.int 5), .o false row2, .no, .no]) (by kernel_rfl) b hb) ?_
  obtain ⟨c, hc, row3, ok3, e8⟩ := st8 (u := u) (calls := .list [.fn 7 [], .fn 6 []]) (x3 := b) (pp := .int 5) (mm := .int 4) ok2
  refine run_next (e' := [.v u, .v (.list [.fn 7 [], .fn 6 []]), .no, .v b, .v (.int 4), .v (.int 5), .o false row3, .no, .no]) (e8.trans (chk1 (F := fun c => S8 (mCall (F_seen 57) (mCons (mP (pC (.int 5))) (mCons (mP (pC (.int 4))) (mCons (mP (pC c)) (mCons (mP (pC .none)) (mCons (mP (pC .none)) mNil))))) [.v u, .v (.list [.fn 7 [], .fn 6 []]), .no, .v b, .v (.int 4), .v (.int 5), .o false row3, .no, .no]) [.v u, .v (.list [.fn 7 [], .fn 6 []]), .no, .v b, .v (.int 4), .v (.int 5), .o false row3, .no, .no]) (G := fun c => .ok .next [.v u, .v (.list [.fn 7 [], .fn 6 []]), .no, .v b, .v (.int 4), .v (.int 5), .o false row3, .no, .no]) (by kernel_rfl) c hc)) ?_
  refine run_pick (r := 6) (c := false)  rfl ok3 rfl (by decide +kernel) (by decide +kernel) fun d hd row4 ok4 => ?_
  refine run_next (e' := [.v u, .v (.list [.fn 7 [], .fn 6 []]), .no, .v d, .v (.int 4), .v (.int 5), .o false row4, .no, .no]) (chk1 (F := fun d => st_10 57 [.v u, .v (.list [.fn 7 [], .fn 6 []]), .no, .v d, .v (.int 4), .v (.int 5), .o false row4, .no, .no]) (G := fun d => .ok .next [.v u, .v (.list [.fn 7 [], .fn 6 []]), .no, .v d, .v (.int 4), .v (.int 5), .o false row4, .no, .no]) (by kernel_rfl) d hd) ?_
  refine run_pick (r := 6) (c := false)  rfl ok4 rfl (by decide +kernel) (by decide +kernel) fun f hf row5 ok5 => ?_
  refine run_next (e' := [.v u, .v (.list [.fn 7 [], .fn 6 []]), .no, .v f, .v (.int 4), .v (.int 5), .o false row5, .no, .no]) (chk1 (F := fun f => st_12 57 [.v u, .v (.list [.fn 7 [], .fn 6 []]), .no, .v f, .v (.int 4), .v (.int 5), .o false row5, .no, .no]) (G := fun f => .ok .next [.v u, .v (.list [.fn 7 [], .fn 6 []]), .no, .v f, .v (.int 4), .v (.int 5), .o false row5, .no, .no]) (by kernel_rfl) f hf) ?_
  refine run_next (e' := [.v u, .v (.list [.fn 7 [], .fn 6 []]), .v (.list odd13_5_4), .v f, .v (.int 4), .v (.int 5), .o false row5, .no, .no]) (by kernel_rfl) ?_
  refine run_next (e' := [.v u, .v (.list [.fn 7 [], .fn 6 []]), .v (.list odd14_5_4), .v f, .v (.int 4), .v (.int 5), .o false row5, .no, .no]) (by kernel_rfl) ?_
  refine run_pick (r := 6) (c := false) (ts := ts15_5_4) rfl ok5 (by kernel_rfl) (by decide +kernel) (by decide +kernel) fun g hg row6 ok6 => ?_
  refine run_next (e' := [.v u, .v (.list [.fn 7 [], .fn 6 []]), .v (.list odd14_5_4), .v g, .v (.int 4), .v (.int 5), .o false row6, .no, .no]) (chk1 (F := fun g => st_16 57 [.v u, .v (.list [.fn 7 [], .fn 6 []]), .v (.list odd14_5_4), .v g, .v (.int 4), .v (.int 5), .o false row6, .no, .no]) (G := fun g => .ok .next [.v u, .v (.list [.fn 7 [], .fn 6 []]), .v (.list odd14_5_4), .v g, .v (.int 4), .v (.int 5), .o false row6, .no, .no]) (by kernel_rfl) g hg) ?_
  refine run_pick (r := 6) (c := false)  rfl ok6 rfl (by decide +kernel) (by decide +kernel) fun k hk row7 ok7 => ?_
  exact ⟨_, chk1 (F := fun k => st_18 57 [.v u, .v (.list [.fn 7 [], .fn 6 []]), .v (.list odd14_5_4), .v k, .v (.int 4), .v (.int 5), .o false row7, .no, .no]) (G := fun k => .ok (.ret (.bool true)) [.v u, .v (.list [.fn 7 [], .fn 6 []]), .v (.list odd14_5_4), .v k, .v (.int 4), .v (.int 5), .o false row7, .no, .no]) (by kernel_rfl) k hk⟩
def odd13_7_2 : List PV := slotL 2 (st_13 57 [.v .none, .no, .no, .v .none, .v (.int 2), .v (.int 7), .no, .no, .no])
def odd14_7_2 : List PV := slotL 2 (st_14 57 [.v .none, .no, .v (.list odd13_7_2), .v .none, .v (.int 2), .v (.int 7), .no, .no, .no])
def ts15_7_2 : List PV := odd14_7_2 ++ [.tuple [.tuple [.int 1, .int 0], .tuple [.int 2, .int 0], .tuple [.int 3, .int 0], .tuple [.int 4, .int 0], .tuple [.int 5, .int 0], .tuple [.int 6, .int 0]]]
theorem tail_7_2 (u row : PV) (ok : RowOk row) : Run (sSeq (st_2 57) (sSeq (st_3 57) (sSeq (st_4 57) (sSeq (st_5 57) (sSeq (st_6 57) (sSeq (st_7 57) (sSeq (st_8 57) (sSeq (st_9 57) (sSeq (st_10 57) (sSeq (st_11 57) (sSeq (st_12 57) (sSeq (st_13 57) (sSeq (st_14 57) (sSeq (st_15 57) (sSeq (st_16 57) (sSeq (st_17 57) (st_18 57))))))))))))))))) [.v u, .no, .no, .no, .v (.int 2), .v (.int 7), .o false row, .no, .no] := by
  refine run_pick (r := 6) (c := false)  rfl ok rfl (by decide +kernel) (by decide +kernel) fun a ha row1 ok1 => ?_
  refine run_next (e' := [.v u, .v (.list [.fn 10 [], .fn 9 [], .fn 8 []]), .no, .v a, .v (.int 2), .v (.int 7), .o false row1, .no, .no]) rfl ?_
  refine run_next (e' := [.v u, .v (.list [.fn 10 [], .fn 9 [], .fn 8 []]), .no, .v a, .v (.int 2), .v (.int 7), .o false row1, .no, .no]) (chk1 (F := fun a => st_4 57 [.v u, .v (.list [.fn 10 [], .fn 9 [], .fn 8 []]), .no, .v a, .v (.int 2), .v (.int 7), .o false row1, .no, .no]) (G := fun a => .ok .next [.v u, .v (.list [.fn 10 [], .fn 9 [], .fn 8 []]), .no, .v a, .v (.int 2), .v (.int 7), .o false row1, .no, .no]) (by kernel_rfl) a ha) ?_
  refine run_pick (r := 6) (c := false)  rfl ok1 rfl (by decide +kernel) (by decide +kernel) fun b hb row2 ok2 => ?_
  refine run_next (e' := [.v u, .v (.list [.fn 7 [], .fn 6 []]), .no, .v b, .v (.int 2), .v (.int 7), .o false row2, .no, .no]) rfl ?_
  refine run_next (e' := [.v u, .v (.list [.fn 7 [], .fn 6 []]), .no, .v b, .v (.int 2), .v (.int 7), .o false row2, .no, .no]) (chk1 (F := fun b => st_7 57 [.v u, .v (.list [.fn 7 [], .fn 6 []]), .no, .v b, .v (.int 2), .v (.int 7), .o false row2, .no, .no]) (G := fun b => .ok .next [.v u, .v (.list [.fn 7 [], .fn 6 []]), .no, .v b, .v (.int 2), .v (.int 7), .o false row2, .no, .no]) (by kernel_rfl) b hb) ?_
  obtain ⟨c, hc, row3, ok3, e8⟩ := st8 (u := u) (calls := .list [.fn 7 [], .fn 6 []]) (x3 := b) (pp := .int 7) (mm := .int 2) ok2
  refine run_next (e' := [.v u, .v (.list [.fn 7 [], .fn 6 []]), .no, .v b, .v (.int 2), .v (.int 7), .o false row3, .no, .no]) (e8.trans (chk1 (F := fun c => S8 (mCall (F_seen 57) (mCons (mP (pC (.int 7))) (mCons (mP (pC (.int 2))) (mCons (mP (pC c)) (mCons (mP (pC .none)) (mCons (mP (pC .none)) mNil))))) [.v u, .v (.list [.fn 7 [], .fn 6 []]), .no, .v b, .v (.int 2), .v (.int 7), .o false row3, .no, .no]) [.v u, .v (.list [.fn 7 [], .fn 6 []]), .no, .v b, .v (.int 2), .v (.int 7), .o false row3, .no, .no]) (G := fun c => .ok .next [.v u, .v (.list [.fn 7 [], .fn 6 []]), .no, .v b, .v (.int 2), .v (.int 7), .o false row3, .no, .no]) (by kernel_rfl) c hc)) ?_
  refine run_pick (r := 6) (c := false)  rfl ok3 rfl (by decide +kernel) (by decide +kernel) fun d hd row4 ok4 => ?_
  refine run_next (e' := [.v u, .v (.list [.fn 7 [], .fn 6 []]), .no, .v d, .v (.int 2), .v (.int 7), .o false row4, .no, .no]) (chk1 (F := fun d => st_10 57 [.v u, .v (.list [.fn 7 [], .fn 6 []]), .no, .v d, .v (.int 2), .v (.int 7), .o false row4, .no, .no]) (G := fun d => .ok .next [.v u, .v (.list [.fn 7 [], .fn 6 []]), .no, .v d, .v (.int 2), .v (.int 7), .o false row4, .no, .no]) (by kernel_rfl) d hd) ?_
  refine run_pick (r := 6) (c := false)  rfl ok4 rfl (by decide +kernel) (by decide +kernel) fun f hf row5 ok5 => ?_
  refine run_next (e' := [.v u, .v (.list [.fn 7 [], .fn 6 []]), .no, .v f, .v (.int 2), .v (.int 7), .o false row5, .no, .no]) (chk1 (F := fun f => st_12 57 [.v u, .v (.list [.fn 7 [], .fn 6 []]), .no, .v f, .v (.int 2), .v (.int 7), .o false row5, .no, .no]) (G := fun f => .ok .next [.v u, .v (.list [.fn 7 [], .fn 6 []]), .no, .v f, .v (.int 2), .v (.int 7), .o false row5, .no, .no]) (by kernel_rfl) f hf) ?_
  refine run_next (e' := [.v u, .v (.list [.fn 7 [], .fn 6 []]), .v (.list odd13_7_2), .v f, .v (.int 2), .v (.int 7), .o false row5, .no, .no]) (by kernel_rfl) ?_
  refine run_next (e' := [.v u, .v (.list [.fn 7 [], .fn 6 []]), .v (.list odd14_7_2), .v f, .v (.int 2), .v (.int 7), .o false row5, .no, .no]) (by kernel_rfl) ?_
  refine run_pick (r := 6) (c := false) (ts := ts15_7_2) rfl ok5 (by kernel_rfl) (by decide +kernel) (by decide +kernel) fun g hg row6 ok6 => ?_
  refine run_next (e' := [.v u, .v (.list [.fn 7 [], .fn 6 []]), .v (.list odd14_7_2), .v g, .v (.int 2), .v (.int 7), .o false row6, .no, .no]) (chk1 (F := fun g => st_16 57 [.v u, .v (.list [.fn 7 [], .fn 6 []]), .v (.list odd14_7_2), .v g, .v (.int 2), .v (.int 7), .o false row6, .no, .no]) (G := fun g => .ok .next [.v u, .v (.list [.fn 7 [], .fn 6 []]), .v (.list odd14_7_2), .v g, .v (.int 2), .v (.int 7), .o false row6, .no, .no]) (by kernel_rfl) g hg) ?_
  refine run_pick (r := 6) (c := false)  rfl ok6 rfl (by decide +kernel) (by decide +kernel) fun k hk row7 ok7 => ?_
  exact ⟨_, chk1 (F := fun k => st_18 57 [.v u, .v (.list [.fn 7 [], .fn 6 []]), .v (.list odd14_7_2), .v k, .v (.int 2), .v (.int 7), .o false row7, .no, .no]) (G := fun k => .ok (.ret (.bool true)) [.v u, .v (.list [.fn 7 [], .fn 6 []]), .v (.list odd14_7_2), .v k, .v (.int 2), .v (.int 7), .o false row7, .no, .no]) (by kernel_rfl) k hk⟩
def odd13_7_3 : List PV := slotL 2 (st_13 57 [.v .none, .no, .no, .v .none, .v (.int 3), .v (.int 7), .no, .no, .no])
def odd14_7_3 : List PV := slotL 2 (st_14 57 [.v .none, .no, .v (.list odd13_7_3), .v .none, .v (.int 3), .v (.int 7), .no, .no, .no])
def ts15_7_3 : List PV := odd14_7_3 ++ [.tuple [.tuple [.int 1, .int 0], .tuple [.int 2, .int 0], .tuple [.int 3, .int 0], .tuple [.int 4, .int 0], .tuple [.int 5, .int 0], .tuple [.int 6, .int 0]]]
theorem tail_7_3 (u row : PV) (ok : RowOk row) : Run (sSeq (st_2 57) (sSeq (st_3 57) (sSeq (st_4 57) (sSeq (st_5 57) (sSeq (st_6 57) (sSeq (st_7 57) (sSeq (st_8 57) (sSeq (st_9 57) (sSeq (st_10 57) (sSeq (st_11 57) (sSeq (st_12 57) (sSeq (st_13 57) (sSeq (st_14 57) (sSeq (st_15 57) (sSeq (st_16 57) (sSeq (st_17 57) (st_18 57))))))))))))))))) [.v u, .no, .no, .no, .v (.int 3), .v (.int 7), .o false row, .no, .no] := by
  refine run_pick (r := 6) (c := false)  rfl ok rfl (by decide +kernel) (by decide +kernel) fun a ha row1 ok1 => ?_
  refine run_next (e' := [.v u, .v (.list [.fn 10 [], .fn 9 [], .fn 8 []]), .no, .v a, .v (.int 3), .v (.int 7), .o false row1, .no, .no]) rfl ?_
  refine run_next (e' := [.v u, .v (.list [.fn 10 [], .fn 9 [], .fn 8 []]), .no, .v a, .v (.int 3), .v (.int 7), .o false row1, .no, .no]) (chk1 (F := fun a => st_4 57 [.v u, .v (.list [.fn 10 [], .fn 9 [], .fn 8 []]), .no, .v a, .v (.int 3), .v (.int 7), .o false row1, .no, .no]) (G := fun a => .ok .next [.v u, .v (.list [.fn 10 [], .fn 9 [], .fn 8 []]), .no, .v a, .v (.int 3), .v (.int 7), .o false row1, .no, .no]) (by kernel_rfl) a ha) ?_
  refine run_pick (r := 6) (c := false)  rfl ok1 rfl (by decide +kernel) (by decide +kernel) fun b hb row2 ok2 => ?_
  refine run_next (e' := [.v u, .v (.list [.fn 7 [], .fn 6 []]), .no, .v b, .v (.int 3), .v (.int 7), .o false row2, .no, .no]) rfl ?_
  refine run_next (e' := [.v u, .v (.list [.fn 7 [], .fn 6 []]), .no, .v b, .v (.int 3), .v (.int 7), .o false row2, .no, .no]) (chk1 (F := fun b => st_7 57 [.v u, .v (.list [.fn 7 [], .fn 6 []]), .no, .v b, .v (.int 3), .v (.int 7), .o false row2, .no, .no]) (G := fun b => .ok .next [.v u, .v (.list [.fn 7 [], .fn 6 []]), .no, .v b, .v (.int 3), .v (.int 7), .o false row2, .no, .no]) (by kernel_rfl) b hb) ?_
  obtain ⟨c, hc, row3, ok3, e8⟩ := st8 (u := u) (calls := .list [.fn 7 [], .fn 6 []]) (x3 := b) (pp := .int 7) (mm := .int 3) ok2
  refine run_next (e' := [.v u, .v (.list [.fn 7 [], .fn 6 []]), .no, .v b, .v (.int 3), .v (.int 7), .o false row3, .no, .no]) (e8.trans (chk1 (F := fun c => S8 (mCall (F_seen 57) (mCons (mP (pC (.int 7))) (mCons (mP (pC (.int 3))) (mCons (mP (pC c)) (mCons (mP (pC .none)) (mCons (mP (pC .none)) mNil))))) [.v u, .v (.list [.fn 7 [], .fn 6 []]), .no, .v b, .v (.int 3), .v (.int 7), .o false row3, .no, .no]) [.v u, .v (.list [.fn 7 [], .fn 6 []]), .no, .v b, .v (.int 3), .v (.int 7), .o false row3, .no, .no]) (G := fun c => .ok .next [.v u, .v (.list [.fn 7 [], .fn 6 []]), .no, .v b, .v (.int 3), .v (.int 7), .o false row3, .no, .no]) (by kernel_rfl) c hc)) ?_
  refine run_pick (r := 6) (c := false)  rfl ok3 rfl (by decide +kernel) (by decide +kernel) fun d hd row4 ok4 => ?_
  refine run_next (e' := [.v u, .v (.list [.fn 7 [], .fn 6 []]), .no, .v d, .v (.int 3), .v (.int 7), .o false row4, .no, .no]) (chk1 (F := fun d => st_10 57 [.v u, .v (.list [.fn 7 [], .fn 6 []]), .no, .v d, .v (.int 3), .v (.int 7), .o false row4, .no, .no]) (G := fun d => .ok .next [.v u, .v (.list [.fn 7 [], .fn 6 []]), .no, .v d, .v (.int 3), .v (.int 7), .o false row4, .no, .no]) (by kernel_rfl) d hd) ?_
  refine run_pick (r := 6) (c := false)  rfl ok4 rfl (by decide +kernel) (by decide +kernel) fun f hf row5 ok5 => ?_
  refine run_next (e' := [.v u, .v (.list [.fn 7 [], .fn 6 []]), .no, .v f, .v (.int 3), .v (.int 7), .o false row5, .no, .no]) (chk1 (F := fun f => st_12 57 [.v u, .v (.list [.fn 7 [], .fn 6 []]), .no, .v f, .v (.int 3), .v (.int 7), .o false row5, .no, .no]) (G := fun f => .ok .next [.v u, .v (.list [.fn 7 [], .fn 6 []]), .no, .v f, .v (.int 3), .v (.int 7), .o false row5, .no, .no]) (by kernel_rfl) f hf) ?_
  refine run_next (e' := [.v u, .v (.list [.fn 7 [], .fn 6 []]), .v (.list odd13_7_3), .v f, .v (.int 3), .v (.int 7), .o false row5, .no, .no]) (by kernel_rfl) ?_
  refine run_next (e' := [.v u, .v (.list [.fn 7 [], .fn 6 []]), .v (.list odd14_7_3), .v f, .v (.int 3), .v (.int 7), .o false row5, .no, .no]) (by kernel_rfl) ?_
  refine run_pick (r := 6) (c := false) (ts := ts15_7_3) rfl ok5 (by kernel_rfl) (by decide +kernel) (by decide +kernel) fun g hg row6 ok6 => ?_
  refine run_next (e' := [.v u, .v (.list [.fn 7 [], .fn 6 []]), .v (.list odd14_7_3), .v g, .v (.int 3), .v (.int 7), .o false row6, .no, .no]) (chk1 (F := fun g => st_16 57 [.v u, .v (.list [.fn 7 [], .fn 6 []]), .v (.list odd14_7_3), .v g, .v (.int 3), .v (.int 7), .o false row6, .no, .no]) (G := fun g => .ok .next [.v u, .v (.list [.fn 7 [], .fn 6 []]), .v (.list odd14_7_3), .v g, .v (.int 3), .v (.int 7), .o false row6, .no, .no]) (by kernel_rfl) g hg) ?_
  refine run_pick (r := 6) (c := false)  rfl ok6 rfl (by decide +kernel) (by decide +kernel) fun k hk row7 ok7 => ?_
  exact ⟨_, chk1 (F := fun k => st_18 57 [.v u, .v (.list [.fn 7 [], .fn 6 []]), .v (.list odd14_7_3), .v k, .v (.int 3), .v (.int 7), .o false row7, .no, .no]) (G := fun k => .ok (.ret (.bool true)) [.v u, .v (.list [.fn 7 [], .fn 6 []]), .v (.list odd14_7_3), .v k, .v (.int 3), .v (.int 7), .o false row7, .no, .no]) (by kernel_rfl) k hk⟩
def odd13_7_4 : List PV := slotL 2 (st_13 57 [.v .none, .no, .no, .v .none, .v (.int 4), .v (.int 7), .no, .no, .no])
def odd14_7_4 : List PV := slotL 2 (st_14 57 [.v .none, .no, .v (.list odd13_7_4), .v .none, .v (.int 4), .v (.int 7), .no, .no, .no])
def ts15_7_4 : List PV := odd14_7_4 ++ [.tuple [.tuple [.int 1, .int 0], .tuple [.int 2, .int 0], .tuple [.int 3, .int 0], .tuple [.int 4, .int 0], .tuple [.int 5, .int 0], .tuple [.int 6, .int 0]]]
theorem tail_7_4 (u row : PV) (ok : RowOk row) : Run (sSeq (st_2 57) (sSeq (st_3 57) (sSeq (st_4 57) (sSeq (st_5 57) (sSeq (st_6 57) (sSeq (st_7 57) (sSeq (st_8 57) (sSeq (st_9 57) (sSeq (st_10 57) (sSeq (st_11 57) (sSeq (st_12 57) (sSeq (st_13 57) (sSeq (st_14 57) (sSeq (st_15 57) (sSeq (st_16 57) (sSeq (st_17 57) (st_18 57))))))))))))))))) [.v u, .no, .no, .no, .v (.int 4), .v (.int 7), .o false row, .no, .no] := by
  refine run_pick (r := 6) (c := false)  rfl ok rfl (by decide +kernel) (by decide +kernel) fun a ha row1 ok1 => ?_
  refine run_next (e' := [.v u, .v (.list [.fn 10 [], .fn 9 [], .fn 8 []]), .no, .v a, .v (.int 4), .v (.int 7), .o false row1, .no, .no]) rfl ?_
  refine run_next (e' := [.v u, .v (.list [.fn 10 [], .fn 9 [], .fn 8 []]), .no, .v a, .v (.int 4), .v (.int 7), .o false row1, .no, .no]) (chk1 (F := fun a => st_4 57 [.v u, .v (.list [.fn 10 [], .fn 9 [], .fn 8 []]), .no, .v a, .v (.int 4), .v (.int 7), .o false row1, .no, .no]) (G := fun a => .ok .next [.v u, .v (.list [.fn 10 [], .fn 9 [], .fn 8 []]), .no, .v a, .v (.int 4), .v (.int 7), .o false row1, .no, .no]) (by kernel_rfl) a ha) ?_
  refine run_pick (r := 6) (c := false)  rfl ok1 rfl (by decide +kernel) (by decide +kernel) fun b hb row2 ok2 => ?_
  refine run_next (e' := [.v u, .v (.list [.fn 7 [], .fn 6 []]), .no, .v b, .v (.int 4), .v (.int 7), .o false row2, .no, .no]) rfl ?_
  refine run_next (e' := [.v u, .v (.list [.fn 7 [], .fn 6 []]), .no, .v b, .v (.int 4), .v (.int 7), .o false row2, .no, .no]) (chk1 (F := fun b => st_7 57 [.v u, .v (.list [.fn 7 [], .fn 6 []]), .no, .v b, .v (.int 4), .v (.int 7), .o false row2, .no, .no]) (G := fun b => .ok .next [.v u, .v (.list [.fn 7 [], .fn 6 []]), .no, .v b, .v (.int 4), .v (.int 7), .o false row2, .no, .no]) (by kernel_rfl) b hb) ?_
  obtain ⟨c, hc, row3, ok3, e8⟩ := st8 (u := u) (calls := .list [.fn 7 [], .fn 6 []]) (x3 := b) (pp := .int 7) (mm := .int 4) ok2
  refine run_next (e' := [.v u, .v (.list [.fn 7 [], .fn 6 []]), .no, .v b, .v (.int 4), .v (.int 7), .o false row3, .no, .no]) (e8.trans (chk1 (F := fun c => S8 (mCall (F_seen 57) (mCons (mP (pC (.int 7))) (mCons (mP (pC (.int 4))) (mCons (mP (pC c)) (mCons (mP (pC .none)) (mCons (mP (pC .none)) mNil))))) [.v u, .v (.list [.fn 7 [], .fn 6 []]), .no, .v b, .v (.int 4), .v (.int 7), .o false row3, .no, .no]) [.v u, .v (.list [.fn 7 [], .fn 6 []]), .no, .v b, .v (.int 4), .v (.int 7), .o false row3, .no, .no]) (G := fun c => .ok .next [.v u, .v (.list [.fn 7 [], .fn 6 []]), .no, .v b, .v (.int 4), .v (.int 7), .o false row3, .no, .no]) (by kernel_rfl) c hc)) ?_
  refine run_pick (r := 6) (c := false)  rfl ok3 rfl (by decide +kernel) (by decide +kernel) fun d hd row4 ok4 => ?_
  refine run_next (e' := [.v u, .v (.list [.fn 7 [], .fn 6 []]), .no, .v d, .v (.int 4), .v (.int 7), .o false row4, .no, .no]) (chk1 (F := fun d => st_10 57 [.v u, .v (.list [.fn 7 [], .fn 6 []]), .no, .v d, .v (.int 4), .v (.int 7), .o false row4, .no, .no]) (G := fun d => .ok .next [.v u, .v (.list [.fn 7 [], .fn 6 []]), .no, .v d, .v (.int 4), .v (.int 7), .o false row4, .no, .no]) (by kernel_rfl) d hd) ?_
  refine run_pick (r := 6) (c := false)  rfl ok4 rfl (by decide +kernel) (by decide +kernel) fun f hf row5 ok5 => ?_
  refine run_next (e' := [.v u, .v (.list [.fn 7 [], .fn 6 []]), .no, .v f, .v (.int 4), .v (.int 7), .o false row5, .no, .no]) (chk1 (F := fun f => st_12 57 [.v u, .v (.list [.fn 7 [], .fn 6 []]), .no, .v f, .v (.int 4), .v (.int 7), .o false row5, .no, .no]) (G := fun f => .ok .next [.v u, .v (.list [.fn 7 [], .fn 6 []]), .no, .v f, .v (.int 4), .v (.int 7), .o false row5, .no, .no]) (by kernel_rfl) f hf) ?_
  refine run_next (e' := [.v u, .v (.list [.fn 7 [], .fn 6 []]), .v (.list odd13_7_4), .v f, .v (.int 4), .v (.int 7), .o false row5, .no, .no]) (by kernel_rfl) ?_
  refine run_next (e' := [.v u, .v (.list [.fn 7 [], .fn 6 []]), .v (.list odd14_7_4), .v f, .v (.int 4), .v (.int 7), .o false row5, .no, .no]) (by kernel_rfl) ?_
  refine run_pick (r := 6) (c := false) (ts := ts15_7_4) rfl ok5 (by kernel_rfl) (by decide +kernel) (by decide +kernel) fun g hg row6 ok6 => ?_
  refine run_next (e' := [.v u, .v (.list [.fn 7 [], .fn 6 []]), .v (.list odd14_7_4), .v g, .v (.int 4), .v (.int 7), .o false row6, .no, .no]) (chk1 (F := fun g => st_16 57 [.v u, .v (.list [.fn 7 [], .fn 6 []]), .v (.list odd14_7_4), .v g, .v (.int 4), .v (.int 7), .o false row6, .no, .no]) (G := fun g => .ok .next [.v u, .v (.list [.fn 7 [], .fn 6 []]), .v (.list odd14_7_4), .v g, .v (.int 4), .v (.int 7), .o false row6, .no, .no]) (by kernel_rfl) g hg) ?_
  refine run_pick (r := 6) (c := false)  rfl ok6 rfl (by decide +kernel) (by decide +kernel) fun k hk row7 ok7 => ?_
  exact ⟨_, chk1 (F := fun k => st_18 57 [.v u, .v (.list [.fn 7 [], .fn 6 []]), .v (.list odd14_7_4), .v k, .v (.int 4), .v (.int 7), .o false row7, .no, .no]) (G := fun k => .ok (.ret (.bool true)) [.v u, .v (.list [.fn 7 [], .fn 6 []]), .v (.list odd14_7_4), .v k, .v (.int 4), .v (.int 7), .o false row7, .no, .no]) (by kernel_rfl) k hk⟩
def odd13_11_2 : List PV := slotL 2 (st_13 57 [.v .none, .no, .no, .v .none, .v (.int 2), .v (.int 11), .no, .no, .no])
def odd14_11_2 : List PV := slotL 2 (st_14 57 [.v .none, .no, .v (.list odd13_11_2), .v .none, .v (.int 2), .v (.int 11), .no, .no, .no])
def ts15_11_2 : List PV := odd14_11_2 ++ [.tuple [.tuple [.int 1, .int 0], .tuple [.int 2, .int 0], .tuple [.int 3, .int 0], .tuple [.int 4, .int 0], .tuple [.int 5, .int 0], .tuple [.int 6, .int 0]]]
theorem tail_11_2 (u row : PV) (ok : RowOk row) : Run (sSeq (st_2 57) (sSeq (st_3 57) (sSeq (st_4 57) (sSeq (st_5 57) (sSeq (st_6 57) (sSeq (st_7 57) (sSeq (st_8 57) (sSeq (st_9 57) (sSeq (st_10 57) (sSeq (st_11 57) (sSeq (st_12 57) (sSeq (st_13 57) (sSeq (st_14 57) (sSeq (st_15 57) (sSeq (st_16 57) (sSeq (st_17 57) (st_18 57))))))))))))))))) [.v u, .no, .no, .no, .v (.int 2), .v (.int 11), .o false row, .no, .no] := by
  refine run_pick (r := 6) (c := false)  rfl ok rfl (by decide +kernel) (by decide +kernel) fun a ha row1 ok1 => ?_
  refine run_next (e' := [.v u, .v (.list [.fn 10 [], .fn 9 [], .fn 8 []]), .no, .v a, .v (.int 2), .v (.int 11), .o false row1, .no, .no]) rfl ?_
  refine run_next (e' := [.v u, .v (.list [.fn 10 [], .fn 9 [], .fn 8 []]), .no, .v a, .v (.int 2), .v (.int 11), .o false row1, .no, .no]) (chk1 (F := fun a => st_4 57 [.v u, .v (.list [.fn 10 [], .fn 9 [], .fn 8 []]), .no, .v a, .v (.int 2), .v (.int 11), .o false row1, .no, .no]) (G := fun a => .ok .next [.v u, .v (.list [.fn 10 [], .fn 9 [], .fn 8 []]), .no, .v a, .v (.int 2), .v (.int 11), .o false row1, .no, .no]) (by kernel_rfl) a ha) ?_
  refine run_pick (r := 6) (c := false)  rfl ok1 rfl (by decide +kernel) (by decide +kernel) fun b hb row2 ok2 => ?_
  refine run_next (e' := [.v u, .v (.list [.fn 7 [], .fn 6 []]), .no, .v b, .v (.int 2), .v (.int 11), .o false row2, .no, .no]) rfl ?_
  refine run_next (e' := [.v u, .v (.list [.fn 7 [], .fn 6 []]), .no, .v b, .v (.int 2), .v (.int 11), .o false row2, .no, .no]) (chk1 (F := fun b => st_7 57 [.v u, .v (.list [.fn 7 [], .fn 6 []]), .no, .v b, .v (.int 2), .v (.int 11), .o false row2, .no, .no]) (G := fun b => .ok .next [.v u, .v (.list [.fn 7 [], .fn 6 []]), .no, .v b, .v (.int 2), .v (.int 11), .o false row2, .no, .no]) (by kernel_rfl) b hb) ?_
  obtain ⟨c, hc, row3, ok3, e8⟩ := st8 (u := u) (calls := .list [.fn 7 [], .fn 6 []]) (x3 := b) (pp := .int 11) (mm := .int 2) ok2
  refine run_next (e' := [.v u, .v (.list [.fn 7 [], .fn 6 []]), .no, .v b, .v (.int 2), .v (.int 11), .o false row3, .no, .no]) (e8.trans (chk1 (F := fun c => S8 (mCall (F_seen 57) (mCons (mP (pC (.int 11))) (mCons (mP (pC (.int 2))) (mCons (mP (pC c)) (mCons (mP (pC .none)) (mCons (mP (pC .none)) mNil))))) [.v u, .v (.list [.fn 7 [], .fn 6 []]), .no, .v b, .v (.int 2), .v (.int 11), .o false row3, .no, .no]) [.v u, .v (.list [.fn 7 [], .fn 6 []]), .no, .v b, .v (.int 2), .v (.int 11), .o false row3, .no, .no]) (G := fun c => .ok .next [.v u, .v (.list [.fn 7 [], .fn 6 []]), .no, .v b, .v (.int 2), .v (.int 11), .o false row3, .no, .no]) (by kernel_rfl) c hc)) ?_
  refine run_pick (r := 6) (c := false)  rfl ok3 rfl (by decide +kernel) (by decide +kernel) fun d hd row4 ok4 => ?_
  refine run_next (e' := [.v u, .v (.list [.fn 7 [], .fn 6 []]), .no, .v d, .v (.int 2), .v (.int 11), .o false row4, .no, .no]) (chk1 (F := fun d => st_10 57 [.v u, .v (.list [.fn 7 [], .fn 6 []]), .no, .v d, .v (.int 2), .v (.int 11), .o false row4, .no, .no]) (G := fun d => .ok .next [.v u, .v (.list [.fn 7 [], .fn 6 []]), .no, .v d, .v (.int 2), .v (.int 11), .o false row4, .no, .no]) (by kernel_rfl) d hd) ?_
  refine run_pick (r := 6) (c := false)  rfl ok4 rfl (by decide +kernel) (by decide +kernel) fun f hf row5 ok5 => ?_
  refine run_next (e' := [.v u, .v (.list [.fn 7 [], .fn 6 []]), .no, .v f, .v (.int 2), .v (.int 11), .o false row5, .no, .no]) (chk1 (F := fun f => st_12 57 [.v u, .v (.list [.fn 7 [], .fn 6 []]), .no, .v f, .v (.int 2), .v (.int 11), .o false row5, .no, .no]) (G := fun f => .ok .next [.v u, .v (.list [.fn 7 [], .fn 6 []]), .no, .v f, .v (.int 2), .v (.int 11), .o false row5, .no, .no]) (by kernel_rfl) f hf) ?_
  refine run_next (e' := [.v u, .v (.list [.fn 7 [], .fn 6 []]), .v (.list odd13_11_2), .v f, .v (.int 2), .v (.int 11), .o false row5, .no, .no]) (by kernel_rfl) ?_
  refine run_next (e' := [.v u, .v (.list [.fn 7 [], .fn 6 []]), .v (.list odd14_11_2), .v f, .v (.int 2), .v (.int 11), .o false row5, .no, .no]) (by kernel_rfl) ?_
  refine run_pick (r := 6) (c := false) (ts := ts15_11_2) rfl ok5 (by kernel_rfl) (by decide +kernel) (by decide +kernel) fun g hg row6 ok6 => ?_
  refine run_next (e' := [.v u, .v (.list [.fn 7 [], .fn 6 []]), .v (.list odd14_11_2), .v g, .v (.int 2), .v (.int 11), .o false row6, .no, .no]) (chk1 (F := fun g => st_16 57 [.v u, .v (.list [.fn 7 [], .fn 6 []]), .v (.list odd14_11_2), .v g, .v (.int 2), .v (.int 11), .o false row6, .no, .no]) (G := fun g => .ok .next [.v u, .v (.list [.fn 7 [], .fn 6 []]), .v (.list odd14_11_2), .v g, .v (.int 2), .v (.int 11), .o false row6, .no, .no]) (by kernel_rfl) g hg) ?_
  refine run_pick (r := 6) (c := false)  rfl ok6 rfl (by decide +kernel) (by decide +kernel) fun k hk row7 ok7 => ?_
  exact ⟨_, chk1 (F := fun k => st_18 57 [.v u, .v (.list [.fn 7 [], .fn 6 []]), .v (.list odd14_11_2), .v k, .v (.int 2), .v (.int 11), .o false row7, .no, .no]) (G := fun k => .ok (.ret (.bool true)) [.v u, .v (.list [.fn 7 [], .fn 6 []]), .v (.list odd14_11_2), .v k, .v (.int 2), .v (.int 11), .o false row7, .no, .no]) (by kernel_rfl) k hk⟩
def odd13_11_3 : List PV := slotL 2 (st_13 57 [.v .none, .no, .no, .v .none, .v (.int 3), .v (.int 11), .no, .no, .no])
def odd14_11_3 : List PV := slotL 2 (st_14 57 [.v .none, .no, .v (.list odd13_11_3), .v .none, .v (.int 3), .v (.int 11), .no, .no, .no])
def ts15_11_3 : List PV := odd14_11_3 ++ [.tuple [.tuple [.int 1, .int 0], .tuple [.int 2, .int 0], .tuple [.int 3, .int 0], .tuple [.int 4, .int 0], .tuple [.int 5, .int 0], .tuple [.int 6, .int 0]]]
theorem tail_11_3 (u row : PV) (ok : RowOk row) : Run (sSeq (st_2 57) (sSeq (st_3 57) (sSeq (st_4 57) (sSeq (st_5 57) (sSeq (st_6 57) (sSeq (st_7 57) (sSeq (st_8 57) (sSeq (st_9 57) (sSeq (st_10 57) (sSeq (st_11 57) (sSeq (st_12 57) (sSeq (st_13 57) (sSeq (st_14 57) (sSeq (st_15 57) (sSeq (st_16 57) (sSeq (st_17 57) (st_18 57))))))))))))))))) [.v u, .no, .no, .no, .v (.int 3), .v (.int 11), .o false row, .no, .no] := by
  refine run_pick (r := 6) (c := false)  rfl ok rfl (by decide +kernel) (by decide +kernel) fun a ha row1 ok1 => ?_
  refine run_next (e' := [.v u, .v (.list [.fn 10 [], .fn 9 [], .fn 8 []]), .no, .v a, .v (.int 3), .v (.int 11), .o false row1, .no, .no]) rfl ?_
  refine run_next (e' := [.v u, .v (.list [.fn 10 [], .fn 9 [], .fn 8 []]), .no, .v a, .v (.int 3), .v (.int 11), .o false row1, .no, .no]) (chk1 (F := fun a => st_4 57 [.v u, .v (.list [.fn 10 [], .fn 9 [], .fn 8 []]), .no, .v a, .v (.int 3), .v (.int 11), .o false row1, .no, .no]) (G := fun a => .ok .next [.v u, .v (.list [.fn 10 [], .fn 9 [], .fn 8 []]), .no, .v a, .v (.int 3), .v (.int 11), .o false row1, .no, .no]) (by kernel_rfl) a ha) ?_
  refine run_pick (r := 6) (c := false)  rfl ok1 rfl (by decide +kernel) (by decide +kernel) fun b hb row2 ok2 => ?_
  refine run_next (e' := [.v u, .v (.list [.fn 7 [], .fn 6 []]), .no, .v b, .v (.int 3), .v (.int 11), .o false row2, .no, .no]) rfl ?_
  refine run_next (e' := [.v u, .v (.list [.fn 7 [], .fn 6 []]), .no, .v b, .v (.int 3), .v (.int 11), .o false row2, .no, .no]) (chk1 (F := fun b => st_7 57 [.v u, .v (.list [.fn 7 [], .fn 6 []]), .no, .v b, .v (.int 3), .v (.int 11), .o false row2, .no, .no]) (G := fun b => .ok .next [.v u, .v (.list [.fn 7 [], .fn 6 []]), .no, .v b, .v (.int 3), .v (.int 11), .o false row2, .no, .no]) (by kernel_rfl) b hb) ?_
  obtain ⟨c, hc, row3, ok3, e8⟩ := st8 (u := u) (calls := .list [.fn 7 [], .fn 6 []]) (x3 := b) (pp := .int 11) (mm := .int 3) ok2
  refine run_next (e' := [.v u, .v (.list [.fn 7 [], .fn 6 []]), .no, .v b, .v (.int 3), .v (.int 11), .o false row3, .no, .no]) (e8.trans (chk1 (F := fun c => S8 (mCall (F_seen 57) (mCons (mP (pC (.int 11))) (mCons (mP (pC (.int 3))) (mCons (mP (pC c)) (mCons (mP (pC .none)) (mCons (mP (pC .none)) mNil))))) [.v u, .v (.list [.fn 7 [], .fn 6 []]), .no, .v b, .v (.int 3), .v (.int 11), .o false row3, .no, .no]) [.v u, .v (.list [.fn 7 [], .fn 6 []]), .no, .v b, .v (.int 3), .v (.int 11), .o false row3, .no, .no]) (G := fun c => .ok .next [.v u, .v (.list [.fn 7 [], .fn 6 []]), .no, .v b, .v (.int 3), .v (.int 11), .o false row3, .no, .no]) (by kernel_rfl) c hc)) ?_
  refine run_pick (r := 6) (c := false)  rfl ok3 rfl (by decide +kernel) (by decide +kernel) fun d hd row4 ok4 => ?_
  refine run_next (e' := [.v u, .v (.list [.fn 7 [], .fn 6 []]), .no, .v d, .v (.int 3), .v (.int 11), .o false row4, .no, .no]) (chk1 (F := fun d => st_10 57 [.v u, .v (.list [.fn 7 [], .fn 6 []]), .no, .v d, .v (.int 3), .v (.int 11), .o false row4, .no, .no]) (G := fun d => .ok .next [.v u, .v (.list [.fn 7 [], .fn 6 []]), .no, .v d, .v (.int 3), .v (.int 11), .o false row4, .no, .no]) (by kernel_rfl) d hd) ?_
  refine run_pick (r := 6) (c := false)  rfl ok4 rfl (by decide +kernel) (by decide +kernel) fun f hf row5 ok5 => ?_
  refine run_next (e' := [.v u, .v (.list [.fn 7 [], .fn 6 []]), .no, .v f, .v (.int 3), .v (.int 11), .o false row5, .no, .no]) (chk1 (F := fun f => st_12 57 [.v u, .v (.list [.fn 7 [], .fn 6 []]), .no, .v f, .v (.int 3), .v (.int 11), .o false row5, .no, .no]) (G := fun f => .ok .next [.v u, .v (.list [.fn 7 [], .fn 6 []]), .no, .v f, .v (.int 3), .v (.int 11), .o false row5, .no, .no]) (by kernel_rfl) f hf) ?_
  refine run_next (e' := [.v u, .v (.list [.fn 7 [], .fn 6 []]), .v (.list odd13_11_3), .v f, .v (.int 3), .v (.int 11), .o false row5, .no, .no]) (by kernel_rfl) ?_
  refine run_next (e' := [.v u, .v (.list [.fn 7 [], .fn 6 []]), .v (.list odd14_11_3), .v f, .v (.int 3), .v (.int 11), .o false row5, .no, .no]) (by kernel_rfl) ?_
  refine run_pick (r := 6) (c := false) (ts := ts15_11_3) rfl ok5 (by kernel_rfl) (by decide +kernel) (by decide +kernel) fun g hg row6 ok6 => ?_
  refine run_next (e' := [.v u, .v (.list [.fn 7 [], .fn 6 []]), .v (.list odd14_11_3), .v g, .v (.int 3), .v (.int 11), .o false row6, .no, .no]) (chk1 (F := fun g => st_16 57 [.v u, .v (.list [.fn 7 [], .fn 6 []]), .v (.list odd14_11_3), .v g, .v (.int 3), .v (.int 11), .o false row6, .no, .no]) (G := fun g => .ok .next [.v u, .v (.list [.fn 7 [], .fn 6 []]), .v (.list odd14_11_3), .v g, .v (.int 3), .v (.int 11), .o false row6, .no, .no]) (by kernel_rfl) g hg) ?_
  refine run_pick (r := 6) (c := false)  rfl ok6 rfl (by decide +kernel) (by decide +kernel) fun k hk row7 ok7 => ?_
  exact ⟨_, chk1 (F := fun k => st_18 57 [.v u, .v (.list [.fn 7 [], .fn 6 []]), .v (.list odd14_11_3), .v k, .v (.int 3), .v (.int 11), .o false row7, .no, .no]) (G := fun k => .ok (.ret (.bool true)) [.v u, .v (.list [.fn 7 [], .fn 6 []]), .v (.list odd14_11_3), .v k, .v (.int 3), .v (.int 11), .o false row7, .no, .no]) (by kernel_rfl) k hk⟩
def odd13_11_4 : List PV := slotL 2 (st_13 57 [.v .none, .no, .no, .v .none, .v (.int 4), .v (.int 11), .no, .no, .no])
def odd14_11_4 : List PV := slotL 2 (st_14 57 [.v .none, .no, .v (.list odd13_11_4), .v .none, .v (.int 4), .v (.int 11), .no, .no, .no])
def ts15_11_4 : List PV := odd14_11_4 ++ [.tuple [.tuple [.int 1, .int 0], .tuple [.int 2, .int 0], .tuple [.int 3, .int 0], .tuple [.int 4, .int 0], .tuple [.int 5, .int 0], .tuple [.int 6, .int 0]]]
theorem tail_11_4 (u row : PV) (ok : RowOk row) : Run (sSeq (st_2 57) (sSeq (st_3 57) (sSeq (st_4 57) (sSeq (st_5 57) (sSeq (st_6 57) (sSeq (st_7 57) (sSeq (st_8 57) (sSeq (st_9 57) (sSeq (st_10 57) (sSeq (st_11 57) (sSeq (st_12 57) (sSeq (st_13 57) (sSeq (st_14 57) (sSeq (st_15 57) (sSeq (st_16 57) (sSeq (st_17 57) (st_18 57))))))))))))))))) [.v u, .no, .no, .no, .v (.int 4), .v (.int 11), .o false row, .no, .no] := by
  refine run_pick (r := 6) (c := false)  rfl ok rfl (by decide +kernel) (by decide +kernel) fun a ha row1 ok1 => ?_
  refine run_next (e' := [.v u, .v (.list [.fn 10 [], .fn 9 [], .fn 8 []]), .no, .v a, .v (.int 4), .v (.int 11), .o false row1, .no, .no]) rfl ?_
  refine run_next (e' := [.v u, .v (.list [.fn 10 [], .fn 9 [], .fn 8 []]), .no, .v a, .v (.int 4), .v (.int 11), .o false row1, .no, .no]) (chk1 (F := fun a => st_4 57 [.v u, .v (.list [.fn 10 [], .fn 9 [], .fn 8 []]), .no, .v a, .v (.int 4), .v (.int 11), .o false row1, .no, .no]) (G := fun a => .ok .next [.v u, .v (.list [.fn 10 [], .fn 9 [], .fn 8 []]), .no, .v a, .v (.int 4), .v (.int 11), .o false row1, .no, .no]) (by kernel_rfl) a ha) ?_
  refine run_pick (r := 6) (c := false)  rfl ok1 rfl (by decide +kernel) (by decide +kernel) fun b hb row2 ok2 => ?_
  refine run_next (e' := [.v u, .v (.list [.fn 7 [], .fn 6 []]), .no, .v b, .v (.int 4), .v (.int 11), .o false row2, .no, .no]) rfl ?_
  refine run_next (e' := [.v u, .v (.list [.fn 7 [], .fn 6 []]), .no, .v b, .v (.int 4), .v (.int 11), .o false row2, .no, .no]) (chk1 (F := fun b => st_7 57 [.v u, .v (.list [.fn 7 [], .fn 6 []]), .no, .v b, .v (.int 4), .v (.int 11), .o false row2, .no, .no]) (G := fun b => .ok .next [.v u, .v (.list [.fn 7 [], .fn 6 []]), .no, .v b, .v (.int 4), .v (.int 11), .o false row2, .no, .no]) (by kernel_rfl) b hb) ?_
  obtain ⟨c, hc, row3, ok3, e8⟩ := st8 (u := u) (calls := .list [.fn 7 [], .fn 6 []]) (x3 := b) (pp := .int 11) (mm := .int 4) ok2
  refine run_next (e' := [.v u, .v (.list [.fn 7 [], .fn 6 []]), .no, .v b, .v (.int 4), .v (.int 11), .o false row3, .no, .no]) (e8.trans (chk1 (F := fun c => S8 (mCall (F_seen 57) (mCons (mP (pC (.int 11))) (mCons (mP (pC (.int 4))) (mCons (mP (pC c)) (mCons (mP (pC .none)) (mCons (mP (pC .none)) mNil))))) [.v u, .v (.list [.fn 7 [], .fn 6 []]), .no, .v b, .v (.int 4), .v (.int 11), .o false row3, .no, .no]) [.v u, .v (.list [.fn 7 [], .fn 6 []]), .no, .v b, .v (.int 4), .v (.int 11), .o false row3, .no, .no]) (G := fun c => .ok .next [.v u, .v (.list [.fn 7 [], .fn 6 []]), .no, .v b, .v (.int 4), .v (.int 11), .o false row3, .no, .no]) (by kernel_rfl) c hc)) ?_
  refine run_pick (r := 6) (c := false)  rfl ok3 rfl (by decide +kernel) (by decide +kernel) fun d hd row4 ok4 => ?_
  refine run_next (e' := [.v u, .v (.list [.fn 7 [], .fn 6 []]), .no, .v d, .v (.int 4), .v (.int 11), .o false row4, .no, .no]) (chk1 (F := fun d => st_10 57 [.v u, .v (.list [.fn 7 [], .fn 6 []]), .no, .v d, .v (.int 4), .v (.int 11), .o false row4, .no, .no]) (G := fun d => .ok .next [.v u, .v (.list [.fn 7 [], .fn 6 []]), .no, .v d, .v (.int 4), .v (.int 11), .o false row4, .no, .no]) (by kernel_rfl) d hd) ?_
  refine run_pick (r := 6) (c := false)  rfl ok4 rfl (by decide +kernel) (by decide +kernel) fun f hf row5 ok5 => ?_
  refine run_next (e' := [.v u, .v (.list [.fn 7 [], .fn 6 []]), .no, .v f, .v (.int 4), .v (.int 11), .o false row5, .no, .no]) (chk1 (F := fun f => st_12 57 [.v u, .v (.list [.fn 7 [], .fn 6 []]), .no, .v f, .v (.int 4), .v (.int 11), .o false row5, .no, .no]) (G := fun f => .ok .next [.v u, .v (.list [.fn 7 [], .fn 6 []]), .no, .v f, .v (.int 4), .v (.int 11), .o false row5, .no, .no]) (by kernel_rfl) f hf) ?_
  refine run_next (e' := [.v u, .v (.list [.fn 7 [], .fn 6 []]), .v (.list odd13_11_4), .v f, .v (.int 4), .v (.int 11), .o false row5, .no, .no]) (by kernel_rfl) ?_
  refine run_next (e' := [.v u, .v (.list [.fn 7 [], .fn 6 []]), .v (.list odd14_11_4), .v f, .v (.int 4), .v (.int 11), .o false row5, .no, .no]) (by kernel_rfl) ?_
  refine run_pick (r := 6) (c := false) (ts := ts15_11_4) rfl ok5 (by kernel_rfl) (by decide +kernel) (by decide +kernel) fun g hg row6 ok6 => ?_
  refine run_next (e' := [.v u, .v (.list [.fn 7 [], .fn 6 []]), .v (.list odd14_11_4), .v g, .v (.int 4), .v (.int 11), .o false row6, .no, .no]) (chk1 (F := fun g => st_16 57 [.v u, .v (.list [.fn 7 [], .fn 6 []]), .v (.list odd14_11_4), .v g, .v (.int 4), .v (.int 11), .o false row6, .no, .no]) (G := fun g => .ok .next [.v u, .v (.list [.fn 7 [], .fn 6 []]), .v (.list odd14_11_4), .v g, .v (.int 4), .v (.int 11), .o false row6, .no, .no]) (by kernel_rfl) g hg) ?_
  refine run_pick (r := 6) (c := false)  rfl ok6 rfl (by decide +kernel) (by decide +kernel) fun k hk row7 ok7 => ?_
  exact ⟨_, chk1 (F := fun k => st_18 57 [.v u, .v (.list [.fn 7 [], .fn 6 []]), .v (.list odd14_11_4), .v k, .v (.int 4), .v (.int 11), .o false row7, .no, .no]) (G := fun k => .ok (.ret (.bool true)) [.v u, .v (.list [.fn 7 [], .fn 6 []]), .v (.list odd14_11_4), .v k, .v (.int 4), .v (.int 11), .o false row7, .no, .no]) (by kernel_rfl) k hk⟩
def odd13_13_2 : List PV := slotL 2 (st_13 57 [.v .none, .no, .no, .v .none, .v (.int 2), .v (.int 13), .no, .no, .no])
def odd14_13_2 : List PV := slotL 2 (st_14 57 [.v .none, .no, .v (.list odd13_13_2), .v .none, .v (.int 2), .v (.int 13), .no, .no, .no])
def ts15_13_2 : List PV := odd14_13_2 ++ [.tuple [.tuple [.int 1, .int 0], .tuple [.int 2, .int 0], .tuple [.int 3, .int 0], .tuple [.int 4, .int 0], .tuple [.int 5, .int 0], .tuple [.int 6, .int 0]]]
theorem tail_13_2 (u row : PV) (ok : RowOk row) : Run (sSeq (st_2 57) (sSeq (st_3 57) (sSeq (st_4 57) (sSeq (st_5 57) (sSeq (st_6 57) (sSeq (st_7 57) (sSeq (st_8 57) (sSeq (st_9 57) (sSeq (st_10 57) (sSeq (st_11 57) (sSeq (st_12 57) (sSeq (st_13 57) (sSeq (st_14 57) (sSeq (st_15 57) (sSeq (st_16 57) (sSeq (st_17 57) (st_18 57))))))))))))))))) [.v u, .no, .no, .no, .v (.int 2), .v (.int 13), .o false row, .no, .no] := by
  refine run_pick (r := 6) (c := false)  rfl ok rfl (by decide +kernel) (by decide +kernel) fun a ha row1 ok1 => ?_
  refine run_next (e' := [.v u, .v (.list [.fn 10 [], .fn 9 [], .fn 8 []]), .no, .v a, .v (.int 2), .v (.int 13), .o false row1, .no, .no]) rfl ?_
  refine run_next (e' := [.v u, .v (.list [.fn 10 [], .fn 9 [], .fn 8 []]), .no, .v a, .v (.int 2), .v (.int 13), .o false row1, .no, .no]) (chk1 (F := fun a => st_4 57 [.v u, .v (.list [.fn 10 [], .fn 9 [], .fn 8 []]), .no, .v a, .v (.int 2), .v (.int 13), .o false row1, .no, .no]) (G := fun a => .ok .next [.v u, .v (.list [.fn 10 [], .fn 9 [], .fn 8 []]), .no, .v a, .v (.int 2), .v (.int 13), .o false row1, .no, .no]) (by kernel_rfl) a ha) ?_
  refine run_pick (r := 6) (c := false)  rfl ok1 rfl (by decide +kernel) (by decide +kernel) fun b hb row2 ok2 => ?_
  refine run_next (e' := [.v u, .v (.list [.fn 7 [], .fn 6 []]), .no, .v b, .v (.int 2), .v (.int 13), .o false row2, .no, .no]) rfl ?_
  refine run_next (e' := [.v u, .v (.list [.fn 7 [], .fn 6 []]), .no, .v b, .v (.int 2), .v (.int 13), .o false row2, .no, .no]) (chk1 (F := fun b => st_7 57 [.v u, .v (.list [.fn 7 [], .fn 6 []]), .no, .v b, .v (.int 2), .v (.int 13), .o false row2, .no, .no]) (G := fun b => .ok .next [.v u, .v (.list [.fn 7 [], .fn 6 []]), .no, .v b, .v (.int 2), .v (.int 13), .o false row2, .no, .no]) (by kernel_rfl) b hb) ?_
  obtain ⟨c, hc, row3, ok3, e8⟩ := st8 (u := u) (calls := .list [.fn 7 [], .fn 6 []]) (x3 := b) (pp := .int 13) (mm := .int 2) ok2
  refine run_next (e' := [.v u, .v (.list [.fn 7 [], .fn 6 []]), .no, .v b, .v (.int 2), .v (.int 13), .o false row3, .no, .no]) (e8.trans (chk1 (F := fun c => S8 (mCall (F_seen 57) (mCons (mP (pC (.int 13))) (mCons (mP (pC (.int 2))) (mCons (mP (pC c)) (mCons (mP (pC .none)) (mCons (mP (pC .none)) mNil))))) [.v u, .v (.list [.fn 7 [], .fn 6 []]), .no, .v b, .v (.int 2), .v (.int 13), .o false row3, .no, .no]) [.v u, .v (.list [.fn 7 [], .fn 6 []]), .no, .v b, .v (.int 2), .v (.int 13), .o false row3, .no, .no]) (G := fun c => .ok .next [.v u, .v (.list [.fn 7 [], .fn 6 []]), .no, .v b, .v (.int 2), .v (.int 13), .o false row3, .no, .no]) (by kernel_rfl) c hc)) ?_
  refine run_pick (r := 6) (c := false)  rfl ok3 rfl (by decide +kernel) (by decide +kernel) fun d hd row4 ok4 => ?_
  refine run_next (e' := [.v u, .v (.list [.fn 7 [], .fn 6 []]), .no, .v d, .v (.int 2), .v (.int 13), .o false row4, .no, .no]) (chk1 (F := fun d => st_10 57 [.v u, .v (.list [.fn 7 [], .fn 6 []]), .no, .v d, .v (.int 2), .v (.int 13), .o false row4, .no, .no]) (G := fun d => .ok .next [.v u, .v (.list [.fn 7 [], .fn 6 []]), .no, .v d, .v (.int 2), .v (.int 13), .o false row4, .no, .no]) (by kernel_rfl) d hd) ?_
  refine run_pick (r := 6) (c := false)  rfl ok4 rfl (by decide +kernel) (by decide +kernel) fun f hf row5 ok5 => ?_
  refine run_next (e' := [.v u, .v (.list [.fn 7 [], .fn 6 []]), .no, .v f, .v (.int 2), .v (.int 13), .o false row5, .no, .no]) (chk1 (F := fun f => st_12 57 [.v u, .v (.list [.fn 7 [], .fn 6 []]), .no, .v f, .v (.int 2), .v (.int 13), .o false row5, .no, .no]) (G := fun f => .ok .next [.v u, .v (.list [.fn 7 [], .fn 6 []]), .no, .v f, .v (.int 2), .v (.int 13), .o false row5, .no, .no]) (by kernel_rfl) f hf) ?_
  refine run_next (e' := [.v u, .v (.list [.fn 7 [], .fn 6 []]), .v (.list odd13_13_2), .v f, .v (.int 2), .v (.int 13), .o false row5, .no, .no]) (by kernel_rfl) ?_
  refine run_next (e' := [.v u, .v (.list [.fn 7 [], .fn 6 []]), .v (.list odd14_13_2), .v f, .v (.int 2), .v (.int 13), .o false row5, .no, .no]) (by kernel_rfl) ?_
  refine run_pick (r := 6) (c := false) (ts := ts15_13_2) rfl ok5 (by kernel_rfl) (by decide +kernel) (by decide +kernel) fun g hg row6 ok6 => ?_
  refine run_next (e' := [.v u, .v (.list [.fn 7 [], .fn 6 []]), .v (.list odd14_13_2), .v g, .v (.int 2), .v (.int 13), .o false row6, .no, .no]) (chk1 (F := fun g => st_16 57 [.v u, .v (.list [.fn 7 [], .fn 6 []]), .v (.list odd14_13_2), .v g, .v (.int 2), .v (.int 13), .o false row6, .no, .no]) (G := fun g => .ok .next [.v u, .v (.list [.fn 7 [], .fn 6 []]), .v (.list odd14_13_2), .v g, .v (.int 2), .v (.int 13), .o false row6, .no, .no]) (by kernel_rfl) g hg) ?_
  refine run_pick (r := 6) (c := false)  rfl ok6 rfl (by decide +kernel) (by decide +kernel) fun k hk row7 ok7 => ?_
  exact ⟨_, chk1 (F := fun k => st_18 57 [.v u, .v (.list [.fn 7 [], .fn 6 []]), .v (.list odd14_13_2), .v k, .v (.int 2), .v (.int 13), .o false row7, .no, .no]) (G := fun k => .ok (.ret (.bool true)) [.v u, .v (.list [.fn 7 [], .fn 6 []]), .v (.list odd14_13_2), .v k, .v (.int 2), .v (.int 13), .o false row7, .no, .no]) (by kernel_rfl) k hk⟩
def odd13_13_3 : List PV := slotL 2 (st_13 57 [.v .none, .no, .no, .v .none, .v (.int 3), .v (.int 13), .no, .no, .no])
def odd14_13_3 : List PV := slotL 2 (st_14 57 [.v .none, .no, .v (.list odd13_13_3), .v .none, .v (.int 3), .v (.int 13), .no, .no, .no])
def ts15_13_3 : List PV := odd14_13_3 ++ [.tuple [.tuple [.int 1, .int 0], .tuple [.int 2, .int 0], .tuple [.int 3, .int 0], .tuple [.int 4, .int 0], .tuple [.int 5, .int 0], .tuple [.int 6, .int 0]]]
theorem tail_13_3 (u row : PV) (ok : RowOk row) : Run (sSeq (st_2 57) (sSeq (st_3 57) (sSeq (st_4 57) (sSeq (st_5 57) (sSeq (st_6 57) (sSeq (st_7 57) (sSeq (st_8 57) (sSeq (st_9 57) (sSeq (st_10 57) (sSeq (st_11 57) (sSeq (st_12 57) (sSeq (st_13 57) (sSeq (st_14 57) (sSeq (st_15 57) (sSeq (st_16 57) (sSeq (st_17 57) (st_18 57))))))))))))))))) [.v u, .no, .no, .no, .v (.int 3), .v (.int 13), .o false row, .no, .no] := by
  refine run_pick (r := 6) (c := false)  rfl ok rfl (by decide +kernel) (by decide +kernel) fun a ha row1 ok1 => ?_
  refine run_next (e' := [.v u, .v (.list [.fn 10 [], .fn 9 [], .fn 8 []]), .no, .v a, .v (.int 3), .v (.int 13), .o false row1, .no, .no]) rfl ?_
  refine run_next (e' := [.v u, .v (.list [.fn 10 [], .fn 9 [], .fn 8 []]), .no, .v a, .v (.int 3), .v (.int 13), .o false row1, .no, .no]) (chk1 (F := fun a => st_4 57 [.v u, .v (.list [.fn 10 [], .fn 9 [], .fn 8 []]), .no, .v a, .v (.int 3), .v (.int 13), .o false row1, .no, .no]) (G := fun a => .ok .next [.v u, .v (.list [.fn 10 [], .fn 9 [], .fn 8 []]), .no, .v a, .v (.int 3), .v (.int 13), .o false row1, .no, .no]) (by kernel_rfl) a ha) ?_
  refine run_pick (r := 6) (c := false)  rfl ok1 rfl (by decide +kernel) (by decide +kernel) fun b hb row2 ok2 => ?_
  refine run_next (e' := [.v u, .v (.list [.fn 7 [], .fn 6 []]), .no, .v b, .v (.int 3), .v (.int 13), .o false row2, .no, .no]) rfl ?_
  refine run_next (e' := [.v u, .v (.list [.fn 7 [], .fn 6 []]), .no, .v b, .v (.int 3), .v (.int 13), .o false row2, .no, .no]) (chk1 (F := fun b => st_7 57 [.v u, .v (.list [.fn 7 [], .fn 6 []]), .no, .v b, .v (.int 3), .v (.int 13), .o false row2, .no, .no]) (G := fun b => .ok .next [.v u, .v (.list [.fn 7 [], .fn 6 []]), .no, .v b, .v (.int 3), .v (.int 13), .o false row2, .no, .no]) (by kernel_rfl) b hb) ?_
  obtain ⟨c, hc, row3, ok3, e8⟩ := st8 (u := u) (calls := .list [.fn 7 [], .fn 6 []]) (x3 := b) (pp := .int 13) (mm := .int 3) ok2
  refine run_next (e' := [.v u, .v (.list [.fn 7 [], .fn 6 []]), .no, .v b, .v (.int 3), .v (.int 13), .o false row3, .no, .no]) (e8.trans (chk1 (F := fun c => S8 (mCall (F_seen 57) (mCons (mP (pC (.int 13))) (mCons (mP (pC (.int 3))) (mCons (mP (pC c)) (mCons (mP (pC .none)) (mCons (mP (pC .none)) mNil))))) [.v u, .v (.list [.fn 7 [], .fn 6 []]), .no, .v b, .v (.int 3), .v (.int 13), .o false row3, .no, .no]) [.v u, .v (.list [.fn 7 [], .fn 6 []]), .no, .v b, .v (.int 3), .v (.int 13), .o false row3, .no, .no]) (G := fun c => .ok .next [.v u, .v (.list [.fn 7 [], .fn 6 []]), .no, .v b, .v (.int 3), .v (.int 13), .o false row3, .no, .no]) (by kernel_rfl) c hc)) ?_
  refine run_pick (r := 6) (c := false)  rfl ok3 rfl (by decide +kernel) (by decide +kernel) fun d hd row4 ok4 => ?_
  refine run_next (e' := [.v u, .v (.list [.fn 7 [], .fn 6 []]), .no, .v d, .v (.int 3), .v (.int 13), .o false row4, .no, .no]) (chk1 (F := fun d => st_10 57 [.v u, .v (.list [.fn 7 [], .fn 6 []]), .no, .v d, .v (.int 3), .v (.int 13), .o false row4, .no, .no]) (G := fun d => .ok .next [.v u, .v (.list [.fn 7 [], .fn 6 []]), .no, .v d, .v (.int 3), .v (.int 13), .o false row4, .no, .no]) (by kernel_rfl) d hd) ?_
  refine run_pick (r := 6) (c := false)  rfl ok4 rfl (by decide +kernel) (by decide +kernel) fun f hf row5 ok5 => ?_
  refine run_next (e' := [.v u, .v (.list [.fn 7 [], .fn 6 []]), .no, .v f, .v (.int 3), .v (.int 13), .o false row5, .no, .no]) (chk1 (F := fun f => st_12 57 [.v u, .v (.list [.fn 7 [], .fn 6 []]), .no, .v f, .v (.int 3), .v (.int 13), .o false row5, .no, .no]) (G := fun f => .ok .next [.v u, .v (.list [.fn 7 [], .fn 6 []]), .no, .v f, .v (.int 3), .v (.int 13), .o false row5, .no, .no]) (by kernel_rfl) f hf) ?_
  refine run_next (e' := [.v u, .v (.list [.fn 7 [], .fn 6 []]), .v (.list odd13_13_3), .v f, .v (.int 3), .v (.int 13), .o false row5, .no, .no]) (by kernel_rfl) ?_
  refine run_next (e' := [.v u, .v (.list [.fn 7 [], .fn 6 []]), .v (.list odd14_13_3), .v f, .v (.int 3), .v (.int 13), .o false row5, .no, .no]) (by kernel_rfl) ?_
  refine run_pick (r := 6) (c := false) (ts := ts15_13_3) rfl ok5 (by kernel_rfl) (by decide +kernel) (by decide +kernel) fun g hg row6 ok6 => ?_
  refine run_next (e' := [.v u, .v (.list [.fn 7 [], .fn 6 []]), .v (.list odd14_13_3), .v g, .v (.int 3), .v (.int 13), .o false row6, .no, .no]) (chk1 (F := fun g => st_16 57 [.v u, .v (.list [.fn 7 [], .fn 6 []]), .v (.list odd14_13_3), .v g, .v (.int 3), .v (.int 13), .o false row6, .no, .no]) (G := fun g => .ok .next [.v u, .v (.list [.fn 7 [], .fn 6 []]), .v (.list odd14_13_3), .v g, .v (.int 3), .v (.int 13), .o false row6, .no, .no]) (by kernel_rfl) g hg) ?_
  refine run_pick (r := 6) (c := false)  rfl ok6 rfl (by decide +kernel) (by decide +kernel) fun k hk row7 ok7 => ?_
  exact ⟨_, chk1 (F := fun k => st_18 57 [.v u, .v (.list [.fn 7 [], .fn 6 []]), .v (.list odd14_13_3), .v k, .v (.int 3), .v (.int 13), .o false row7, .no, .no]) (G := fun k => .ok (.ret (.bool true)) [.v u, .v (.list [.fn 7 [], .fn 6 []]), .v (.list odd14_13_3), .v k, .v (.int 3), .v (.int 13), .o false row7, .no, .no]) (by kernel_rfl) k hk⟩
def odd13_13_4 : List PV := slotL 2 (st_13 57 [.v .none, .no, .no, .v .none, .v (.int 4), .v (.int 13), .no, .no, .no])
def odd14_13_4 : List PV := slotL 2 (st_14 57 [.v .none, .no, .v (.list odd13_13_4), .v .none, .v (.int 4), .v (.int 13), .no, .no, .no])
def ts15_13_4 : List PV := odd14_13_4 ++ [.tuple [.tuple [.int 1, .int 0], .tuple [.int 2, .int 0], .tuple [.int 3, .int 0], .tuple [.int 4, .int 0], .tuple [.int 5, .int 0], .tuple [.int 6, .int 0]]]
theorem tail_13_4 (u row : PV) (ok : RowOk row) : Run (sSeq (st_2 57) (sSeq (st_3 57) (sSeq (st_4 57) (sSeq (st_5 57) (sSeq (st_6 57) (sSeq (st_7 57) (sSeq (st_8 57) (sSeq (st_9 57) (sSeq (st_10 57) (sSeq (st_11 57) (sSeq (st_12 57) (sSeq (st_13 57) (sSeq (st_14 57) (sSeq (st_15 57) (sSeq (st_16 57) (sSeq (st_17 57) (st_18 57))))))))))))))))) [.v u, .no, .no, .no, .v (.int 4), .v (.int 13), .o false row, .no, .no] := by
  refine run_pick (r := 6) (c := false)  rfl ok rfl (by decide +kernel) (by decide +kernel) fun a ha row1 ok1 => ?_
  refine run_next (e' := [.v u, .v (.list [.fn 10 [], .fn 9 [], .fn 8 []]), .no, .v a, .v (.int 4), .v (.int 13), .o false row1, .no, .no]) rfl ?_
  refine run_next (e' := [.v u, .v (.list [.fn 10 [], .fn 9 [], .fn 8 []]), .no, .v a, .v (.int 4), .v (.int 13), .o false row1, .no, .no]) (chk1 (F := fun a => st_4 57 [.v u, .v (.list [.fn 10 [], .fn 9 [], .fn 8 []]), .no, .v a, .v (.int 4), .v (.int 13), .o false row1, .no, .no]) (G := fun a => .ok .next [.v u, .v (.list [.fn 10 [], .fn 9 [], .fn 8 []]), .no, .v a, .v (.int 4), .v (.int 13), .o false row1, .no, .no]) (by kernel_rfl) a ha) ?_
  refine run_pick (r := 6) (c := false)  rfl ok1 rfl (by decide +kernel) (by decide +kernel) fun b hb row2 ok2 => ?_
  refine run_next (e' := [.v u, .v (.list [.fn 7 [], .fn 6 []]), .no, .v b, .v (.int 4), .v (.int 13), .o false row2, .no, .no]) rfl ?_
  refine run_next (e' := [.v u, .v (.list [.fn 7 [], .fn 6 []]), .no, .v b, .v (.int 4), .v (.int 13), .o false row2, .no, .no]) (chk1 (F := fun b => st_7 57 [.v u, .v (.list [.fn 7 [], .fn 6 []]), .no, .v b, .v (.int 4), .v (.int 13), .o false row2, .no, .no]) (G := fun b => .ok .next [.v u, .v (.list [.fn 7 [], .fn 6 []]), .no, .v b, .v (.int 4), .v (.int 13), .o false row2, .no, .no]) (by kernel_rfl) b hb) ?_
  obtain ⟨c, hc, row3, ok3, e8⟩ := st8 (u := u) (calls := .list [.fn 7 [], .fn 6 []]) (x3 := b) (pp := .int 13) (mm := .int 4) ok2
  refine run_next (e' := [.v u, .v (.list [.fn 7 [], .fn 6 []]), .no, .v b, .v (.int 4), .v (.int 13), .o false row3, .no, .no]) (e8.trans (chk1 (F := fun c => S8 (mCall (F_seen 57) (mCons (mP (pC (.int 13))) (mCons (mP (pC (.int 4))) (mCons (mP (pC c)) (mCons (mP (pC .none)) (mCons (mP (pC .none)) mNil))))) [.v u, .v (.list [.fn 7 [], .fn 6 []]), .no, .v b, .v (.int 4), .v (.int 13), .o false row3, .no, .no]) [.v u, .v (.list [.fn 7 [], .fn 6 []]), .no, .v b, .v (.int 4), .v (.int 13), .o false row3, .no, .no]) (G := fun c => .ok .next [.v u, .v (.list [.fn 7 [], .fn 6 []]), .no, .v b, .v (.int 4), .v (.int 13), .o false row3, .no, .no]) (by kernel_rfl) c hc)) ?_
  refine run_pick (r := 6) (c := false)  rfl ok3 rfl (by decide +kernel) (by decide +kernel) fun d hd row4 ok4 => ?_
  refine run_next (e' := [.v u, .v (.list [.fn 7 [], .fn 6 []]), .no, .v d, .v (.int 4), .v (.int 13), .o false row4, .no, .no]) (chk1 (F := fun d => st_10 57 [.v u, .v (.list [.fn 7 [], .fn 6 []]), .no, .v d, .v (.int 4), .v (.int 13), .o false row4, .no, .no]) (G := fun d => .ok .next [.v u, .v (.list [.fn 7 [], .fn 6 []]), .no, .v d, .v (.int 4), .v (.int 13), .o false row4, .no, .no]) (by kernel_rfl) d hd) ?_
  refine run_pick (r := 6) (c := false)  rfl ok4 rfl (by decide +kernel) (by decide +kernel) fun f hf row5 ok5 => ?_
  refine run_next (e' := [.v u, .v (.list [.fn 7 [], .fn 6 []]), .no, .v f, .v (.int 4), .v (.int 13), .o false row5, .no, .no]) (chk1 (F := fun f => st_12 57 [.v u, .v (.list [.fn 7 [], .fn 6 []]), .no, .v f, .v (.int 4), .v (.int 13), .o false row5, .no, .no]) (G := fun f => .ok .next [.v u, .v (.list [.fn 7 [], .fn 6 []]), .no, .v f, .v (.int 4), .v (.int 13), .o false row5, .no, .no]) (by kernel_rfl) f hf) ?_
  refine run_next (e' := [.v u, .v (.list [.fn 7 [], .fn 6 []]), .v (.list odd13_13_4), .v f, .v (.int 4), .v (.int 13), .o false row5, .no, .no]) (by kernel_rfl) ?_
  refine run_next (e' := [.v u, .v (.list [.fn 7 [], .fn 6 []]), .v (.list odd14_13_4), .v f, .v (.int 4), .v (.int 13), .o false row5, .no, .no]) (by kernel_rfl) ?_
  refine run_pick (r := 6) (c := false) (ts := ts15_13_4) rfl ok5 (by kernel_rfl) (by decide +kernel) (by decide +kernel) fun g hg row6 ok6 => ?_
  refine run_next (e' := [.v u, .v (.list [.fn 7 [], .fn 6 []]), .v (.list odd14_13_4), .v g, .v (.int 4), .v (.int 13), .o false row6, .no, .no]) (chk1 (F := fun g => st_16 57 [.v u, .v (.list [.fn 7 [], .fn 6 []]), .v (.list odd14_13_4), .v g, .v (.int 4), .v (.int 13), .o false row6, .no, .no]) (G := fun g => .ok .next [.v u, .v (.list [.fn 7 [], .fn 6 []]), .v (.list odd14_13_4), .v g, .v (.int 4), .v (.int 13), .o false row6, .no, .no]) (by kernel_rfl) g hg) ?_
  refine run_pick (r := 6) (c := false)  rfl ok6 rfl (by decide +kernel) (by decide +kernel) fun k hk row7 ok7 => ?_
  exact ⟨_, chk1 (F := fun k => st_18 57 [.v u, .v (.list [.fn 7 [], .fn 6 []]), .v (.list odd14_13_4), .v k, .v (.int 4), .v (.int 13), .o false row7, .no, .no]) (G := fun k => .ok (.ret (.bool true)) [.v u, .v (.list [.fn 7 [], .fn 6 []]), .v (.list odd14_13_4), .v k, .v (.int 4), .v (.int 13), .o false row7, .no, .no]) (by kernel_rfl) k hk⟩
theorem math (ns : List Int) (hl : ns.length ≤ 63) : runFn 9 (m_law 57) [.list (ns.map .int)] = .ok (.bool true) := by
  refine run_fn ?_
  rw [law_is]
  obtain ⟨u, hu⟩ : ∃ u, u = PV.list (ns.map .int) := ⟨_, rfl⟩
  rw [← hu]
  refine run_next (e' := [.v u, .no, .no, .no, .no, .no, .o false (rowOf ns 0 7729 0), .no, .no]) (by rw [hu]; rfl) ?_
  refine start_pm ⟨ns, 0, 7729, 0, rfl, by decide, hl⟩ fun p hp m hm row ok => ?_
  clear hu hl
  simp only [List.mem_cons, List.not_mem_nil, or_false] at hp hm
  rcases hp with rfl | rfl | rfl | rfl <;> rcases hm with rfl | rfl | rfl
  · exact tail_5_2 u row ok
  · exact tail_5_3 u row ok
  · exact tail_5_4 u row ok
  · exact tail_7_2 u row ok
  · exact tail_7_3 u row ok
  · exact tail_7_4 u row ok
  · exact tail_11_2 u row ok
  · exact tail_11_3 u row ok
  · exact tail_11_4 u row ok
  · exact tail_13_2 u row ok
  · exact tail_13_3 u row ok
  · exact tail_13_4 u row ok
end Pv
end
section
set_option autoImplicit false
set_option Elab.async false
set_option linter.all false
set_option maxRecDepth 100000
namespace Pv
open PySem PySem.Spec PyProof.Rows L2
def lawC (sz : Nat) : List (Str × Addr) := cellsFrom (sz + 1) (defScope (top 36)).names []
def lawQ : Str := Str.ofString "law.<locals>.<lambda>"
def lamE0 : Expr := (exAt (exAt (stVal (stAt (defBody (top 36)) 18)) 0) 0)
def lamE1 : Expr := (exAt (exAt (stVal (stAt (defBody (top 36)) 16)) 0) 0)
def lamE2 : Expr := (exAt (exAt (stVal (stAt (defBody (top 36)) 12)) 0) 0)
def lamE3 : Expr := (exAt (exAt (exAt (stVal (stAt (defBody (top 36)) 10)) 0) 1) 0)
def lamE4 : Expr := (exAt (exAt (exAt (stVal (stAt (defBody (top 36)) 10)) 0) 0) 0)
def lamE5 : Expr := (exAt (exAt (stVal (stAt (defBody (top 36)) 8)) 0) 0)
def lamE6 : Expr := (exAt (stVal (stAt (defBody (top 36)) 6)) 1)
def lamE7 : Expr := (exAt (stVal (stAt (defBody (top 36)) 6)) 0)
def lamE8 : Expr := (exAt (stVal (stAt (defBody (top 36)) 3)) 2)
def lamE9 : Expr := (exAt (stVal (stAt (defBody (top 36)) 3)) 1)
def lamE10 : Expr := (exAt (stVal (stAt (defBody (top 36)) 3)) 0)
def LD (sz : Nat) : Nat → LamD
  | 0 => lamOf lamE0 lawQ (lawC sz) false
  | 1 => lamOf lamE1 lawQ (lawC sz) false
  | 2 => lamOf lamE2 lawQ (lawC sz) false
  | 3 => lamOf lamE3 lawQ (lawC sz) true
  | 4 => lamOf lamE4 lawQ (lawC sz) false
  | 5 => lamOf lamE5 lawQ (lawC sz) true
  | 6 => lamOf lamE6 lawQ (lawC sz) true
  | 7 => lamOf lamE7 lawQ (lawC sz) false
  | 8 => lamOf lamE8 lawQ (lawC sz) true
  | 9 => lamOf lamE9 lawQ (lawC sz) true
  | 10 => lamOf lamE10 lawQ (lawC sz) false
  | _ => default
section
variable [TN]
theorem lsc_0 : lscB ["script", "calls", "odd", "bad", "many", "p", "row", "call", "place"] (defScope (top 36)) (lamOf lamE0 lawQ [] false).scope [] = true := by decide +kernel
theorem lno_0 : noB ["script", "calls", "odd", "bad", "many", "p", "row", "call", "place"] [7] (lamOf lamE0 lawQ [] false).scope = true := by decide +kernel
theorem lfr_0 : frB (defScope (top 36)) (lamOf lamE0 lawQ [] false).scope = true := by decide +kernel
theorem lj_0 {G : Gm} {n : Nat} {f : Addr} (l_seen : FnHas G n "seen" ["p", "many", "size", "secret", "lot"] (spP G 5 (F_seen n))) (l_rebuilt : FnHas G n "rebuilt" ["p", "points"] (spP G 2 (F_rebuilt n))) (l_dealt : FnHas G n "dealt" ["p", "many", "secret", "coins"] (spP G 4 (F_dealt n))) (l_u_law_pick : FnHas G n "_law_pick" ["row", "things"] (spM G 2 (F_u_law_pick n))) (z_range : G.mg "range" = none) (z_tuple : G.mg "tuple" = none) (cdv : Value) (A : Around) (outer : List PySem.Env) (s : Shared) (H : Hp) (E : XK) : LamJ G (bodyX G ["script", "calls", "odd", "bad", "many", "p", "row", "call", "place"] "law" (defScope (top 36)) f cdv A outer s H E) n [7] (LD s.heap.objs.size 0) (L_0 n) :=
  ⟨.inl ⟨rfl, fun _ _ _ => rfl⟩, fun _ => ⟨[], lsc_by lsc_0⟩, fun _ => rfl, fun _ => no_by lno_0, fun A1 o1 s1 H1 E1 f1 c1 SL =>
    m_p (xcall SL l_seen (a_cons (xv 5) (a_cons (xv 4) (a_cons (x_int) (a_cons (x_int) (a_cons (xv 3) (a_nil)))))) (many_cons (many_cons (many_cons (many_cons (many_cons (many_nil)))))))⟩
theorem lsc_1 : lscB ["script", "calls", "odd", "bad", "many", "p", "row", "call", "place"] (defScope (top 36)) (lamOf lamE1 lawQ [] false).scope [] = true := by decide +kernel
theorem lno_1 : noB ["script", "calls", "odd", "bad", "many", "p", "row", "call", "place"] [7] (lamOf lamE1 lawQ [] false).scope = true := by decide +kernel
theorem lfr_1 : frB (defScope (top 36)) (lamOf lamE1 lawQ [] false).scope = true := by decide +kernel
theorem lj_1 {G : Gm} {n : Nat} {f : Addr} (l_seen : FnHas G n "seen" ["p", "many", "size", "secret", "lot"] (spP G 5 (F_seen n))) (l_rebuilt : FnHas G n "rebuilt" ["p", "points"] (spP G 2 (F_rebuilt n))) (l_dealt : FnHas G n "dealt" ["p", "many", "secret", "coins"] (spP G 4 (F_dealt n))) (l_u_law_pick : FnHas G n "_law_pick" ["row", "things"] (spM G 2 (F_u_law_pick n))) (z_range : G.mg "range" = none) (z_tuple : G.mg "tuple" = none) (cdv : Value) (A : Around) (outer : List PySem.Env) (s : Shared) (H : Hp) (E : XK) : LamJ G (bodyX G ["script", "calls", "odd", "bad", "many", "p", "row", "call", "place"] "law" (defScope (top 36)) f cdv A outer s H E) n [7] (LD s.heap.objs.size 1) (L_1 n) :=
  ⟨.inl ⟨rfl, fun _ _ _ => rfl⟩, fun _ => ⟨[], lsc_by lsc_1⟩, fun _ => rfl, fun _ => no_by lno_1, fun A1 o1 s1 H1 E1 f1 c1 SL =>
    m_p (xcall SL l_rebuilt (a_cons (xv 5) (a_cons (xv 3) (a_nil))) (many_cons (many_cons (many_nil))))⟩
theorem lsc_2 : lscB ["script", "calls", "odd", "bad", "many", "p", "row", "call", "place"] (defScope (top 36)) (lamOf lamE2 lawQ [] false).scope [] = true := by decide +kernel
theorem lno_2 : noB ["script", "calls", "odd", "bad", "many", "p", "row", "call", "place"] [7] (lamOf lamE2 lawQ [] false).scope = true := by decide +kernel
theorem lfr_2 : frB (defScope (top 36)) (lamOf lamE2 lawQ [] false).scope = true := by decide +kernel
theorem lj_2 {G : Gm} {n : Nat} {f : Addr} (l_seen : FnHas G n "seen" ["p", "many", "size", "secret", "lot"] (spP G 5 (F_seen n))) (l_rebuilt : FnHas G n "rebuilt" ["p", "points"] (spP G 2 (F_rebuilt n))) (l_dealt : FnHas G n "dealt" ["p", "many", "secret", "coins"] (spP G 4 (F_dealt n))) (l_u_law_pick : FnHas G n "_law_pick" ["row", "things"] (spM G 2 (F_u_law_pick n))) (z_range : G.mg "range" = none) (z_tuple : G.mg "tuple" = none) (cdv : Value) (A : Around) (outer : List PySem.Env) (s : Shared) (H : Hp) (E : XK) : LamJ G (bodyX G ["script", "calls", "odd", "bad", "many", "p", "row", "call", "place"] "law" (defScope (top 36)) f cdv A outer s H E) n [7] (LD s.heap.objs.size 2) (L_2 n) :=
  ⟨.inl ⟨rfl, fun _ _ _ => rfl⟩, fun _ => ⟨[], lsc_by lsc_2⟩, fun _ => rfl, fun _ => no_by lno_2, fun A1 o1 s1 H1 E1 f1 c1 SL =>
    m_p (xcall SL l_dealt (a_cons (xv 5) (a_cons (xv 4) (a_cons (x_int) (a_cons (xv 3) (a_nil))))) (many_cons (many_cons (many_cons (many_cons (many_nil))))))⟩
theorem lsc_3 : lscB ["script", "calls", "odd", "bad", "many", "p", "row", "call", "place"] (defScope (top 36)) (lamOf lamE3 lawQ [] false).scope ["a"] = true := by decide +kernel
theorem lno_3 : noB ["script", "calls", "odd", "bad", "many", "p", "row", "call", "place"] [7] (lamOf lamE3 lawQ [] false).scope = true := by decide +kernel
theorem lfr_3 : frB (defScope (top 36)) (lamOf lamE3 lawQ [] false).scope = true := by decide +kernel
theorem lj_3 {G : Gm} {n : Nat} {f : Addr} (l_seen : FnHas G n "seen" ["p", "many", "size", "secret", "lot"] (spP G 5 (F_seen n))) (l_rebuilt : FnHas G n "rebuilt" ["p", "points"] (spP G 2 (F_rebuilt n))) (l_dealt : FnHas G n "dealt" ["p", "many", "secret", "coins"] (spP G 4 (F_dealt n))) (l_u_law_pick : FnHas G n "_law_pick" ["row", "things"] (spM G 2 (F_u_law_pick n))) (z_range : G.mg "range" = none) (z_tuple : G.mg "tuple" = none) (cdv : Value) (A : Around) (outer : List PySem.Env) (s : Shared) (H : Hp) (E : XK) : LamJ G (bodyX G ["script", "calls", "odd", "bad", "many", "p", "row", "call", "place"] "law" (defScope (top 36)) f cdv A outer s H E) n [7] (LD s.heap.objs.size 3) (L_3 n) :=
  ⟨.inr ⟨rfl, "a", rfl, fun d pm cdv ctv => ⟨_, rfl, fun _ => rfl⟩⟩, fun _ => ⟨["a"], lsc_by lsc_3⟩, fun _ => rfl, fun _ => no_by lno_3, fun A1 o1 s1 H1 E1 f1 c1 SL =>
    m_p (xcall SL l_seen (a_cons (xv 5) (a_cons (xv 4) (a_cons (x_int) (a_cons (xv 3) (a_cons (x_non) (a_nil)))))) (many_cons (many_cons (many_cons (many_cons (many_cons (many_nil)))))))⟩
theorem lsc_4 : lscB ["script", "calls", "odd", "bad", "many", "p", "row", "call", "place"] (defScope (top 36)) (lamOf lamE4 lawQ [] false).scope [] = true := by decide +kernel
theorem lno_4 : noB ["script", "calls", "odd", "bad", "many", "p", "row", "call", "place"] [7] (lamOf lamE4 lawQ [] false).scope = true := by decide +kernel
theorem lfr_4 : frB (defScope (top 36)) (lamOf lamE4 lawQ [] false).scope = true := by decide +kernel
theorem lj_4 {G : Gm} {n : Nat} {f : Addr} (l_seen : FnHas G n "seen" ["p", "many", "size", "secret", "lot"] (spP G 5 (F_seen n))) (l_rebuilt : FnHas G n "rebuilt" ["p", "points"] (spP G 2 (F_rebuilt n))) (l_dealt : FnHas G n "dealt" ["p", "many", "secret", "coins"] (spP G 4 (F_dealt n))) (l_u_law_pick : FnHas G n "_law_pick" ["row", "things"] (spM G 2 (F_u_law_pick n))) (z_range : G.mg "range" = none) (z_tuple : G.mg "tuple" = none) (cdv : Value) (A : Around) (outer : List PySem.Env) (s : Shared) (H : Hp) (E : XK) : LamJ G (bodyX G ["script", "calls", "odd", "bad", "many", "p", "row", "call", "place"] "law" (defScope (top 36)) f cdv A outer s H E) n [7] (LD s.heap.objs.size 4) (L_4 n) :=
  ⟨.inl ⟨rfl, fun _ _ _ => rfl⟩, fun _ => ⟨[], lsc_by lsc_4⟩, fun _ => rfl, fun _ => no_by lno_4, fun A1 o1 s1 H1 E1 f1 c1 SL =>
    m_p (xcall SL l_dealt (a_cons (xv 5) (a_cons (xv 4) (a_cons (xv 3) (a_cons (x_non) (a_nil))))) (many_cons (many_cons (many_cons (many_cons (many_nil))))))⟩
theorem lsc_5 : lscB ["script", "calls", "odd", "bad", "many", "p", "row", "call", "place"] (defScope (top 36)) (lamOf lamE5 lawQ [] false).scope ["b"] = true := by decide +kernel
theorem lno_5 : noB ["script", "calls", "odd", "bad", "many", "p", "row", "call", "place"] [7] (lamOf lamE5 lawQ [] false).scope = true := by decide +kernel
theorem lfr_5 : frB (defScope (top 36)) (lamOf lamE5 lawQ [] false).scope = true := by decide +kernel
theorem lj_5 {G : Gm} {n : Nat} {f : Addr} (l_seen : FnHas G n "seen" ["p", "many", "size", "secret", "lot"] (spP G 5 (F_seen n))) (l_rebuilt : FnHas G n "rebuilt" ["p", "points"] (spP G 2 (F_rebuilt n))) (l_dealt : FnHas G n "dealt" ["p", "many", "secret", "coins"] (spP G 4 (F_dealt n))) (l_u_law_pick : FnHas G n "_law_pick" ["row", "things"] (spM G 2 (F_u_law_pick n))) (z_range : G.mg "range" = none) (z_tuple : G.mg "tuple" = none) (cdv : Value) (A : Around) (outer : List PySem.Env) (s : Shared) (H : Hp) (E : XK) : LamJ G (bodyX G ["script", "calls", "odd", "bad", "many", "p", "row", "call", "place"] "law" (defScope (top 36)) f cdv A outer s H E) n [7] (LD s.heap.objs.size 5) (L_5 n) :=
  ⟨.inr ⟨rfl, "b", rfl, fun d pm cdv ctv => ⟨_, rfl, fun _ => rfl⟩⟩, fun _ => ⟨["b"], lsc_by lsc_5⟩, fun _ => rfl, fun _ => no_by lno_5, fun A1 o1 s1 H1 E1 f1 c1 SL =>
    m_call SL l_seen (ml_cons (m_p (xv 5)) (ml_cons (m_p (xv 4)) (ml_cons (m_callIO SL l_u_law_pick (ar_io 6 (ar_x (x_lst (a_cons (x_non) (a_cons (x_int) (a_cons (x_int) (a_cons (x_bl) (a_nil))))) (many_cons (many_cons (many_cons (many_cons (many_nil))))).le) (ar_nil))) rfl (by decide)) (ml_cons (m_p (x_non)) (ml_cons (m_p (x_non)) (ml_nil)))))) (manyM_cons (manyM_cons (manyM_cons (manyM_cons (manyM_cons (manyM_nil))))))⟩
theorem lsc_6 : lscB ["script", "calls", "odd", "bad", "many", "p", "row", "call", "place"] (defScope (top 36)) (lamOf lamE6 lawQ [] false).scope ["a"] = true := by decide +kernel
theorem lno_6 : noB ["script", "calls", "odd", "bad", "many", "p", "row", "call", "place"] [7] (lamOf lamE6 lawQ [] false).scope = true := by decide +kernel
theorem lfr_6 : frB (defScope (top 36)) (lamOf lamE6 lawQ [] false).scope = true := by decide +kernel
theorem lj_6 {G : Gm} {n : Nat} {f : Addr} (l_seen : FnHas G n "seen" ["p", "many", "size", "secret", "lot"] (spP G 5 (F_seen n))) (l_rebuilt : FnHas G n "rebuilt" ["p", "points"] (spP G 2 (F_rebuilt n))) (l_dealt : FnHas G n "dealt" ["p", "many", "secret", "coins"] (spP G 4 (F_dealt n))) (l_u_law_pick : FnHas G n "_law_pick" ["row", "things"] (spM G 2 (F_u_law_pick n))) (z_range : G.mg "range" = none) (z_tuple : G.mg "tuple" = none) (cdv : Value) (A : Around) (outer : List PySem.Env) (s : Shared) (H : Hp) (E : XK) : LamJ G (bodyX G ["script", "calls", "odd", "bad", "many", "p", "row", "call", "place"] "law" (defScope (top 36)) f cdv A outer s H E) n [7] (LD s.heap.objs.size 6) (L_6 n) :=
  ⟨.inr ⟨rfl, "a", rfl, fun d pm cdv ctv => ⟨_, rfl, fun _ => rfl⟩⟩, fun _ => ⟨["a"], lsc_by lsc_6⟩, fun _ => rfl, fun _ => no_by lno_6, fun A1 o1 s1 H1 E1 f1 c1 SL =>
    m_p (xcall SL l_seen (a_cons (xv 5) (a_cons (xv 3) (a_cons (x_non) (a_cons (x_non) (a_cons (x_non) (a_nil)))))) (many_cons (many_cons (many_cons (many_cons (many_cons (many_nil)))))))⟩
theorem lsc_7 : lscB ["script", "calls", "odd", "bad", "many", "p", "row", "call", "place"] (defScope (top 36)) (lamOf lamE7 lawQ [] false).scope [] = true := by decide +kernel
theorem lno_7 : noB ["script", "calls", "odd", "bad", "many", "p", "row", "call", "place"] [7] (lamOf lamE7 lawQ [] false).scope = true := by decide +kernel
theorem lfr_7 : frB (defScope (top 36)) (lamOf lamE7 lawQ [] false).scope = true := by decide +kernel
theorem lj_7 {G : Gm} {n : Nat} {f : Addr} (l_seen : FnHas G n "seen" ["p", "many", "size", "secret", "lot"] (spP G 5 (F_seen n))) (l_rebuilt : FnHas G n "rebuilt" ["p", "points"] (spP G 2 (F_rebuilt n))) (l_dealt : FnHas G n "dealt" ["p", "many", "secret", "coins"] (spP G 4 (F_dealt n))) (l_u_law_pick : FnHas G n "_law_pick" ["row", "things"] (spM G 2 (F_u_law_pick n))) (z_range : G.mg "range" = none) (z_tuple : G.mg "tuple" = none) (cdv : Value) (A : Around) (outer : List PySem.Env) (s : Shared) (H : Hp) (E : XK) : LamJ G (bodyX G ["script", "calls", "odd", "bad", "many", "p", "row", "call", "place"] "law" (defScope (top 36)) f cdv A outer s H E) n [7] (LD s.heap.objs.size 7) (L_7 n) :=
  ⟨.inl ⟨rfl, fun _ _ _ => rfl⟩, fun _ => ⟨[], lsc_by lsc_7⟩, fun _ => rfl, fun _ => no_by lno_7, fun A1 o1 s1 H1 E1 f1 c1 SL =>
    m_p (xcall SL l_dealt (a_cons (xv 5) (a_cons (xv 3) (a_cons (x_non) (a_cons (x_non) (a_nil))))) (many_cons (many_cons (many_cons (many_cons (many_nil))))))⟩
theorem lsc_8 : lscB ["script", "calls", "odd", "bad", "many", "p", "row", "call", "place"] (defScope (top 36)) (lamOf lamE8 lawQ [] false).scope ["b"] = true := by decide +kernel
theorem lno_8 : noB ["script", "calls", "odd", "bad", "many", "p", "row", "call", "place"] [7] (lamOf lamE8 lawQ [] false).scope = true := by decide +kernel
theorem lfr_8 : frB (defScope (top 36)) (lamOf lamE8 lawQ [] false).scope = true := by decide +kernel
theorem lj_8 {G : Gm} {n : Nat} {f : Addr} (l_seen : FnHas G n "seen" ["p", "many", "size", "secret", "lot"] (spP G 5 (F_seen n))) (l_rebuilt : FnHas G n "rebuilt" ["p", "points"] (spP G 2 (F_rebuilt n))) (l_dealt : FnHas G n "dealt" ["p", "many", "secret", "coins"] (spP G 4 (F_dealt n))) (l_u_law_pick : FnHas G n "_law_pick" ["row", "things"] (spM G 2 (F_u_law_pick n))) (z_range : G.mg "range" = none) (z_tuple : G.mg "tuple" = none) (cdv : Value) (A : Around) (outer : List PySem.Env) (s : Shared) (H : Hp) (E : XK) : LamJ G (bodyX G ["script", "calls", "odd", "bad", "many", "p", "row", "call", "place"] "law" (defScope (top 36)) f cdv A outer s H E) n [7] (LD s.heap.objs.size 8) (L_8 n) :=
  ⟨.inr ⟨rfl, "b", rfl, fun d pm cdv ctv => ⟨_, rfl, fun _ => rfl⟩⟩, fun _ => ⟨["b"], lsc_by lsc_8⟩, fun _ => rfl, fun _ => no_by lno_8, fun A1 o1 s1 H1 E1 f1 c1 SL =>
    m_p (xcall SL l_seen (a_cons (xv 3) (a_cons (x_non) (a_cons (x_non) (a_cons (x_non) (a_cons (x_non) (a_nil)))))) (many_cons (many_cons (many_cons (many_cons (many_cons (many_nil)))))))⟩
theorem lsc_9 : lscB ["script", "calls", "odd", "bad", "many", "p", "row", "call", "place"] (defScope (top 36)) (lamOf lamE9 lawQ [] false).scope ["a"] = true := by decide +kernel
theorem lno_9 : noB ["script", "calls", "odd", "bad", "many", "p", "row", "call", "place"] [7] (lamOf lamE9 lawQ [] false).scope = true := by decide +kernel
theorem lfr_9 : frB (defScope (top 36)) (lamOf lamE9 lawQ [] false).scope = true := by decide +kernel
theorem lj_9 {G : Gm} {n : Nat} {f : Addr} (l_seen : FnHas G n "seen" ["p", "many", "size", "secret", "lot"] (spP G 5 (F_seen n))) (l_rebuilt : FnHas G n "rebuilt" ["p", "points"] (spP G 2 (F_rebuilt n))) (l_dealt : FnHas G n "dealt" ["p", "many", "secret", "coins"] (spP G 4 (F_dealt n))) (l_u_law_pick : FnHas G n "_law_pick" ["row", "things"] (spM G 2 (F_u_law_pick n))) (z_range : G.mg "range" = none) (z_tuple : G.mg "tuple" = none) (cdv : Value) (A : Around) (outer : List PySem.Env) (s : Shared) (H : Hp) (E : XK) : LamJ G (bodyX G ["script", "calls", "odd", "bad", "many", "p", "row", "call", "place"] "law" (defScope (top 36)) f cdv A outer s H E) n [7] (LD s.heap.objs.size 9) (L_9 n) :=
  ⟨.inr ⟨rfl, "a", rfl, fun d pm cdv ctv => ⟨_, rfl, fun _ => rfl⟩⟩, fun _ => ⟨["a"], lsc_by lsc_9⟩, fun _ => rfl, fun _ => no_by lno_9, fun A1 o1 s1 H1 E1 f1 c1 SL =>
    m_p (xcall SL l_rebuilt (a_cons (xv 3) (a_cons (x_non) (a_nil))) (many_cons (many_cons (many_nil))))⟩
theorem lsc_10 : lscB ["script", "calls", "odd", "bad", "many", "p", "row", "call", "place"] (defScope (top 36)) (lamOf lamE10 lawQ [] false).scope [] = true := by decide +kernel
theorem lno_10 : noB ["script", "calls", "odd", "bad", "many", "p", "row", "call", "place"] [7] (lamOf lamE10 lawQ [] false).scope = true := by decide +kernel
theorem lfr_10 : frB (defScope (top 36)) (lamOf lamE10 lawQ [] false).scope = true := by decide +kernel
theorem lj_10 {G : Gm} {n : Nat} {f : Addr} (l_seen : FnHas G n "seen" ["p", "many", "size", "secret", "lot"] (spP G 5 (F_seen n))) (l_rebuilt : FnHas G n "rebuilt" ["p", "points"] (spP G 2 (F_rebuilt n))) (l_dealt : FnHas G n "dealt" ["p", "many", "secret", "coins"] (spP G 4 (F_dealt n))) (l_u_law_pick : FnHas G n "_law_pick" ["row", "things"] (spM G 2 (F_u_law_pick n))) (z_range : G.mg "range" = none) (z_tuple : G.mg "tuple" = none) (cdv : Value) (A : Around) (outer : List PySem.Env) (s : Shared) (H : Hp) (E : XK) : LamJ G (bodyX G ["script", "calls", "odd", "bad", "many", "p", "row", "call", "place"] "law" (defScope (top 36)) f cdv A outer s H E) n [7] (LD s.heap.objs.size 10) (L_10 n) :=
  ⟨.inl ⟨rfl, fun _ _ _ => rfl⟩, fun _ => ⟨[], lsc_by lsc_10⟩, fun _ => rfl, fun _ => no_by lno_10, fun A1 o1 s1 H1 E1 f1 c1 SL =>
    m_p (xcall SL l_dealt (a_cons (xv 3) (a_cons (x_non) (a_cons (x_non) (a_cons (x_non) (a_nil))))) (many_cons (many_cons (many_cons (many_cons (many_nil))))))⟩
theorem sc_law : FnScope ["script", "calls", "odd", "bad", "many", "p", "row", "call", "place"] ["script"] (defScope (top 36)) := ⟨rfl, rfl, rfl, by decide +kernel, rfl, by decide +kernel, by decide +kernel⟩
theorem ss_law {G : Gm} {n : Nat} {f : Addr} (h_u_law_pick : FnHas G (n + 3) "_law_pick" ["row", "things"] (spM G 2 (F_u_law_pick (n + 3)))) (h_u_law_taken : FnHas G (n + 3) "_law_taken" ["row", "many"] (spM G 2 (F_u_law_taken (n + 3)))) (z_range : G.mg "range" = none) (z_tuple : G.mg "tuple" = none) (cdv : Value) (A : Around) (outer : List PySem.Env) (s : Shared) (H : Hp) (E : XK) (S : Sits G (bodyX G ["script", "calls", "odd", "bad", "many", "p", "row", "call", "place"] "law" (defScope (top 36)) f cdv A outer s H E) (n + 3) (bodyW E)) (el : G.F.L = LD s.heap.objs.size) (M : Mk G (bodyX G ["script", "calls", "odd", "bad", "many", "p", "row", "call", "place"] "law" (defScope (top 36)) f cdv A outer s H E) lawQ) (C : Catch G "_law_error" "call" CZ ES HM) (J0 : LamJ G (bodyX G ["script", "calls", "odd", "bad", "many", "p", "row", "call", "place"] "law" (defScope (top 36)) f cdv A outer s H E) n [7] (LD s.heap.objs.size 0) (L_0 n)) (J1 : LamJ G (bodyX G ["script", "calls", "odd", "bad", "many", "p", "row", "call", "place"] "law" (defScope (top 36)) f cdv A outer s H E) n [7] (LD s.heap.objs.size 1) (L_1 n)) (J2 : LamJ G (bodyX G ["script", "calls", "odd", "bad", "many", "p", "row", "call", "place"] "law" (defScope (top 36)) f cdv A outer s H E) n [7] (LD s.heap.objs.size 2) (L_2 n)) (J3 : LamJ G (bodyX G ["script", "calls", "odd", "bad", "many", "p", "row", "call", "place"] "law" (defScope (top 36)) f cdv A outer s H E) n [7] (LD s.heap.objs.size 3) (L_3 n)) (J4 : LamJ G (bodyX G ["script", "calls", "odd", "bad", "many", "p", "row", "call", "place"] "law" (defScope (top 36)) f cdv A outer s H E) n [7] (LD s.heap.objs.size 4) (L_4 n)) (J5 : LamJ G (bodyX G ["script", "calls", "odd", "bad", "many", "p", "row", "call", "place"] "law" (defScope (top 36)) f cdv A outer s H E) n [7] (LD s.heap.objs.size 5) (L_5 n)) (J6 : LamJ G (bodyX G ["script", "calls", "odd", "bad", "many", "p", "row", "call", "place"] "law" (defScope (top 36)) f cdv A outer s H E) n [7] (LD s.heap.objs.size 6) (L_6 n)) (J7 : LamJ G (bodyX G ["script", "calls", "odd", "bad", "many", "p", "row", "call", "place"] "law" (defScope (top 36)) f cdv A outer s H E) n [7] (LD s.heap.objs.size 7) (L_7 n)) (J8 : LamJ G (bodyX G ["script", "calls", "odd", "bad", "many", "p", "row", "call", "place"] "law" (defScope (top 36)) f cdv A outer s H E) n [7] (LD s.heap.objs.size 8) (L_8 n)) (J9 : LamJ G (bodyX G ["script", "calls", "odd", "bad", "many", "p", "row", "call", "place"] "law" (defScope (top 36)) f cdv A outer s H E) n [7] (LD s.heap.objs.size 9) (L_9 n)) (J10 : LamJ G (bodyX G ["script", "calls", "odd", "bad", "many", "p", "row", "call", "place"] "law" (defScope (top 36)) f cdv A outer s H E) n [7] (LD s.heap.objs.size 10) (L_10 n)) : SS G (bodyX G ["script", "calls", "odd", "bad", "many", "p", "row", "call", "place"] "law" (defScope (top 36)) f cdv A outer s H E) (bodyW E) (defBody (top 36)) (m_law n) :=
  have hL : ∀ id, (∀ env, Ls n id env = .bad) ∨ LamJ G (bodyX G ["script", "calls", "odd", "bad", "many", "p", "row", "call", "place"] "law" (defScope (top 36)) f cdv A outer s H E) n [7] (G.F.L id) (Ls n id) := fun id => by
    rw [el]
    exact match id with
    | 0 => .inr J0
    | 1 => .inr J1
    | 2 => .inr J2
    | 3 => .inr J3
    | 4 => .inr J4
    | 5 => .inr J5
    | 6 => .inr J6
    | 7 => .inr J7
    | 8 => .inr J8
    | 9 => .inr J9
    | 10 => .inr J10
    | _ + 11 => .inl fun _ => rfl
  ss_cons (sown S 6 (f_lst (a_cons (xv 0) (a_cons (x_int) (a_cons (x_int) (a_cons (x_int) (a_nil))))) (many_cons (many_cons (many_cons (many_cons (many_nil))))).le)) (ss_cons (s_asgM S (m_tup (ml_cons (m_callIO S h_u_law_pick (ar_io 6 (ar_x (x_lst (a_cons (x_int) (a_cons (x_int) (a_cons (x_int) (a_cons (x_int) (a_nil))))) (many_cons (many_cons (many_cons (many_cons (many_nil))))).le) (ar_nil))) rfl (by decide)) (ml_cons (m_op j_add (fun i => by rw [← S.K i]; exact op_addAll) (m_p (x_int)) (m_callIO S h_u_law_taken (ar_io 6 (ar_x (x_int) (ar_nil))) rfl (by decide))) (ml_nil))) (manyM_cons (manyM_cons (manyM_nil)))) (g_tup S (gs_cons (gn S 5) (gs_cons (gn S 4) (gs_nil))))) (ss_cons (s_setM (i := 3) S (m_callIO S h_u_law_pick (ar_io 6 (ar_x (x_lst (a_cons (x_non) (a_cons (x_int) (a_cons (x_int) (a_cons (x_int) (a_cons (x_int) (a_cons (x_int) (a_cons (x_int) (a_cons (x_bl) (a_cons (x_str) (a_cons (x_tup (a_cons (x_int) (a_nil)) (many_cons (many_nil)).le) (a_cons (x_neg ((x_int).br)) (a_cons (x_lst (a_nil) (many_nil).le) (a_nil))))))))))))) (many_cons (many_cons (many_cons (many_cons (many_cons (many_cons (many_cons (many_cons (many_cons (many_cons (many_cons (many_cons (many_nil))))))))))))).le) (ar_nil))) rfl (by decide))) (ss_cons (sset S 1 (x_lst (a_cons (xlam0 S M (id := 10) (congrFun el 10) rfl (fun _ => clo_in lfr_10)) (a_cons (xlam1 S M (id := 9) (congrFun el 9) rfl (fun _ => clo_in lfr_9)) (a_cons (xlam1 S M (id := 8) (congrFun el 8) rfl (fun _ => clo_in lfr_8)) (a_nil)))) (many_cons (many_cons (many_cons (many_nil)))).le)) (ss_cons (s_ifM (mt_cmp j_ne (fun i => by rw [← S.K i]; exact op_neD (S.room i).units) (m_compL (own := [("call", 7)]) S C 7 hL (wl_seq S (xv 1)) (fun _ => blkOk_by (by rfl)) (gn (S.blk _) 7) j_ne (fun i => by rw [← (S.blk _).K i]; exact op_neD ((S.blk _).room i).units) (m_p (x_str)) (m_p (xv 7)) (nomark _) (by decide)) (m_p (x_lst (a_nil) (many_nil).le)) (nomark _)) (ss_one (s_ret (x_bl))) (ss_nil)) (ss_cons (s_setM (i := 3) S (m_callIO S h_u_law_pick (ar_io 6 (ar_x (x_lst (a_cons (x_non) (a_cons (x_int) (a_cons (x_int) (a_cons (x_bl) (a_cons (x_str) (a_cons (x_tup (a_cons (x_int) (a_nil)) (many_cons (many_nil)).le) (a_cons (x_lst (a_nil) (many_nil).le) (a_nil)))))))) (many_cons (many_cons (many_cons (many_cons (many_cons (many_cons (many_cons (many_nil)))))))).le) (ar_nil))) rfl (by decide))) (ss_cons (sset S 1 (x_lst (a_cons (xlam0 S M (id := 7) (congrFun el 7) rfl (fun _ => clo_in lfr_7)) (a_cons (xlam1 S M (id := 6) (congrFun el 6) rfl (fun _ => clo_in lfr_6)) (a_nil))) (many_cons (many_cons (many_nil))).le)) (ss_cons (s_ifM (mt_cmp j_ne (fun i => by rw [← S.K i]; exact op_neD (S.room i).units) (m_compL (own := [("call", 7)]) S C 7 hL (wl_seq S (xv 1)) (fun _ => blkOk_by (by rfl)) (gn (S.blk _) 7) j_ne (fun i => by rw [← (S.blk _).K i]; exact op_neD ((S.blk _).room i).units) (m_p (x_str)) (m_p (xv 7)) (nomark _) (by decide)) (m_p (x_lst (a_nil) (many_nil).le)) (nomark _)) (ss_one (s_ret (x_bl))) (ss_nil)) (ss_cons (s_ifM (mt_cmp j_ne (fun i => by rw [← S.K i]; exact op_neD (S.room i).units) (m_lerrL S C J5.none (plam1 S M rfl (fun _ => clo_in lfr_5))) (m_p (x_str)) (nomark _)) (ss_one (s_ret (x_bl))) (ss_nil)) (ss_cons (s_setM (i := 3) S (m_callIO S h_u_law_pick (ar_io 6 (ar_x (x_lst (a_cons (x_non) (a_cons (x_neg ((x_int).br)) (a_cons (xv 5) (a_cons (x_bl) (a_cons (x_str) (a_cons (x_tup (a_cons (x_int) (a_nil)) (many_cons (many_nil)).le) (a_cons (x_lst (a_nil) (many_nil).le) (a_nil)))))))) (many_cons (many_cons (many_cons (many_cons (many_cons (many_cons (many_cons (many_nil)))))))).le) (ar_nil))) rfl (by decide))) (ss_cons (s_ifM (mt_cmp j_ne (fun i => by rw [← S.K i]; exact op_neD (S.room i).units) (m_lst (ml_cons (m_lerrL S C J4.none (plam0 S M rfl (fun _ => clo_in lfr_4))) (ml_cons (m_lerrL S C J3.none (plam1 S M rfl (fun _ => clo_in lfr_3))) (ml_nil))) (manyM_cons (manyM_cons (manyM_nil)))) (m_p ((f_repL S (f_lst (a_cons (x_str) (a_nil)) (many_cons (many_nil)).le)).x)) (nomark _)) (ss_one (s_ret (x_bl))) (ss_nil)) (ss_cons (s_setM (i := 3) S (m_callIO S h_u_law_pick (ar_io 6 (ar_x (x_lst (a_cons (x_non) (a_cons (x_tup (a_nil) (many_nil).le) (a_cons (x_op j_mul (fun i => by rw [← S.K i]; exact op_mulAll) ((x_tup (a_cons (x_int) (a_nil)) (many_cons (many_nil)).le).br) ((x_int).br)) (a_cons (x_tup (a_cons (xv 5) (a_nil)) (many_cons (many_nil)).le) (a_cons (x_tup (a_cons (x_neg ((x_int).br)) (a_nil)) (many_cons (many_nil)).le) (a_cons (x_tup (a_cons (x_bl) (a_nil)) (many_cons (many_nil)).le) (a_cons (x_lst (a_cons (x_int) (a_nil)) (many_cons (many_nil)).le) (a_cons (x_str) (a_cons ((f_dnewK).x) (a_cons (x_tup (a_cons (x_non) (a_nil)) (many_cons (many_nil)).le) (a_cons (x_tup (a_cons (x_lst (a_nil) (many_nil).le) (a_nil)) (many_cons (many_nil)).le) (a_nil)))))))))))) (many_cons (many_cons (many_cons (many_cons (many_cons (many_cons (many_cons (many_cons (many_cons (many_cons (many_cons (many_nil)))))))))))).le) (ar_nil))) rfl (by decide))) (ss_cons (s_ifM (mt_cmp j_ne (fun i => by rw [← S.K i]; exact op_neD (S.room i).units) (m_lerrL S C J2.none (plam0 S M rfl (fun _ => clo_in lfr_2))) (m_p (x_str)) (nomark _)) (ss_one (s_ret (x_bl))) (ss_nil)) (ss_cons (sset S 2 (x_lst (a_cons (x_non) (a_cons (x_tup (a_nil) (many_nil).le) (a_cons (x_op j_mul (fun i => by rw [← S.K i]; exact op_mulAll) ((x_tup (a_cons (x_tup (a_cons (x_int) (a_cons (x_int) (a_nil))) (many_cons (many_cons (many_nil))).le) (a_nil)) (many_cons (many_nil)).le).br) ((x_int).br)) (a_cons (x_tup (a_cons (x_tup (a_cons (x_int) (a_cons (x_int) (a_nil))) (many_cons (many_cons (many_nil))).le) (a_cons (x_tup (a_cons (x_int) (a_cons (x_int) (a_nil))) (many_cons (many_cons (many_nil))).le) (a_nil))) (many_cons (many_cons (many_nil))).le) (a_cons (x_tup (a_cons (x_tup (a_cons (x_int) (a_cons (x_int) (a_nil))) (many_cons (many_cons (many_nil))).le) (a_nil)) (many_cons (many_nil)).le) (a_cons (x_tup (a_cons (x_tup (a_cons (xv 5) (a_cons (x_int) (a_nil))) (many_cons (many_cons (many_nil))).le) (a_nil)) (many_cons (many_nil)).le) (a_cons (x_tup (a_cons (x_tup (a_cons (x_int) (a_cons (xv 5) (a_nil))) (many_cons (many_cons (many_nil))).le) (a_nil)) (many_cons (many_nil)).le) (a_cons (x_tup (a_cons (x_tup (a_cons (x_int) (a_cons (x_neg ((x_int).br)) (a_nil))) (many_cons (many_cons (many_nil))).le) (a_nil)) (many_cons (many_nil)).le) (a_cons (x_tup (a_cons (x_tup (a_cons (x_bl) (a_cons (x_int) (a_nil))) (many_cons (many_cons (many_nil))).le) (a_nil)) (many_cons (many_nil)).le) (a_cons (x_tup (a_cons (x_tup (a_cons (x_int) (a_cons (x_bl) (a_nil))) (many_cons (many_cons (many_nil))).le) (a_nil)) (many_cons (many_nil)).le) (a_cons (x_tup (a_cons (x_tup (a_cons (x_int) (a_cons (x_int) (a_cons (x_int) (a_nil)))) (many_cons (many_cons (many_cons (many_nil)))).le) (a_nil)) (many_cons (many_nil)).le) (a_cons (x_tup (a_cons (x_lst (a_cons (x_int) (a_cons (x_int) (a_nil))) (many_cons (many_cons (many_nil))).le) (a_nil)) (many_cons (many_nil)).le) (a_cons (x_lst (a_cons (x_tup (a_cons (x_int) (a_cons (x_int) (a_nil))) (many_cons (many_cons (many_nil))).le) (a_nil)) (many_cons (many_nil)).le) (a_nil)))))))))))))) (many_cons (many_cons (many_cons (many_cons (many_cons (many_cons (many_cons (many_cons (many_cons (many_cons (many_cons (many_cons (many_cons (many_nil)))))))))))))).le)) (ss_cons (sset S 2 (x_op j_add (fun i => by rw [← S.K i]; exact op_addAll) (xb 2) ((x_lst (a_cons (x_op j_add (fun i => by rw [← S.K i]; exact op_addAll) ((xty j_tuple (fun i => by rw [← S.K i]; exact call_tuple_of) S z_tuple PyProof.Rows.boot_tuple (a_cons ((x_comp (own := [("place", 8)]) S ((wr2 S z_range (a_cons ((x_int).br) (a_cons ((x_int).br) (a_nil))) (many_cons (many_cons (many_nil)))).weak) (fun _ => blkOk_by (by rfl)) (gn (S.blk _) 8) (ts_nil) (x_tup (a_cons (xv 8) (a_cons (x_int) (a_nil))) (many_cons (many_cons (many_nil))).le) (by decide)).br) (a_nil))).br) ((x_tup (a_cons (x_tup (a_cons (x_int) (a_cons (x_int) (a_nil))) (many_cons (many_cons (many_nil))).le) (a_nil)) (many_cons (many_nil)).le).br)) (a_cons (x_tup (a_cons (x_tup (a_cons (x_int) (a_cons (x_non) (a_nil))) (many_cons (many_cons (many_nil))).le) (a_nil)) (many_cons (many_nil)).le) (a_cons (x_tup (a_cons (x_tup (a_cons (x_non) (a_cons (x_int) (a_nil))) (many_cons (many_cons (many_nil))).le) (a_nil)) (many_cons (many_nil)).le) (a_cons (x_str) (a_cons ((f_dnewK).x) (a_cons (x_tup (a_cons (x_tup (a_cons (x_lst (a_nil) (many_nil).le) (a_cons (x_int) (a_nil))) (many_cons (many_cons (many_nil))).le) (a_nil)) (many_cons (many_nil)).le) (a_cons (x_tup (a_cons (x_tup (a_cons (x_int) (a_cons (x_int) (a_nil))) (many_cons (many_cons (many_nil))).le) (a_cons (x_tup (a_cons (x_int) (a_cons (x_int) (a_nil))) (many_cons (many_cons (many_nil))).le) (a_nil))) (many_cons (many_cons (many_nil))).le) (a_nil)))))))) (many_cons (many_cons (many_cons (many_cons (many_cons (many_cons (many_cons (many_nil)))))))).le).br))) (ss_cons (s_setM (i := 3) S (m_callIO S h_u_law_pick (ar_io 6 (ar_x (x_op j_add (fun i => by rw [← S.K i]; exact op_addAll) (xb 2) ((x_if (t_cmp (j_cmp _) (fun _ => op_gt) (xb 5) ((x_int).br) (nomark _)) (x_lst (a_cons (xty j_tuple (fun i => by rw [← S.K i]; exact call_tuple_of) S z_tuple PyProof.Rows.boot_tuple (a_cons ((x_comp (own := [("place", 8)]) S ((wr2 S z_range (a_cons ((x_int).br) (a_cons ((x_int).br) (a_nil))) (many_cons (many_cons (many_nil)))).weak) (fun _ => blkOk_by (by rfl)) (gn (S.blk _) 8) (ts_nil) (x_tup (a_cons (xv 8) (a_cons (x_int) (a_nil))) (many_cons (many_cons (many_nil))).le) (by decide)).br) (a_nil))) (a_nil)) (many_cons (many_nil)).le) (x_lst (a_nil) (many_nil).le)).br)) (ar_nil))) rfl (by decide))) (ss_cons (s_ifM (mt_cmp j_ne (fun i => by rw [← S.K i]; exact op_neD (S.room i).units) (m_lerrL S C J1.none (plam0 S M rfl (fun _ => clo_in lfr_1))) (m_p (x_str)) (nomark _)) (ss_one (s_ret (x_bl))) (ss_nil)) (ss_cons (s_setM (i := 3) S (m_callIO S h_u_law_pick (ar_io 6 (ar_x (x_lst (a_cons (x_non) (a_cons (x_tup (a_nil) (many_nil).le) (a_cons (x_lst (a_cons (x_int) (a_nil)) (many_cons (many_nil)).le) (a_cons (x_tup (a_cons (x_int) (a_cons (x_int) (a_nil))) (many_cons (many_cons (many_nil))).le) (a_cons (x_tup (a_cons (x_int) (a_cons (x_int) (a_nil))) (many_cons (many_cons (many_nil))).le) (a_cons (x_tup (a_cons (xv 4) (a_nil)) (many_cons (many_nil)).le) (a_cons (x_tup (a_cons (x_neg ((x_int).br)) (a_nil)) (many_cons (many_nil)).le) (a_cons (x_tup (a_cons (x_bl) (a_nil)) (many_cons (many_nil)).le) (a_cons (x_str) (a_cons ((f_dnewK).x) (a_cons (x_int) (a_cons (x_tup (a_cons (x_non) (a_nil)) (many_cons (many_nil)).le) (a_cons (x_tup (a_cons (x_lst (a_nil) (many_nil).le) (a_nil)) (many_cons (many_nil)).le) (a_nil)))))))))))))) (many_cons (many_cons (many_cons (many_cons (many_cons (many_cons (many_cons (many_cons (many_cons (many_cons (many_cons (many_cons (many_cons (many_nil)))))))))))))).le) (ar_nil))) rfl (by decide))) (ss_one (s_retM (m_cmp j_eq (fun i => by rw [← S.K i]; exact op_eqD (S.room i).units) (m_lerrL S C J0.none (plam0 S M rfl (fun _ => clo_in lfr_0))) (m_p (x_str)) (nomark _)))))))))))))))))))))
/-- what stands in the text -/
structure There (G : Gm) : Prop where
  t_u_law_taken : FnThere G "_law_taken" ["row", "many"] (top 33)
  t_u_law_pick : FnThere G "_law_pick" ["row", "things"] (top 34)
  t_is_number : FnThere G "is_number" ["value", "least", "most"] (top 9)
  t_is_lot : FnThere G "is_lot" ["value", "many"] (top 11)
  t_require_lot : FnThere G "require_lot" ["lot", "many"] (top 21)
  t_u_require_secret : FnThere G "_require_secret" ["p", "secret"] (top 22)
  t_require_many : FnThere G "require_many" ["many"] (top 20)
  t_require_prime : FnThere G "require_prime" ["p"] (top 19)
  t_seen : FnThere G "seen" ["p", "many", "size", "secret", "lot"] (top 31)
  t_u_is_point : FnThere G "_is_point" ["p", "value"] (top 28)
  t_u_are_points : FnThere G "_are_points" ["p", "value"] (top 27)
  t_rebuilt : FnThere G "rebuilt" ["p", "points"] (top 26)
  t_are_numbers : FnThere G "are_numbers" ["value", "many", "most"] (top 10)
  t_dealt : FnThere G "dealt" ["p", "many", "secret", "coins"] (top 23)
  z_LEAST_PEOPLE : ∃ ty, G.mg "LEAST_PEOPLE" = some (.int 2 ty)
  z_MOST_COINS : ∃ ty, G.mg "MOST_COINS" = some (.int 3 ty)
  z_MOST_PEOPLE : ∃ ty, G.mg "MOST_PEOPLE" = some (.int 4 ty)
  z_MOST_POINTS : ∃ ty, G.mg "MOST_POINTS" = some (.int 5 ty)
  z_all : G.mg "all" = none
  z_bool : G.mg "bool" = none
  z_int : G.mg "int" = none
  z_isinstance : G.mg "isinstance" = none
  z_len : G.mg "len" = none
  z_range : G.mg "range" = none
  z_tuple : G.mg "tuple" = none
  z_zip : G.mg "zip" = none
  tu_PRIMES : TupAt G "PRIMES" tup_PRIMES
  e_BadCoins : ErrAt G "BadCoins" "BadCoins" "ValueError" "ValueError.__new__" "ValueError.__init__" [Value.type "ValueError", Value.type "Exception", Value.type "BaseException", Value.type "object"]
  e_BadLot : ErrAt G "BadLot" "BadLot" "ValueError" "ValueError.__new__" "ValueError.__init__" [Value.type "ValueError", Value.type "Exception", Value.type "BaseException", Value.type "object"]
  e_BadNumber : ErrAt G "BadNumber" "BadNumber" "ValueError" "ValueError.__new__" "ValueError.__init__" [Value.type "ValueError", Value.type "Exception", Value.type "BaseException", Value.type "object"]
  e_BadPoints : ErrAt G "BadPoints" "BadPoints" "ValueError" "ValueError.__new__" "ValueError.__init__" [Value.type "ValueError", Value.type "Exception", Value.type "BaseException", Value.type "object"]
  e_BadPrime : ErrAt G "BadPrime" "BadPrime" "ValueError" "ValueError.__new__" "ValueError.__init__" [Value.type "ValueError", Value.type "Exception", Value.type "BaseException", Value.type "object"]
  e_BadSecret : ErrAt G "BadSecret" "BadSecret" "ValueError" "ValueError.__new__" "ValueError.__init__" [Value.type "ValueError", Value.type "Exception", Value.type "BaseException", Value.type "object"]
  ch : Catch G "_law_error" "call" CZ ES HM
theorem There.withL {G : Gm} (T : There G) (L : Nat → LamD) : There (G.withL L) := ⟨T.t_u_law_taken, T.t_u_law_pick, T.t_is_number, T.t_is_lot, T.t_require_lot, T.t_u_require_secret, T.t_require_many, T.t_require_prime, T.t_seen, T.t_u_is_point, T.t_u_are_points, T.t_rebuilt, T.t_are_numbers, T.t_dealt, T.z_LEAST_PEOPLE, T.z_MOST_COINS, T.z_MOST_PEOPLE, T.z_MOST_POINTS, T.z_all, T.z_bool, T.z_int, T.z_isinstance, T.z_len, T.z_range, T.z_tuple, T.z_zip, ⟨T.tu_PRIMES.ex⟩, ⟨T.e_BadCoins.facts, T.e_BadCoins.ex⟩, ⟨T.e_BadLot.facts, T.e_BadLot.ex⟩, ⟨T.e_BadNumber.facts, T.e_BadNumber.ex⟩, ⟨T.e_BadPoints.facts, T.e_BadPoints.ex⟩, ⟨T.e_BadPrime.facts, T.e_BadPrime.ex⟩, ⟨T.e_BadSecret.facts, T.e_BadSecret.ex⟩, ⟨let ⟨a1, a2, a3, a4, a5, a6, a7, a8, a9, b1, b2, b3, z1, z2, z3, z4, z5⟩ := T.ch.ex; ⟨a1, a2, a3, a4, a5, a6, a7, a8, a9, b1, b2, b3, z1, z2, z3, z4.withL L, z5.1, z5.2.1, CatchOk.withL L z5.2.2.1, z5.2.2.2⟩⟩⟩
structure All (G : Gm) (n : Nat) : Prop where
  h_u_law_taken : FnHas G n "_law_taken" ["row", "many"] (spM G 2 (F_u_law_taken n))
  h_u_law_pick : FnHas G n "_law_pick" ["row", "things"] (spM G 2 (F_u_law_pick n))
  h_is_number : FnHas G n "is_number" ["value", "least", "most"] (spP G 3 (F_is_number n))
  h_is_lot : FnHas G n "is_lot" ["value", "many"] (spP G 2 (F_is_lot n))
  h_require_lot : FnHas G n "require_lot" ["lot", "many"] (spP G 2 (F_require_lot n))
  h_u_require_secret : FnHas G n "_require_secret" ["p", "secret"] (spP G 2 (F_u_require_secret n))
  h_require_many : FnHas G n "require_many" ["many"] (spP G 1 (F_require_many n))
  h_require_prime : FnHas G n "require_prime" ["p"] (spP G 1 (F_require_prime n))
  h_seen : FnHas G n "seen" ["p", "many", "size", "secret", "lot"] (spP G 5 (F_seen n))
  h_u_is_point : FnHas G n "_is_point" ["p", "value"] (spP G 2 (F_u_is_point n))
  h_u_are_points : FnHas G n "_are_points" ["p", "value"] (spP G 2 (F_u_are_points n))
  h_rebuilt : FnHas G n "rebuilt" ["p", "points"] (spP G 2 (F_rebuilt n))
  h_are_numbers : FnHas G n "are_numbers" ["value", "many", "most"] (spP G 3 (F_are_numbers n))
  h_dealt : FnHas G n "dealt" ["p", "many", "secret", "coins"] (spP G 4 (F_dealt n))
theorem all_at {G : Gm} (T : There G) : ∀ n, All G n
  | 0 => ⟨T.t_u_law_taken.noneIO rfl, T.t_u_law_pick.noneIO rfl, T.t_is_number.none rfl, T.t_is_lot.none rfl, T.t_require_lot.none rfl, T.t_u_require_secret.none rfl, T.t_require_many.none rfl, T.t_require_prime.none rfl, T.t_seen.none rfl, T.t_u_is_point.none rfl, T.t_u_are_points.none rfl, T.t_rebuilt.none rfl, T.t_are_numbers.none rfl, T.t_dealt.none rfl⟩
  | n + 1 => have A := all_at T n
    ⟨w_u_law_taken T.t_u_law_taken T.z_int T.z_len,
      w_u_law_pick T.t_u_law_pick A.h_u_law_taken T.z_len,
      w_is_number T.t_is_number T.z_isinstance T.z_bool T.z_int,
      w_is_lot T.t_is_lot A.h_is_number T.z_zip T.z_all T.z_len T.z_isinstance T.z_tuple,
      w_require_lot T.t_require_lot A.h_is_lot T.e_BadLot,
      w_u_require_secret T.t_u_require_secret A.h_is_number T.e_BadSecret,
      w_require_many T.t_require_many A.h_is_number T.z_MOST_PEOPLE.choose_spec T.z_LEAST_PEOPLE.choose_spec T.e_BadNumber,
      w_require_prime T.t_require_prime T.e_BadPrime T.tu_PRIMES,
      w_seen T.t_seen A.h_require_lot A.h_u_require_secret A.h_is_number A.h_require_many A.h_require_prime T.z_MOST_COINS.choose_spec T.e_BadNumber,
      w_u_is_point T.t_u_is_point A.h_is_number T.z_len T.z_isinstance T.z_tuple,
      w_u_are_points T.t_u_are_points A.h_u_is_point T.z_zip T.z_all T.z_len T.z_MOST_POINTS.choose_spec T.z_isinstance T.z_tuple,
      w_rebuilt T.t_rebuilt A.h_u_are_points A.h_require_prime T.e_BadPoints,
      w_are_numbers T.t_are_numbers A.h_is_number T.z_all T.z_len T.z_isinstance T.z_tuple,
      w_dealt T.t_dealt A.h_are_numbers A.h_u_require_secret A.h_require_many A.h_require_prime T.z_len T.z_MOST_COINS.choose_spec T.z_isinstance T.z_tuple T.e_BadCoins⟩
end
theorem all_mk {l : PySem.W.OpenLaw} {w : World} {K : PySem.W.Frag} {h : Heap} {mg : Str → Option Value} {fa : Addr} (X : K.In h) (Gn : h.Ns mainGlobals mg) (hfa : mg "law" = some (.ref fa)) (htab : ∀ f, mg "law" = some (.ref f) → TabOf h f)
    {f0 : Addr} {od0 an0 : Option Addr} {sl0 : Array (Option Value)} {oc0 kV0 dc0 pm0 ct0 : Value} {cd0 : Value}
    {f1 : Addr} {od1 an1 : Option Addr} {sl1 : Array (Option Value)} {oc1 kV1 dc1 pm1 ct1 : Value} {cd1 : Value}
    {f2 : Addr} {od2 an2 : Option Addr} {sl2 : Array (Option Value)} {oc2 kV2 dc2 pm2 ct2 : Value} {cd2 : Value}
    {f3 : Addr} {od3 an3 : Option Addr} {sl3 : Array (Option Value)} {oc3 kV3 dc3 pm3 ct3 : Value} {cd3 : Value}
    {f4 : Addr} {od4 an4 : Option Addr} {sl4 : Array (Option Value)} {oc4 kV4 dc4 pm4 ct4 : Value} {cd4 : Value}
    {f5 : Addr} {od5 an5 : Option Addr} {sl5 : Array (Option Value)} {oc5 kV5 dc5 pm5 ct5 : Value} {cd5 : Value}
    {f6 : Addr} {od6 an6 : Option Addr} {sl6 : Array (Option Value)} {oc6 kV6 dc6 pm6 ct6 : Value} {cd6 : Value}
    {f7 : Addr} {od7 an7 : Option Addr} {sl7 : Array (Option Value)} {oc7 kV7 dc7 pm7 ct7 : Value} {cd7 : Value}
    {f8 : Addr} {od8 an8 : Option Addr} {sl8 : Array (Option Value)} {oc8 kV8 dc8 pm8 ct8 : Value} {cd8 : Value}
    {f9 : Addr} {od9 an9 : Option Addr} {sl9 : Array (Option Value)} {oc9 kV9 dc9 pm9 ct9 : Value} {cd9 : Value}
    {f10 : Addr} {od10 an10 : Option Addr} {sl10 : Array (Option Value)} {oc10 kV10 dc10 pm10 ct10 : Value} {cd10 : Value}
    {f11 : Addr} {od11 an11 : Option Addr} {sl11 : Array (Option Value)} {oc11 kV11 dc11 pm11 ct11 : Value} {cd11 : Value}
    {f12 : Addr} {od12 an12 : Option Addr} {sl12 : Array (Option Value)} {oc12 kV12 dc12 pm12 ct12 : Value} {cd12 : Value}
    {f13 : Addr} {od13 an13 : Option Addr} {sl13 : Array (Option Value)} {oc13 kV13 dc13 pm13 ct13 : Value} {cd13 : Value}
    {f14 : Addr} {od14 an14 : Option Addr} {sl14 : Array (Option Value)} {oc14 kV14 dc14 pm14 ct14 : Value} {cd14 : Value}
    {f15 : Addr} {od15 an15 : Option Addr} {sl15 : Array (Option Value)} {oc15 kV15 dc15 pm15 ct15 : Value} {cd15 : Addr}
    {tk_LEAST_PEOPLE : Tok}    {tk_MOST_COINS : Tok}    {tk_MOST_PEOPLE : Tok}    {tk_MOST_POINTS : Tok} {A_PRIMES : Addr} {C_BadCoins : Addr} {C_BadLot : Addr} {C_BadNumber : Addr} {C_BadPoints : Addr} {C_BadPrime : Addr} {C_BadSecret : Addr} {C_TellError : Addr}
    (a0 : PySem.W.nsIn K mainGlobals "_law_taken" = some (some (.ref f0))) (l0 : K.lookup f0 = some ⟨oc0, od0, .func (PySem.W.fnOf "_law_taken" "_law_taken" (defArgs (top 33)) (defBody (top 33)) (defScope (top 33)) .none kV0 dc0 pm0 an0 cd0 ct0), sl0⟩) (c0 : PySem.W.codeIn K cd0 "_law_taken" = true) (k0 : PySem.W.keepIn K (.ref f0) = true)
    (a1 : PySem.W.nsIn K mainGlobals "_law_pick" = some (some (.ref f1))) (l1 : K.lookup f1 = some ⟨oc1, od1, .func (PySem.W.fnOf "_law_pick" "_law_pick" (defArgs (top 34)) (defBody (top 34)) (defScope (top 34)) .none kV1 dc1 pm1 an1 cd1 ct1), sl1⟩) (c1 : PySem.W.codeIn K cd1 "_law_pick" = true) (k1 : PySem.W.keepIn K (.ref f1) = true)
    (a2 : PySem.W.nsIn K mainGlobals "is_number" = some (some (.ref f2))) (l2 : K.lookup f2 = some ⟨oc2, od2, .func (PySem.W.fnOf "is_number" "is_number" (defArgs (top 9)) (defBody (top 9)) (defScope (top 9)) .none kV2 dc2 pm2 an2 cd2 ct2), sl2⟩) (c2 : PySem.W.codeIn K cd2 "is_number" = true) (k2 : PySem.W.keepIn K (.ref f2) = true)
    (a3 : PySem.W.nsIn K mainGlobals "is_lot" = some (some (.ref f3))) (l3 : K.lookup f3 = some ⟨oc3, od3, .func (PySem.W.fnOf "is_lot" "is_lot" (defArgs (top 11)) (defBody (top 11)) (defScope (top 11)) .none kV3 dc3 pm3 an3 cd3 ct3), sl3⟩) (c3 : PySem.W.codeIn K cd3 "is_lot" = true) (k3 : PySem.W.keepIn K (.ref f3) = true)
    (a4 : PySem.W.nsIn K mainGlobals "require_lot" = some (some (.ref f4))) (l4 : K.lookup f4 = some ⟨oc4, od4, .func (PySem.W.fnOf "require_lot" "require_lot" (defArgs (top 21)) (defBody (top 21)) (defScope (top 21)) .none kV4 dc4 pm4 an4 cd4 ct4), sl4⟩) (c4 : PySem.W.codeIn K cd4 "require_lot" = true) (k4 : PySem.W.keepIn K (.ref f4) = true)
    (a5 : PySem.W.nsIn K mainGlobals "_require_secret" = some (some (.ref f5))) (l5 : K.lookup f5 = some ⟨oc5, od5, .func (PySem.W.fnOf "_require_secret" "_require_secret" (defArgs (top 22)) (defBody (top 22)) (defScope (top 22)) .none kV5 dc5 pm5 an5 cd5 ct5), sl5⟩) (c5 : PySem.W.codeIn K cd5 "_require_secret" = true) (k5 : PySem.W.keepIn K (.ref f5) = true)
    (a6 : PySem.W.nsIn K mainGlobals "require_many" = some (some (.ref f6))) (l6 : K.lookup f6 = some ⟨oc6, od6, .func (PySem.W.fnOf "require_many" "require_many" (defArgs (top 20)) (defBody (top 20)) (defScope (top 20)) .none kV6 dc6 pm6 an6 cd6 ct6), sl6⟩) (c6 : PySem.W.codeIn K cd6 "require_many" = true) (k6 : PySem.W.keepIn K (.ref f6) = true)
    (a7 : PySem.W.nsIn K mainGlobals "require_prime" = some (some (.ref f7))) (l7 : K.lookup f7 = some ⟨oc7, od7, .func (PySem.W.fnOf "require_prime" "require_prime" (defArgs (top 19)) (defBody (top 19)) (defScope (top 19)) .none kV7 dc7 pm7 an7 cd7 ct7), sl7⟩) (c7 : PySem.W.codeIn K cd7 "require_prime" = true) (k7 : PySem.W.keepIn K (.ref f7) = true)
    (a8 : PySem.W.nsIn K mainGlobals "seen" = some (some (.ref f8))) (l8 : K.lookup f8 = some ⟨oc8, od8, .func (PySem.W.fnOf "seen" "seen" (defArgs (top 31)) (defBody (top 31)) (defScope (top 31)) .none kV8 dc8 pm8 an8 cd8 ct8), sl8⟩) (c8 : PySem.W.codeIn K cd8 "seen" = true) (k8 : PySem.W.keepIn K (.ref f8) = true)
    (a9 : PySem.W.nsIn K mainGlobals "_is_point" = some (some (.ref f9))) (l9 : K.lookup f9 = some ⟨oc9, od9, .func (PySem.W.fnOf "_is_point" "_is_point" (defArgs (top 28)) (defBody (top 28)) (defScope (top 28)) .none kV9 dc9 pm9 an9 cd9 ct9), sl9⟩) (c9 : PySem.W.codeIn K cd9 "_is_point" = true) (k9 : PySem.W.keepIn K (.ref f9) = true)
    (a10 : PySem.W.nsIn K mainGlobals "_are_points" = some (some (.ref f10))) (l10 : K.lookup f10 = some ⟨oc10, od10, .func (PySem.W.fnOf "_are_points" "_are_points" (defArgs (top 27)) (defBody (top 27)) (defScope (top 27)) .none kV10 dc10 pm10 an10 cd10 ct10), sl10⟩) (c10 : PySem.W.codeIn K cd10 "_are_points" = true) (k10 : PySem.W.keepIn K (.ref f10) = true)
    (a11 : PySem.W.nsIn K mainGlobals "rebuilt" = some (some (.ref f11))) (l11 : K.lookup f11 = some ⟨oc11, od11, .func (PySem.W.fnOf "rebuilt" "rebuilt" (defArgs (top 26)) (defBody (top 26)) (defScope (top 26)) .none kV11 dc11 pm11 an11 cd11 ct11), sl11⟩) (c11 : PySem.W.codeIn K cd11 "rebuilt" = true) (k11 : PySem.W.keepIn K (.ref f11) = true)
    (a12 : PySem.W.nsIn K mainGlobals "are_numbers" = some (some (.ref f12))) (l12 : K.lookup f12 = some ⟨oc12, od12, .func (PySem.W.fnOf "are_numbers" "are_numbers" (defArgs (top 10)) (defBody (top 10)) (defScope (top 10)) .none kV12 dc12 pm12 an12 cd12 ct12), sl12⟩) (c12 : PySem.W.codeIn K cd12 "are_numbers" = true) (k12 : PySem.W.keepIn K (.ref f12) = true)
    (a13 : PySem.W.nsIn K mainGlobals "dealt" = some (some (.ref f13))) (l13 : K.lookup f13 = some ⟨oc13, od13, .func (PySem.W.fnOf "dealt" "dealt" (defArgs (top 23)) (defBody (top 23)) (defScope (top 23)) .none kV13 dc13 pm13 an13 cd13 ct13), sl13⟩) (c13 : PySem.W.codeIn K cd13 "dealt" = true) (k13 : PySem.W.keepIn K (.ref f13) = true)
    (a14 : PySem.W.nsIn K mainGlobals "_law_error" = some (some (.ref f14))) (l14 : K.lookup f14 = some ⟨oc14, od14, .func (PySem.W.fnOf "_law_error" "_law_error" (defArgs (top 35)) (defBody (top 35)) (defScope (top 35)) .none kV14 dc14 pm14 an14 cd14 ct14), sl14⟩) (c14 : PySem.W.codeIn K cd14 "_law_error" = true) (k14 : PySem.W.keepIn K (.ref f14) = true)
    (a15 : PySem.W.nsIn K mainGlobals "law" = some (some (.ref f15))) (l15 : K.lookup f15 = some ⟨oc15, od15, .func (PySem.W.fnOf "law" "law" (defArgs (top 36)) (defBody (top 36)) (defScope (top 36)) .none kV15 dc15 pm15 an15 (.ref cd15) ct15), sl15⟩) (c15 : PySem.W.codeIn K (.ref cd15) "law" = true) (k15 : PySem.W.keepIn K (.ref f15) = true)
    (z_LEAST_PEOPLE : PySem.W.nsIn K mainGlobals "LEAST_PEOPLE" = some (some (.int 2 tk_LEAST_PEOPLE)))
    (z_MOST_COINS : PySem.W.nsIn K mainGlobals "MOST_COINS" = some (some (.int 3 tk_MOST_COINS)))
    (z_MOST_PEOPLE : PySem.W.nsIn K mainGlobals "MOST_PEOPLE" = some (some (.int 4 tk_MOST_PEOPLE)))
    (z_MOST_POINTS : PySem.W.nsIn K mainGlobals "MOST_POINTS" = some (some (.int 5 tk_MOST_POINTS)))
    (z_all : PySem.W.nsIn K mainGlobals "all" = some none)
    (z_bool : PySem.W.nsIn K mainGlobals "bool" = some none)
    (z_int : PySem.W.nsIn K mainGlobals "int" = some none)
    (z_isinstance : PySem.W.nsIn K mainGlobals "isinstance" = some none)
    (z_len : PySem.W.nsIn K mainGlobals "len" = some none)
    (z_range : PySem.W.nsIn K mainGlobals "range" = some none)
    (z_tuple : PySem.W.nsIn K mainGlobals "tuple" = some none)
    (z_zip : PySem.W.nsIn K mainGlobals "zip" = some none)
    (ta_PRIMES : PySem.W.nsIn K mainGlobals "PRIMES" = some (some (.ref A_PRIMES))) (tt_PRIMES : tupIs K A_PRIMES tup_PRIMES = true)
    (ea_BadCoins : PySem.W.nsIn K mainGlobals "BadCoins" = some (some (.ref C_BadCoins))) (ex_BadCoins : PySem.W.excIn K C_BadCoins [Value.type "ValueError", Value.type "Exception", Value.type "BaseException", Value.type "object"] "ValueError.__new__" = true) (ek_BadCoins : PySem.W.keepIn K (.ref C_BadCoins) = true) (es_BadCoins : PySem.W.subIn K (.ref C_BadCoins) (.type "BaseException") = some true) (et_BadCoins : PySem.W.typeIn K (.ref C_BadCoins) = some (.type "type"))
    (ea_BadLot : PySem.W.nsIn K mainGlobals "BadLot" = some (some (.ref C_BadLot))) (ex_BadLot : PySem.W.excIn K C_BadLot [Value.type "ValueError", Value.type "Exception", Value.type "BaseException", Value.type "object"] "ValueError.__new__" = true) (ek_BadLot : PySem.W.keepIn K (.ref C_BadLot) = true) (es_BadLot : PySem.W.subIn K (.ref C_BadLot) (.type "BaseException") = some true) (et_BadLot : PySem.W.typeIn K (.ref C_BadLot) = some (.type "type"))
    (ea_BadNumber : PySem.W.nsIn K mainGlobals "BadNumber" = some (some (.ref C_BadNumber))) (ex_BadNumber : PySem.W.excIn K C_BadNumber [Value.type "ValueError", Value.type "Exception", Value.type "BaseException", Value.type "object"] "ValueError.__new__" = true) (ek_BadNumber : PySem.W.keepIn K (.ref C_BadNumber) = true) (es_BadNumber : PySem.W.subIn K (.ref C_BadNumber) (.type "BaseException") = some true) (et_BadNumber : PySem.W.typeIn K (.ref C_BadNumber) = some (.type "type"))
    (ea_BadPoints : PySem.W.nsIn K mainGlobals "BadPoints" = some (some (.ref C_BadPoints))) (ex_BadPoints : PySem.W.excIn K C_BadPoints [Value.type "ValueError", Value.type "Exception", Value.type "BaseException", Value.type "object"] "ValueError.__new__" = true) (ek_BadPoints : PySem.W.keepIn K (.ref C_BadPoints) = true) (es_BadPoints : PySem.W.subIn K (.ref C_BadPoints) (.type "BaseException") = some true) (et_BadPoints : PySem.W.typeIn K (.ref C_BadPoints) = some (.type "type"))
    (ea_BadPrime : PySem.W.nsIn K mainGlobals "BadPrime" = some (some (.ref C_BadPrime))) (ex_BadPrime : PySem.W.excIn K C_BadPrime [Value.type "ValueError", Value.type "Exception", Value.type "BaseException", Value.type "object"] "ValueError.__new__" = true) (ek_BadPrime : PySem.W.keepIn K (.ref C_BadPrime) = true) (es_BadPrime : PySem.W.subIn K (.ref C_BadPrime) (.type "BaseException") = some true) (et_BadPrime : PySem.W.typeIn K (.ref C_BadPrime) = some (.type "type"))
    (ea_BadSecret : PySem.W.nsIn K mainGlobals "BadSecret" = some (some (.ref C_BadSecret))) (ex_BadSecret : PySem.W.excIn K C_BadSecret [Value.type "ValueError", Value.type "Exception", Value.type "BaseException", Value.type "object"] "ValueError.__new__" = true) (ek_BadSecret : PySem.W.keepIn K (.ref C_BadSecret) = true) (es_BadSecret : PySem.W.subIn K (.ref C_BadSecret) (.type "BaseException") = some true) (et_BadSecret : PySem.W.typeIn K (.ref C_BadSecret) = some (.type "type"))
    (ea_TellError : PySem.W.nsIn K mainGlobals "TellError" = some (some (.ref C_TellError)))
    (xm : ((([(C_BadCoins, (Str.ofString "BadCoins")), (C_BadLot, (Str.ofString "BadLot")), (C_BadNumber, (Str.ofString "BadNumber")), (C_BadPoints, (Str.ofString "BadPoints")), (C_BadPrime, (Str.ofString "BadPrime")), (C_BadSecret, (Str.ofString "BadSecret")), (C_TellError, (Str.ofString "other"))] : List (Addr × Str)).length == HM.length) && (([(C_BadCoins, (Str.ofString "BadCoins")), (C_BadLot, (Str.ofString "BadLot")), (C_BadNumber, (Str.ofString "BadNumber")), (C_BadPoints, (Str.ofString "BadPoints")), (C_BadPrime, (Str.ofString "BadPrime")), (C_BadSecret, (Str.ofString "BadSecret")), (C_TellError, (Str.ofString "other"))] : List (Addr × Str)).zip HM).all fun z => (z.1.2 == z.2.2) && ES.all fun c => PySem.W.exmOne K ((fun c => if c = "BadSecret" then .ref C_BadSecret else if c = "BadPrime" then .ref C_BadPrime else if c = "BadPoints" then .ref C_BadPoints else if c = "BadNumber" then .ref C_BadNumber else if c = "BadLot" then .ref C_BadLot else if c = "BadCoins" then .ref C_BadCoins else .none : String → Value) c) (.ref z.1.1) == some (decide (c ∈ z.2.1))) = true)
    (th : PySem.W.codeHdIn K cd15 (tabIn K cd15) = true) (tn : K.lookup (tabIn K cd15) = none)
    (hm : ∀ ns : List Int, ns.length ≤ 63 → runFn 9 (m_law 57) [.list (ns.map PV.int)] = .ok (.bool true)) : LamX.LawAtS l w K (L2.CX l.prog w) 61 63 "script" mg fa h := by
  letI : TN := ⟨[(tabIn K cd15, lawQ)]⟩
  have e := hfa.symm.trans (PySem.W.mg_of X Gn a15)
  cases e
  have F0 := fun_mk (st := top 33) l0 c0 k0
  have F1 := fun_mk (st := top 34) l1 c1 k1
  have F2 := fun_mk (st := top 9) l2 c2 k2
  have F3 := fun_mk (st := top 11) l3 c3 k3
  have F4 := fun_mk (st := top 21) l4 c4 k4
  have F5 := fun_mk (st := top 22) l5 c5 k5
  have F6 := fun_mk (st := top 20) l6 c6 k6
  have F7 := fun_mk (st := top 19) l7 c7 k7
  have F8 := fun_mk (st := top 31) l8 c8 k8
  have F9 := fun_mk (st := top 28) l9 c9 k9
  have F10 := fun_mk (st := top 27) l10 c10 k10
  have F11 := fun_mk (st := top 26) l11 c11 k11
  have F12 := fun_mk (st := top 10) l12 c12 k12
  have F13 := fun_mk (st := top 23) l13 c13 k13
  have F14 := fun_mk (st := top 35) l14 c14 k14
  have F15 := fun_mk (st := top 36) l15 c15 k15
  have b0 := F0.binds (ps := ["row", "many"]) fun _ _ _ _ _ _ us hl => match us, hl with | [_, _], _ => rfl
  have b1 := F1.binds (ps := ["row", "things"]) fun _ _ _ _ _ _ us hl => match us, hl with | [_, _], _ => rfl
  have b2 := F2.binds (ps := ["value", "least", "most"]) fun _ _ _ _ _ _ us hl => match us, hl with | [_, _, _], _ => rfl
  have b3 := F3.binds (ps := ["value", "many"]) fun _ _ _ _ _ _ us hl => match us, hl with | [_, _], _ => rfl
  have b4 := F4.binds (ps := ["lot", "many"]) fun _ _ _ _ _ _ us hl => match us, hl with | [_, _], _ => rfl
  have b5 := F5.binds (ps := ["p", "secret"]) fun _ _ _ _ _ _ us hl => match us, hl with | [_, _], _ => rfl
  have b6 := F6.binds (ps := ["many"]) fun _ _ _ _ _ _ us hl => match us, hl with | [_], _ => rfl
  have b7 := F7.binds (ps := ["p"]) fun _ _ _ _ _ _ us hl => match us, hl with | [_], _ => rfl
  have b8 := F8.binds (ps := ["p", "many", "size", "secret", "lot"]) fun _ _ _ _ _ _ us hl => match us, hl with | [_, _, _, _, _], _ => rfl
  have b9 := F9.binds (ps := ["p", "value"]) fun _ _ _ _ _ _ us hl => match us, hl with | [_, _], _ => rfl
  have b10 := F10.binds (ps := ["p", "value"]) fun _ _ _ _ _ _ us hl => match us, hl with | [_, _], _ => rfl
  have b11 := F11.binds (ps := ["p", "points"]) fun _ _ _ _ _ _ us hl => match us, hl with | [_, _], _ => rfl
  have b12 := F12.binds (ps := ["value", "many", "most"]) fun _ _ _ _ _ _ us hl => match us, hl with | [_, _, _], _ => rfl
  have b13 := F13.binds (ps := ["p", "many", "secret", "coins"]) fun _ _ _ _ _ _ us hl => match us, hl with | [_, _, _, _], _ => rfl
  have b14 := F14.binds (ps := ["call"]) fun _ _ _ _ _ _ us hl => match us, hl with | [_], _ => rfl
  have There0 : ∀ base : Heap, There { P := l.prog, w := w, F := ⟨K, fun _ => default, fun _ _ _ _ => False⟩, mg := mg, base := base, cls := fun c => if c = "BadSecret" then .ref C_BadSecret else if c = "BadPrime" then .ref C_BadPrime else if c = "BadPoints" then .ref C_BadPoints else if c = "BadNumber" then .ref C_BadNumber else if c = "BadLot" then .ref C_BadLot else if c = "BadCoins" then .ref C_BadCoins else .none } := fun base => ⟨⟨_, _, F0, PySem.W.mg_of X Gn a0, b0⟩, ⟨_, _, F1, PySem.W.mg_of X Gn a1, b1⟩, ⟨_, _, F2, PySem.W.mg_of X Gn a2, b2⟩, ⟨_, _, F3, PySem.W.mg_of X Gn a3, b3⟩, ⟨_, _, F4, PySem.W.mg_of X Gn a4, b4⟩, ⟨_, _, F5, PySem.W.mg_of X Gn a5, b5⟩, ⟨_, _, F6, PySem.W.mg_of X Gn a6, b6⟩, ⟨_, _, F7, PySem.W.mg_of X Gn a7, b7⟩, ⟨_, _, F8, PySem.W.mg_of X Gn a8, b8⟩, ⟨_, _, F9, PySem.W.mg_of X Gn a9, b9⟩, ⟨_, _, F10, PySem.W.mg_of X Gn a10, b10⟩, ⟨_, _, F11, PySem.W.mg_of X Gn a11, b11⟩, ⟨_, _, F12, PySem.W.mg_of X Gn a12, b12⟩, ⟨_, _, F13, PySem.W.mg_of X Gn a13, b13⟩, ⟨_, PySem.W.mg_of X Gn z_LEAST_PEOPLE⟩, ⟨_, PySem.W.mg_of X Gn z_MOST_COINS⟩, ⟨_, PySem.W.mg_of X Gn z_MOST_PEOPLE⟩, ⟨_, PySem.W.mg_of X Gn z_MOST_POINTS⟩, PySem.W.mg_none_of X Gn z_all, PySem.W.mg_none_of X Gn z_bool, PySem.W.mg_none_of X Gn z_int, PySem.W.mg_none_of X Gn z_isinstance, PySem.W.mg_none_of X Gn z_len, PySem.W.mg_none_of X Gn z_range, PySem.W.mg_none_of X Gn z_tuple, PySem.W.mg_none_of X Gn z_zip, ⟨_, PySem.W.mg_of X Gn ta_PRIMES, tt_PRIMES⟩, ⟨PySem.F.excBase_ValueError, _, PySem.W.mg_of X Gn ea_BadCoins, ex_BadCoins, ek_BadCoins, es_BadCoins, et_BadCoins, by simp⟩, ⟨PySem.F.excBase_ValueError, _, PySem.W.mg_of X Gn ea_BadLot, ex_BadLot, ek_BadLot, es_BadLot, et_BadLot, by simp⟩, ⟨PySem.F.excBase_ValueError, _, PySem.W.mg_of X Gn ea_BadNumber, ex_BadNumber, ek_BadNumber, es_BadNumber, et_BadNumber, by simp⟩, ⟨PySem.F.excBase_ValueError, _, PySem.W.mg_of X Gn ea_BadPoints, ex_BadPoints, ek_BadPoints, es_BadPoints, et_BadPoints, by simp⟩, ⟨PySem.F.excBase_ValueError, _, PySem.W.mg_of X Gn ea_BadPrime, ex_BadPrime, ek_BadPrime, es_BadPrime, et_BadPrime, by simp⟩, ⟨PySem.F.excBase_ValueError, _, PySem.W.mg_of X Gn ea_BadSecret, ex_BadSecret, ek_BadSecret, es_BadSecret, et_BadSecret, by simp⟩, ⟨["call"], top 35, _, _, [(C_BadCoins, (Str.ofString "BadCoins")), (C_BadLot, (Str.ofString "BadLot")), (C_BadNumber, (Str.ofString "BadNumber")), (C_BadPoints, (Str.ofString "BadPoints")), (C_BadPrime, (Str.ofString "BadPrime")), (C_BadSecret, (Str.ofString "BadSecret")), (C_TellError, (Str.ofString "other"))], _, _, _, _, _, _, _, ⟨_, _, F14, PySem.W.mg_of X Gn a14, b14⟩, ⟨rfl, rfl, rfl, by decide +kernel, rfl, by decide +kernel, by decide +kernel⟩, rfl, .cons (PySem.W.mg_of X Gn ea_BadCoins) rfl rfl (.cons (PySem.W.mg_of X Gn ea_BadLot) rfl rfl (.cons (PySem.W.mg_of X Gn ea_BadNumber) rfl rfl (.cons (PySem.W.mg_of X Gn ea_BadPoints) rfl rfl (.cons (PySem.W.mg_of X Gn ea_BadPrime) rfl rfl (.cons (PySem.W.mg_of X Gn ea_BadSecret) rfl rfl (.cons (PySem.W.mg_of X Gn ea_TellError) rfl rfl (.nil))))))), rfl, .inl rfl, catch_by xm _ rfl rfl, rfl, by decide, by decide, by decide⟩⟩
  have lT := tab_empty X l15 rfl rfl th (htab _ hfa)
  refine ⟨PySem.W.fnOf "law" "law" (defArgs (top 36)) (defBody (top 36)) (defScope (top 36)) .none kV15 dc15 pm15 an15 (.ref cd15) ct15, [(cd15, tabIn K cd15)], spLaw K 9 (m_law 57), fun p hp => ?_, fun p hp => ?_, fun p hp => ?_, fun s v => .of_eq rfl, fun H a ns hl _ ht hS => ⟨a, ns, rfl, hS, hl, tabs_one (ht _ (List.mem_singleton.mpr rfl)), hm ns hl, fun _ => rfl⟩, fun base _ _ TB => ?_⟩
  · obtain rfl := List.mem_singleton.mp hp; exact lT
  · obtain rfl := List.mem_singleton.mp hp; exact tn
  · obtain rfl := List.mem_singleton.mp hp; exact PySem.W.codeHd_of_K X th
  exact fn_law (G := { P := l.prog, w := w, F := ⟨K, fun _ => default, fun _ _ _ _ => False⟩, mg := mg, base := base, cls := fun c => if c = "BadSecret" then .ref C_BadSecret else if c = "BadPrime" then .ref C_BadPrime else if c = "BadPoints" then .ref C_BadPoints else if c = "BadNumber" then .ref C_BadNumber else if c = "BadLot" then .ref C_BadLot else if c = "BadCoins" then .ref C_BadCoins else .none }) (k := 60) F15 sc_law rfl LD fun cdv A outer s H E hcd S => by
    cases hcd
    have T := (There0 base).withL (LD s.heap.objs.size)
    have A0 := all_at T 60
    have A1 := all_at T 57
    exact ss_law (n := 57) A0.h_u_law_pick A0.h_u_law_taken T.z_range T.z_tuple _ A outer s H E S rfl (mk_body (TB _ (List.mem_singleton.mpr rfl)) (List.mem_singleton.mpr rfl) (fun p hp _ => by obtain rfl := List.mem_singleton.mp hp; rfl) (by decide)) T.ch (lj_0 A1.h_seen A1.h_rebuilt A1.h_dealt A1.h_u_law_pick T.z_range T.z_tuple _ A outer s H E) (lj_1 A1.h_seen A1.h_rebuilt A1.h_dealt A1.h_u_law_pick T.z_range T.z_tuple _ A outer s H E) (lj_2 A1.h_seen A1.h_rebuilt A1.h_dealt A1.h_u_law_pick T.z_range T.z_tuple _ A outer s H E) (lj_3 A1.h_seen A1.h_rebuilt A1.h_dealt A1.h_u_law_pick T.z_range T.z_tuple _ A outer s H E) (lj_4 A1.h_seen A1.h_rebuilt A1.h_dealt A1.h_u_law_pick T.z_range T.z_tuple _ A outer s H E) (lj_5 A1.h_seen A1.h_rebuilt A1.h_dealt A1.h_u_law_pick T.z_range T.z_tuple _ A outer s H E) (lj_6 A1.h_seen A1.h_rebuilt A1.h_dealt A1.h_u_law_pick T.z_range T.z_tuple _ A outer s H E) (lj_7 A1.h_seen A1.h_rebuilt A1.h_dealt A1.h_u_law_pick T.z_range T.z_tuple _ A outer s H E) (lj_8 A1.h_seen A1.h_rebuilt A1.h_dealt A1.h_u_law_pick T.z_range T.z_tuple _ A outer s H E) (lj_9 A1.h_seen A1.h_rebuilt A1.h_dealt A1.h_u_law_pick T.z_range T.z_tuple _ A outer s H E) (lj_10 A1.h_seen A1.h_rebuilt A1.h_dealt A1.h_u_law_pick T.z_range T.z_tuple _ A outer s H E)
end Pv
end
section
set_option autoImplicit false
set_option Elab.async false
set_option linter.all false
set_option maxRecDepth 100000
open PySem PySem.W PyProof.Rows
set_option maxHeartbeats 0 in
theorem PySem.Challenge.cw_nomoretold_k29_shares_refused_holds : PySem.Challenge.rw_nomoretold_k29_shares_refused.Holds := by
  w_on; o_law; k_head; (case hw => w_witness2)
  k_fill
  refine Pv.walk_pv (l := PySem.Challenge.rw_nomoretold_k29_shares_refused) (n := 63) (k := 61) (x := "script") (CX := fun w => L2.CX PySem.Challenge.rw_nomoretold_k29_shares_refused.prog w) ["law"] rfl (by decide) rfl ⟨rfl, by decide, by decide⟩ (by decide +kernel) (fun w h Y => by first | exact PySem.W.kIn_of Y | exact PySem.W.km_in_of Y) ?F (fun _ _ _ _ _ z => Pv.cx_false z)
  case F =>
    intro w mg fa h KX G hmg htab
    refine' Pv.all_mk KX G hmg (htab "law" (List.mem_singleton.mpr rfl)) ?a0 ?l0 ?c0 ?k0 ?a1 ?l1 ?c1 ?k1 ?a2 ?l2 ?c2 ?k2 ?a3 ?l3 ?c3 ?k3 ?a4 ?l4 ?c4 ?k4 ?a5 ?l5 ?c5 ?k5 ?a6 ?l6 ?c6 ?k6 ?a7 ?l7 ?c7 ?k7 ?a8 ?l8 ?c8 ?k8 ?a9 ?l9 ?c9 ?k9 ?a10 ?l10 ?c10 ?k10 ?a11 ?l11 ?c11 ?k11 ?a12 ?l12 ?c12 ?k12 ?a13 ?l13 ?c13 ?k13 ?a14 ?l14 ?c14 ?k14 ?a15 ?l15 ?c15 ?k15 ?z_LEAST_PEOPLE ?z_MOST_COINS ?z_MOST_PEOPLE ?z_MOST_POINTS ?z_all ?z_bool ?z_int ?z_isinstance ?z_len ?z_range ?z_tuple ?z_zip ?ta_PRIMES ?tt_PRIMES ?ea_BadCoins ?ex_BadCoins ?ek_BadCoins ?es_BadCoins ?et_BadCoins ?ea_BadLot ?ex_BadLot ?ek_BadLot ?es_BadLot ?et_BadLot ?ea_BadNumber ?ex_BadNumber ?ek_BadNumber ?es_BadNumber ?et_BadNumber ?ea_BadPoints ?ex_BadPoints ?ek_BadPoints ?es_BadPoints ?et_BadPoints ?ea_BadPrime ?ex_BadPrime ?ek_BadPrime ?es_BadPrime ?et_BadPrime ?ea_BadSecret ?ex_BadSecret ?ek_BadSecret ?es_BadSecret ?et_BadSecret ?ea_TellError ?xm ?th ?tn ?hm
    (case a0 => first | k_is | kernel_rfl)
    (case l0 => first | k_is | kernel_rfl)
    (case c0 => first | k_is | kernel_rfl)
    (case k0 => first | k_is | kernel_rfl)
    (case a1 => first | k_is | kernel_rfl)
    (case l1 => first | k_is | kernel_rfl)
    (case c1 => first | k_is | kernel_rfl)
    (case k1 => first | k_is | kernel_rfl)
    (case a2 => first | k_is | kernel_rfl)
    (case l2 => first | k_is | kernel_rfl)
    (case c2 => first | k_is | kernel_rfl)
    (case k2 => first | k_is | kernel_rfl)
    (case a3 => first | k_is | kernel_rfl)
    (case l3 => first | k_is | kernel_rfl)
    (case c3 => first | k_is | kernel_rfl)
    (case k3 => first | k_is | kernel_rfl)
    (case a4 => first | k_is | kernel_rfl)
    (case l4 => first | k_is | kernel_rfl)
    (case c4 => first | k_is | kernel_rfl)
    (case k4 => first | k_is | kernel_rfl)
    (case a5 => first | k_is | kernel_rfl)
    (case l5 => first | k_is | kernel_rfl)
    (case c5 => first | k_is | kernel_rfl)
    (case k5 => first | k_is | kernel_rfl)
    (case a6 => first | k_is | kernel_rfl)
    (case l6 => first | k_is | kernel_rfl)
    (case c6 => first | k_is | kernel_rfl)
    (case k6 => first | k_is | kernel_rfl)
    (case a7 => first | k_is | kernel_rfl)
    (case l7 => first | k_is | kernel_rfl)
    (case c7 => first | k_is | kernel_rfl)
    (case k7 => first | k_is | kernel_rfl)
    (case a8 => first | k_is | kernel_rfl)
    (case l8 => first | k_is | kernel_rfl)
    (case c8 => first | k_is | kernel_rfl)
    (case k8 => first | k_is | kernel_rfl)
    (case a9 => first | k_is | kernel_rfl)
    (case l9 => first | k_is | kernel_rfl)
    (case c9 => first | k_is | kernel_rfl)
    (case k9 => first | k_is | kernel_rfl)
    (case a10 => first | k_is | kernel_rfl)
    (case l10 => first | k_is | kernel_rfl)
    (case c10 => first | k_is | kernel_rfl)
    (case k10 => first | k_is | kernel_rfl)
    (case a11 => first | k_is | kernel_rfl)
    (case l11 => first | k_is | kernel_rfl)
    (case c11 => first | k_is | kernel_rfl)
    (case k11 => first | k_is | kernel_rfl)
    (case a12 => first | k_is | kernel_rfl)
    (case l12 => first | k_is | kernel_rfl)
    (case c12 => first | k_is | kernel_rfl)
    (case k12 => first | k_is | kernel_rfl)
    (case a13 => first | k_is | kernel_rfl)
    (case l13 => first | k_is | kernel_rfl)
    (case c13 => first | k_is | kernel_rfl)
    (case k13 => first | k_is | kernel_rfl)
    (case a14 => first | k_is | kernel_rfl)
    (case l14 => first | k_is | kernel_rfl)
    (case c14 => first | k_is | kernel_rfl)
    (case k14 => first | k_is | kernel_rfl)
    (case a15 => first | k_is | kernel_rfl)
    (case l15 => first | k_is | kernel_rfl)
    (case c15 => first | k_is | kernel_rfl)
    (case k15 => first | k_is | kernel_rfl)
    (case z_LEAST_PEOPLE => first | k_is | kernel_rfl)
    (case z_MOST_COINS => first | k_is | kernel_rfl)
    (case z_MOST_PEOPLE => first | k_is | kernel_rfl)
    (case z_MOST_POINTS => first | k_is | kernel_rfl)
    (case z_all => first | k_is | kernel_rfl)
    (case z_bool => first | k_is | kernel_rfl)
    (case z_int => first | k_is | kernel_rfl)
    (case z_isinstance => first | k_is | kernel_rfl)
    (case z_len => first | k_is | kernel_rfl)
    (case z_range => first | k_is | kernel_rfl)
    (case z_tuple => first | k_is | kernel_rfl)
    (case z_zip => first | k_is | kernel_rfl)
    (case ta_PRIMES => first | k_is | kernel_rfl)
    (case tt_PRIMES => first | k_is | kernel_rfl)
    (case ea_BadCoins => first | k_is | kernel_rfl)
    (case ex_BadCoins => first | k_is | kernel_rfl)
    (case ek_BadCoins => first | k_is | kernel_rfl)
    (case es_BadCoins => first | k_is | kernel_rfl)
    (case et_BadCoins => first | k_is | kernel_rfl)
    (case ea_BadLot => first | k_is | kernel_rfl)
    (case ex_BadLot => first | k_is | kernel_rfl)
    (case ek_BadLot => first | k_is | kernel_rfl)
    (case es_BadLot => first | k_is | kernel_rfl)
    (case et_BadLot => first | k_is | kernel_rfl)
    (case ea_BadNumber => first | k_is | kernel_rfl)
    (case ex_BadNumber => first | k_is | kernel_rfl)
    (case ek_BadNumber => first | k_is | kernel_rfl)
    (case es_BadNumber => first | k_is | kernel_rfl)
    (case et_BadNumber => first | k_is | kernel_rfl)
    (case ea_BadPoints => first | k_is | kernel_rfl)
    (case ex_BadPoints => first | k_is | kernel_rfl)
    (case ek_BadPoints => first | k_is | kernel_rfl)
    (case es_BadPoints => first | k_is | kernel_rfl)
    (case et_BadPoints => first | k_is | kernel_rfl)
    (case ea_BadPrime => first | k_is | kernel_rfl)
    (case ex_BadPrime => first | k_is | kernel_rfl)
    (case ek_BadPrime => first | k_is | kernel_rfl)
    (case es_BadPrime => first | k_is | kernel_rfl)
    (case et_BadPrime => first | k_is | kernel_rfl)
    (case ea_BadSecret => first | k_is | kernel_rfl)
    (case ex_BadSecret => first | k_is | kernel_rfl)
    (case ek_BadSecret => first | k_is | kernel_rfl)
    (case es_BadSecret => first | k_is | kernel_rfl)
    (case et_BadSecret => first | k_is | kernel_rfl)
    (case ea_TellError => first | k_is | kernel_rfl)
    (case xm => first | k_is | kernel_rfl)
    (case th => first | k_is | kernel_rfl)
    (case tn => first | k_is | kernel_rfl)
    case hm => exact Pv.math
end
