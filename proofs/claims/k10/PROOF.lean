import PyProof.Rows.All
import Wide.All
import OpenK.AllK
import Wide.FinOn
import HandS.ForMost
import HandS.ForExc
import HandS.SortKw
import HandS.IsInst
import HandS.Flow
import HandS.Deep
import HandS.DictComp
import HandS.SetKeys
import HandS.Small
import HandS.ExcIs
import HandS.StrMore
import HandS.Wide
import HandS.TupAny
import HandS.Style
import KE.SortKeyHeap
import KE.SortData
import KE.GoesRaise
import KE.GoesComp
import KE.DataCmp
import KE.DataEq
import KE.DataIsa
import KE.DataMinMax
import KE.DataAny
import KE.DataFind
import KE.DatumIndex
import PySem.Challenge.RW_shedbook_k10_schemas_are_checked
set_option Elab.async false
set_option linter.all false
set_option maxRecDepth 100000
namespace FW
open PySem PySem.W

abbrev D := PyData

/-! ## equality of data, decided -/
mutual
def peq : D → D → Bool
  | .none, .none => true
  | .bool a, .bool b => a == b
  | .int a, .int b => a == b
  | .str a, .str b => a == b
  | .list a, .list b => peqL a b
  | .tuple a, .tuple b => peqL a b
  | .dict a, .dict b => peqK a b
  | _, _ => false
def peqL : List D → List D → Bool
  | [], [] => true
  | a :: as, b :: bs => peq a b && peqL as bs
  | _, _ => false
def peqK : List (D × D) → List (D × D) → Bool
  | [], [] => true
  | (a, a') :: as, (b, b') :: bs => peq a b && peq a' b' && peqK as bs
  | _, _ => false
end
mutual
theorem peq_eq : ∀ a b : D, peq a b = true → a = b
  | .none, b, h => by cases b <;> simp_all [peq]
  | .bool x, b, h => by cases b <;> simp_all [peq]
  | .int x, b, h => by cases b <;> simp_all [peq]
  | .str x, b, h => by cases b <;> simp_all [peq]
  | .list xs, b, h => by
    cases b with
    | list ys => rw [peq] at h; rw [peqL_eq xs ys h]
    | _ => simp [peq] at h
  | .tuple xs, b, h => by
    cases b with
    | tuple ys => rw [peq] at h; rw [peqL_eq xs ys h]
    | _ => simp [peq] at h
  | .dict xs, b, h => by
    cases b with
    | dict ys => rw [peq] at h; rw [peqK_eq xs ys h]
    | _ => simp [peq] at h
theorem peqL_eq : ∀ a b : List D, peqL a b = true → a = b
  | [], b, h => by cases b <;> simp_all [peqL]
  | x :: xs, b, h => by
    cases b with
    | nil => simp [peqL] at h
    | cons y ys =>
      rw [peqL, Bool.and_eq_true] at h
      rw [peq_eq x y h.1, peqL_eq xs ys h.2]
theorem peqK_eq : ∀ a b : List (D × D), peqK a b = true → a = b
  | [], b, h => by cases b <;> simp_all [peqK]
  | (x, x') :: xs, b, h => by
    cases b with
    | nil => simp [peqK] at h
    | cons y ys =>
      obtain ⟨y, y'⟩ := y
      rw [peqK, Bool.and_eq_true, Bool.and_eq_true] at h
      rw [peq_eq x y h.1.1, peq_eq x' y' h.1.2, peqK_eq xs ys h.2]
end
mutual
theorem peq_refl : ∀ a : D, peq a a = true
  | .none => rfl
  | .bool x => by simp [peq]
  | .int x => by simp [peq]
  | .str x => by simp [peq]
  | .list xs => by rw [peq]; exact peqL_refl xs
  | .tuple xs => by rw [peq]; exact peqL_refl xs
  | .dict xs => by rw [peq]; exact peqK_refl xs
theorem peqL_refl : ∀ a : List D, peqL a a = true
  | [] => rfl
  | x :: xs => by rw [peqL, peq_refl x, peqL_refl xs]; rfl
theorem peqK_refl : ∀ a : List (D × D), peqK a a = true
  | [] => rfl
  | (x, x') :: xs => by rw [peqK, peq_refl x, peq_refl x', peqK_refl xs]; rfl
end
instance : DecidableEq D := fun a b => if h : peq a b = true then isTrue (peq_eq a b h) else isFalse (fun e => h (e ▸ peq_refl a))

inductive Sl where
  | no | fz (d : D) | own (d : D)
  deriving DecidableEq
structure Ob where
  cls : Str
  fs : List (Str × Sl)
  deriving DecidableEq
abbrev Hs := List Ob

/-- what an expression gives -/
inductive R (α : Type) where
  | ok (a : α) (S : Hs)
  | exc (c : Str) (S : Hs)
  | bad
def R.bind {α β : Type} (r : R α) (f : α → Hs → R β) : R β := match r with
  | .ok a S => f a S
  | .exc c S => .exc c S
  | .bad => .bad
/-- what a statement gives -/
inductive RS where
  | nx (ρ : List Sl) (S : Hs)
  | rt (o : Bool) (d : D) (S : Hs)
  | bk (ρ : List Sl) (S : Hs)
  | ct (ρ : List Sl) (S : Hs)
  | ex (c : Str) (ρ : List Sl) (S : Hs)
  | bad

inductive Op2 where | add | sub | mul | fdiv | mod | pow
  deriving DecidableEq
inductive Cp where | eq | ne | lt | le | gt | ge | isin | notin
  deriving DecidableEq
/-- builtin functions and types that are called -/
inductive Bf where | len | int | str | abs | min | max | sum | any | all | sorted | list | tuple | ord | bool
  deriving DecidableEq
/-- methods of builtin types -/
inductive Mf where | startswith | endswith | isdigit | split | partition | join | index | get | count
  deriving DecidableEq
inductive Tg where | one (i : Nat) | many (is : List Nat)
  deriving DecidableEq

mutual
inductive E where
  | var (i : Nat)
  | cst (d : D)
  | glo (x : Str)
  | neg (a : E)
  | bin (op : Op2) (a b : E)
  | cmp (op : Cp) (a b : E)
  | isN (a : E) | notN (a : E)
  | isB (a : E) (v : Bool) | ntB (a : E) (v : Bool)
  | chain (o1 o2 : Cp) (a b c : E)
  | and (es : Es) | or (es : Es)
  | not (a : E)
  | ite (t : T) (a b : E)
  | tup (es : Es) | lst (es : Es)
  | idx (a b : E)
  | slc (a : E) (lo hi : Es)
  | call (f : Str) (es : Es)
  | bi (f : Bf) (es : Es)
  | mt (m : Mf) (o : E) (es : Es)
  | isi (a : E) (t : String)
  | sortK (a : E) (f : Str)
  | sset (a : E)
  | lc (tg : Tg) (it : It) (ts : Ts) (e : E)
  | dc (tg : Tg) (it : It) (k v : E)
  | bw (is : List Nat) (e : E)
inductive T where
  | tru (e : E)
  | and (ts : Ts) | or (ts : Ts)
  | not (t : T)
  | bw (is : List Nat) (t : T)
inductive It where
  | seq (e : E)
  | rg1 (a : E) | rg2 (a b : E)
inductive Es where
  | nil | cons (e : E) (es : Es)
inductive Ts where
  | nil | cons (t : T) (ts : Ts)
end
/-- what a handler hands back: written data, or whether the error is of a class -/
inductive He where
  | cst (d : D)
  | isE (c : Str)
  | ite (c : Str) (d e : D)
inductive Hd where
  | ret (h : He)
  | cnt | brk | pass
  | asg (i : Nat) (h : He)
mutual
inductive S where
  | asg (i : Nat) (e : E)
  | asgO (i : Nat) (e : E)
  | asgT (is : List Nat) (e : E)
  | aug (i : Nat) (op : Op2) (e : E)
  | expr (e : E)
  | app (i : Nat) (e : E)
  | ext (i : Nat) (e : E)
  | seti (i : Nat) (k e : E)
  | ret (e : E)
  | retO (i : Nat)
  | retF (e : E)
  | retN
  | ifS (t : T) (a b : Ss)
  | whl (t : T) (b : Ss) (w : List Nat)
  | forS (tg : Tg) (it : It) (b : Ss) (w : List Nat)
  | brk | cnt | pass
  | raise (c : Str)
  | tryS (b : Ss) (c : Str) (as : Option Nat) (h : Hd)
  | frz (is : List Nat)
  | wipe (is : List Nat)
inductive Ss where
  | nil | cons (s : S) (ss : Ss)
end

/-! ## operations on data -/
def insD (n : Nat) : D := .dict [(.none, .int n)]
def scalar : D → Bool
  | .none | .bool _ | .int _ | .str _ => true
  | _ => false
/-- no dict, no object, not too deep -/
def pln (d : D) : Bool := d.plain && decide (d.depth ≤ 64)
def bmul (a b : Int) : Bool := decide (a.natAbs < 18446744073709551616) || decide (b.natAbs < 18446744073709551616)
def binD : Op2 → D → D → Option D
  | .add, .int a, .int b => some (.int (a + b))
  | .add, .str a, .str b => if a.length + b.length ≤ 16777216 then some (.str (a ++ b)) else none
  | .add, .list a, .list b => if a.length + b.length ≤ 16777216 then some (.list (a ++ b)) else none
  | .add, .tuple a, .tuple b => if a.length + b.length ≤ 16777216 then some (.tuple (a ++ b)) else none
  | .sub, .int a, .int b => some (.int (a - b))
  | .mul, .int a, .int b => if bmul a b then some (.int (a * b)) else none
  | .mul, .list a, .int k => if k < 9223372036854775808 ∧ -9223372036854775808 ≤ k ∧ a.length * k.toNat ≤ 16777216 then some (.list (List.replicate k.toNat a).flatten) else none
  | .fdiv, .int a, .int b => if 0 < b ∧ b < 1073741824 then some (.int (a / b)) else none
  | .mod, .int a, .int b => if 0 < b then some (.int (a % b)) else none
  | .pow, .int a, .int b => if 0 ≤ b ∧ b ≤ 1000000 ∧ a.natAbs < 18446744073709551616 then some (.int (a ^ b.toNat)) else none
  | _, _, _ => none
def notNone : D → Bool
  | .none => false
  | _ => true
def ltOk (a b : D) : Bool := alike a b && pln a && pln b && notNone a
def cmpD : Cp → D → D → Option Bool
  | .eq, a, b => if pln a && pln b then some (PyData.eqv a b) else none
  | .ne, a, b => if pln a && pln b then some (!PyData.eqv a b) else none
  | .lt, a, b => if ltOk a b then some (dataLt a b) else none
  | .gt, a, b => if ltOk a b then some (dataLt b a) else none
  | .le, a, b => if ltOk a b then some (!dataLt b a) else none
  | .ge, a, b => if ltOk a b then some (!dataLt a b) else none
  | .isin, .str x, .str y => some (!(Builtin.Str.occurrences y x 0 y.length 1).isEmpty)
  | .notin, .str x, .str y => some (!(!(Builtin.Str.occurrences y x 0 y.length 1).isEmpty))
  | .isin, x, .list ys => if pln x && pln (.list ys) then some (ys.any fun z => PyData.eqv z x) else none
  | .notin, x, .list ys => if pln x && pln (.list ys) then some (!ys.any fun z => PyData.eqv z x) else none
  | .isin, x, .tuple ys => if pln x && pln (.tuple ys) then some (ys.any fun z => PyData.eqv z x) else none
  | .notin, x, .tuple ys => if pln x && pln (.tuple ys) then some (!ys.any fun z => PyData.eqv z x) else none
  | _, _, _ => none
def trD : D → Option Bool
  | .none => some false
  | .bool b => some b
  | .int i => some (i != 0)
  | .str x => if x.length ≤ 16777216 then some ((x.length : Int) != 0) else none
  | .list xs => some (!xs.isEmpty)
  | .tuple xs => some (!xs.isEmpty)
  | .dict _ => none
def lenD : D → Option Nat
  | .str x => if x.length ≤ 16777216 then some x.length else none
  | .list xs => some xs.length
  | .tuple xs => some xs.length
  | _ => none
def alikeB (xs : List D) : Bool := xs.all fun a => xs.all fun b => alike a b
def sortOkB (xs : List D) : Bool := (xs.all fun d => match d with | .tuple (_ :: _) => true | _ => false) || (xs.all fun d => match d with | .none => false | .tuple _ => false | _ => true)
def deepOk (xs : List D) : Bool := xs.all fun d => decide (d.depth ≤ 64)
def sortable (xs : List D) : Bool := alikeB xs && sortOkB xs && deepOk xs && decide (xs.length ≤ 16777216)
def biD : Bf → List D → Option D
  | .len, [d] => (lenD d).map fun (n : Nat) => .int n
  | .int, [.int i] => some (.int i)
  | .int, [.bool b] => some (.int (if b then 1 else 0))
  | .int, [.str s] => if s.length ≤ 640 then (PySem.intText? s).map .int else none
  | .str, [.int i] => if i.natAbs.log2 < 1920 then some (.str (toString i)) else none
  | .abs, [.int i] => some (.int (if i < 0 then -i else i))
  | .min, [.int i, .int j] => some (.int (if j < i then j else i))
  | .max, [.int i, .int j] => some (.int (if j > i then j else i))
  | .any, [.list xs] => if xs.all (fun d => match d with | .bool _ => true | _ => false) then some (.bool (xs.any PyData.truthy)) else none
  | .all, [.list xs] => if xs.all (fun d => match d with | .bool _ => true | _ => false) then some (.bool (xs.all PyData.truthy)) else none
  | .sorted, [.list xs] => if sortable xs then some (.list (xs.mergeSort (dataLe false id))) else none
  | .list, [.list xs] => some (.list xs)
  | .list, [.tuple xs] => some (.list xs)
  | .tuple, [.list xs] => some (.tuple xs)
  | .tuple, [.tuple xs] => some (.tuple xs)
  | .ord, [.str x] => if x.length = 1 then some (.int (x.cps.getD 0 0 : Nat)) else none
  | _, _ => none
def ixD (a b : D) : Option D := match a, b with
  | .list xs, .int i => atI xs i
  | .tuple xs, .int i => atI xs i
  | .str x, .int i => if x.length ≤ 16777216 then (atI x.cps.toList i).map fun c => .str ⟨#[c]⟩ else none
  | _, _ => none
  where atI {α : Type} (xs : List α) (i : Int) : Option α := L2.atI xs i
def cutL {α : Type} (xs : List α) (lo hi : Option Int) : List α := (xs.drop (HT.sIx xs.length 0 lo)).take (HT.sIx xs.length xs.length hi - HT.sIx xs.length 0 lo)
def slD (a : D) (lo hi : Option Int) : Option D := match a with
  | .list xs => some (.list (cutL xs lo hi))
  | .tuple xs => some (.tuple (cutL xs lo hi))
  | .str x => if x.length ≤ 16777216 then some (.str (L2.cutS x lo hi)) else none
  | _ => none
def strsOf : List D → Option (List Str)
  | [] => some []
  | .str x :: r => (strsOf r).map (x :: ·)
  | _ => none
def mtD : Mf → D → List D → Option D
  | .startswith, .str a, [.str b] => some (.bool (Txt.startswith a b))
  | .endswith, .str a, [.str b] => some (.bool (Txt.endswith a b))
  | .isdigit, .str a, [] => some (.bool (Txt.isdigit a))
  | .split, .str a, [.str b] => if (b.length == 0) = false ∧ a.length + 2 ≤ 16777216 then some (.list ((Txt.split a b).map .str)) else none
  | .partition, .str a, [.str b] => if (b.length == 0) = false ∧ a.length ≤ 16777216 then some (.tuple [.str (Txt.partition a b).1, .str (Txt.partition a b).2.1, .str (Txt.partition a b).2.2]) else none
  | .join, .str a, [.list xs] => (strsOf xs).bind fun ys => if (ys.map (·.length)).sum + ys.length * a.length ≤ 16777216 then some (.str (Txt.join a ys)) else none
  | .index, .list xs, [d] => if pln (.list xs) && pln d then (xs.findIdx? fun z => PyData.eqv z d).map fun (n : Nat) => .int n else none
  | _, _, _ => none
def rcvOk : Mf → D → Bool
  | .index, .list _ => true
  | .index, _ => false
  | .get, _ => false
  | .count, _ => false
  | _, .str _ => true
  | _, _ => false
def isiD (d : D) (t : String) : Option Bool := match d with
  | .none => some (t == "NoneType")
  | .bool _ => some (t == "bool" || t == "int")
  | .int _ => some (t == "int")
  | .str _ => some (t == "str")
  | .list _ => some (t == "list")
  | .tuple _ => some (t == "tuple")
  | .dict [] => some (t == "dict")
  | .dict ((.int _, _) :: _) => some (t == "dict")
  | .dict ((.str _, _) :: _) => some (t == "dict")
  | .dict _ => none
def okTy (t : String) : Bool := t == "bool" || t == "int" || t == "str" || t == "list" || t == "tuple" || t == "dict"

def rdSl (ρ : List Sl) (i : Nat) : Option D := match ρ[i]? with | some (.fz d) => some d | _ => none
def frzSl : Sl → Sl
  | .own d => .fz d
  | s => s
def frzL (is : List Nat) (ρ : List Sl) : List Sl := is.foldl (fun r i => match r[i]? with | some s => r.set i (frzSl s) | none => r) ρ
def wipeL (is : List Nat) (ρ : List Sl) : List Sl := is.foldl (fun r i => r.set i .no) ρ
def setL : List Nat → List D → List Sl → List Sl
  | i :: is, d :: ds, ρ => setL is ds (ρ.set i (.fz d))
  | _, _, ρ => ρ
def Tg.ix : Tg → List Nat
  | .one i => [i]
  | .many is => is
def bindTg : Tg → D → List Sl → Option (List Sl)
  | .one i, d, ρ => some (ρ.set i (.fz d))
  | .many is, .tuple ds, ρ => if ds.length = is.length then some (setL is ds ρ) else none
  | .many is, .list ds, ρ => if ds.length = is.length then some (setL is ds ρ) else none
  | _, _, _ => none
def lift {α : Type} (o : Option α) (S : Hs) : R α := match o with | some a => .ok a S | none => .bad
/-- the items that are walked -/
def itemsD : D → Option (List D)
  | .list xs => some xs
  | .tuple xs => some xs
  | .str x => some (x.cps.toList.map fun c => .str ⟨#[c]⟩)
  | _ => none
def rangeD (a b : Int) : Option (List D) := if -4611686018427387904 ≤ a ∧ a < 4611686018427387904 ∧ -4611686018427387904 ≤ b ∧ b < 4611686018427387904 then some ((List.range (b - a).toNat).map fun (k : Nat) => .int (a + k)) else none

abbrev Cl := Str → List D → Hs → R (Bool × D)
def lcLoop (f : D → Hs → R (Option D)) : List D → Hs → List D → R D
  | [], S, acc => .ok (.list acc) S
  | x :: xs, S, acc => match f x S with
    | .ok (some y) S1 => if acc.length < 16777216 then lcLoop f xs S1 (acc ++ [y]) else .bad
    | .ok none S1 => lcLoop f xs S1 acc
    | _ => .bad
def forLoop (w : List Nat) (f : D → List Sl → Hs → RS) : List D → List Sl → Hs → RS
  | [], ρ, S => .nx (wipeL w ρ) S
  | x :: xs, ρ, S => match f x (wipeL w ρ) S with
    | .nx ρ' S' => forLoop w f xs ρ' S'
    | .ct ρ' S' => forLoop w f xs ρ' S'
    | .bk ρ' S' => .nx (wipeL w ρ') S'
    | r => r
def whLoop (w : List Nat) (t : List Sl → Hs → R Bool) (f : List Sl → Hs → RS) : Nat → List Sl → Hs → RS
  | 0, _, _ => .bad
  | n + 1, ρ, S => match t (wipeL w ρ) S with
    | .ok true S1 => (match f (wipeL w ρ) S1 with
      | .nx ρ' S' => whLoop w t f n ρ' S'
      | .ct ρ' S' => whLoop w t f n ρ' S'
      | .bk ρ' S' => .nx (wipeL w ρ') S'
      | r => r)
    | .ok false S1 => .nx (wipeL w ρ) S1
    | .exc c S1 => .ex c (wipeL w ρ) S1
    | .bad => .bad
/-- the key calls of sorted(xs, key=f): pure -/
def keyLoop (cl : Cl) (f : Str) : List D → Hs → Option (List D)
  | [], _ => some []
  | x :: xs, S => match cl f [x] S with
    | .ok (_, k) S' => if S' = S then (keyLoop cl f xs S).map (k :: ·) else none
    | _ => none
structure Env1 where
  cl : Cl
  gl : List (Str × D)

variable (c : Env1)
mutual
def evE : E → List Sl → Hs → R D
  | .var i, ρ, S => lift (rdSl ρ i) S
  | .cst d, _, S => .ok d S
  | .glo x, _, S => lift (c.gl.lookup x) S
  | .neg a, ρ, S => (evE a ρ S).bind fun d S => match d with | .int i => .ok (.int (-i)) S | _ => .bad
  | .bin op a b, ρ, S => (evE a ρ S).bind fun x S => (evE b ρ S).bind fun y S => lift (binD op x y) S
  | .cmp op a b, ρ, S => (evE a ρ S).bind fun x S => (evE b ρ S).bind fun y S => lift ((cmpD op x y).map .bool) S
  | .isN a, ρ, S => (evE a ρ S).bind fun x S => .ok (.bool (decide (x = .none))) S
  | .notN a, ρ, S => (evE a ρ S).bind fun x S => .ok (.bool (!decide (x = .none))) S
  | .isB a v, ρ, S => (evE a ρ S).bind fun x S => match x with | .bool k => .ok (.bool (decide (k = v))) S | _ => .bad
  | .ntB a v, ρ, S => (evE a ρ S).bind fun x S => match x with | .bool k => .ok (.bool (!decide (k = v))) S | _ => .bad
  | .chain o1 o2 a b d, ρ, S => (evE a ρ S).bind fun x S => (evE b ρ S).bind fun y S => (lift (cmpD o1 x y) S).bind fun k S =>
      if k = true then (evE d ρ S).bind fun z S => lift ((cmpD o2 y z).map .bool) S else .ok (.bool false) S
  | .and es, ρ, S => evAnd es ρ S
  | .or es, ρ, S => evOr es ρ S
  | .not a, ρ, S => (evE a ρ S).bind fun d S => (lift (trD d) S).bind fun k S => .ok (.bool (!k)) S
  | .ite t a b, ρ, S => (evT t ρ S).bind fun k S => if k = true then evE a ρ S else evE b ρ S
  | .tup es, ρ, S => (evEs es ρ S).bind fun ds S => if ds.length ≤ 16777216 then .ok (.tuple ds) S else .bad
  | .lst es, ρ, S => (evEs es ρ S).bind fun ds S => if ds.length ≤ 16777216 then .ok (.list ds) S else .bad
  | .idx a b, ρ, S => (evE a ρ S).bind fun x S => (evE b ρ S).bind fun y S => lift (ixD x y) S
  | .slc a lo hi, ρ, S => (evE a ρ S).bind fun x S => (evO lo ρ S).bind fun l S => (evO hi ρ S).bind fun h S => lift (slD x l h) S
  | .call f es, ρ, S => (evEs es ρ S).bind fun ds S => (c.cl f ds S).bind fun r S => .ok r.2 S
  | .bi f es, ρ, S => (evEs es ρ S).bind fun ds S => lift (biD f ds) S
  | .mt m o es, ρ, S => (evE o ρ S).bind fun x S => if rcvOk m x = true then (evEs es ρ S).bind fun ds S => lift (mtD m x ds) S else .bad
  | .isi a t, ρ, S => (evE a ρ S).bind fun x S => lift ((isiD x t).map .bool) S
  | .sortK a f, ρ, S => (evE a ρ S).bind fun x S => match x with
    | .list xs => (lift (keyLoop c.cl f xs S) S).bind fun ks S => if sortable ks then .ok (.list (((ks.zip xs).mergeSort (dataLe false Prod.fst)).map Prod.snd)) S else .bad
    | _ => .bad
  | .sset a, ρ, S => (evE a ρ S).bind fun x S => match x with
    | .list xs => (lift (strsOf xs) S).bind fun ys S => .ok (.list ((ys.eraseDups.mergeSort (fun a b => decide (a.cps.toList ≤ b.cps.toList))).map .str)) S
    | _ => .bad
  | .lc tg it ts e, ρ, S => (evIt it ρ S).bind fun xs S =>
      lcLoop (fun x S => match bindTg tg x (wipeL tg.ix ρ) with
        | some ρ1 => (evAll ts ρ1 S).bind fun k S => if k = true then (evE e ρ1 S).bind fun d S => .ok (some d) S else .ok none S
        | none => .bad) xs S []
  | .dc tg it k v, ρ, S => .bad
  | .bw is e, ρ, S => match evE e (frzL is ρ) S with
    | .ok d S' => if scalar d = true ∧ S' = S then .ok d S else .bad
    | .exc x S' => if S' = S then .exc x S else .bad
    | .bad => .bad
def evT : T → List Sl → Hs → R Bool
  | .tru e, ρ, S => (evE e ρ S).bind fun d S => lift (trD d) S
  | .and ts, ρ, S => evAll ts ρ S
  | .or ts, ρ, S => evAny ts ρ S
  | .not t, ρ, S => (evT t ρ S).bind fun k S => .ok (!k) S
  | .bw is t, ρ, S => match evT t (frzL is ρ) S with
    | .ok k S' => if S' = S then .ok k S else .bad
    | .exc x S' => if S' = S then .exc x S else .bad
    | .bad => .bad
def evIt : It → List Sl → Hs → R (List D)
  | .seq e, ρ, S => (evE e ρ S).bind fun d S => lift (itemsD d) S
  | .rg1 a, ρ, S => (evE a ρ S).bind fun d S => match d with | .int j => lift (rangeD 0 j) S | _ => .bad
  | .rg2 a b, ρ, S => (evE a ρ S).bind fun d S => (evE b ρ S).bind fun e S => match d, e with | .int i, .int j => lift (rangeD i j) S | _, _ => .bad
def evEs : Es → List Sl → Hs → R (List D)
  | .nil, _, S => .ok [] S
  | .cons e es, ρ, S => (evE e ρ S).bind fun d S => (evEs es ρ S).bind fun ds S => .ok (d :: ds) S
/-- a bound of a slice: left out, or an int -/
def evO : Es → List Sl → Hs → R (Option Int)
  | .nil, _, S => .ok none S
  | .cons e .nil, ρ, S => (evE e ρ S).bind fun d S => match d with | .int i => .ok (some i) S | _ => .bad
  | _, _, _ => .bad
def evAnd : Es → List Sl → Hs → R D
  | .nil, _, _ => .bad
  | .cons e .nil, ρ, S => evE e ρ S
  | .cons e es, ρ, S => (evE e ρ S).bind fun d S => (lift (trD d) S).bind fun k S => if k = true then evAnd es ρ S else .ok d S
def evOr : Es → List Sl → Hs → R D
  | .nil, _, _ => .bad
  | .cons e .nil, ρ, S => evE e ρ S
  | .cons e es, ρ, S => (evE e ρ S).bind fun d S => (lift (trD d) S).bind fun k S => if k = true then .ok d S else evOr es ρ S
def evAll : Ts → List Sl → Hs → R Bool
  | .nil, _, S => .ok true S
  | .cons t ts, ρ, S => (evT t ρ S).bind fun k S => if k = true then evAll ts ρ S else .ok false S
def evAny : Ts → List Sl → Hs → R Bool
  | .nil, _, S => .ok false S
  | .cons t ts, ρ, S => (evT t ρ S).bind fun k S => if k = true then .ok true S else evAny ts ρ S
end

/-- a fresh list -/
def freshE : E → Bool
  | .lst _ => true
  | .lc .. => true
  | .slc .. => true
  | .bi .list _ => true
  | .bi .sorted _ => true
  | .sortK .. => true
  | .bin .add _ _ => true
  | .bin .mul _ _ => true
  | _ => false
def isLst : D → Bool
  | .list _ => true
  | _ => false
def evFr (e : E) (ρ : List Sl) (S : Hs) : R D := match e with
  | .call f es => (evEs c es ρ S).bind fun ds S => (c.cl f ds S).bind fun r S => if r.1 = true then .ok r.2 S else .bad
  | e => if freshE e = true then (evE c e ρ S).bind fun d S => if isLst d = true then .ok d S else .bad else .bad
def toRS (r : R D) (ρ : List Sl) (k : D → Hs → RS) : RS := match r with
  | .ok d S => k d S
  | .exc x S => .ex x ρ S
  | .bad => .bad
def augD (op : Op2) (a b : D) : Option D := match op, a, b with
  | .add, .int a, .int b => some (.int (a + b))
  | .sub, .int a, .int b => some (.int (a - b))
  | _, _, _ => none
structure Xc where
  sub : Str → Str → Bool
  xs : List Str
variable (x : Xc) (L : Nat)
def Hd.val (h : He) (k : Str) : D := match h with
  | .cst d => d
  | .isE t => .bool (x.sub k t)
  | .ite t d e => if x.sub k t then d else e
def runHd (h : Hd) (as : Option Nat) (k : Str) (ρ : List Sl) (S : Hs) : RS :=
  let ρ' := match as with | some i => ρ.set i .no | none => ρ
  match h with
  | .ret h => .rt false (Hd.val x h k) S
  | .cnt => .ct ρ' S
  | .brk => .bk ρ' S
  | .pass => .nx ρ' S
  | .asg i h => .nx ((match as with | some j => (ρ.set i (.fz (Hd.val x h k))).set j .no | none => ρ.set i (.fz (Hd.val x h k)))) S
mutual
def evS : S → List Sl → Hs → RS
  | .asg i e, ρ, S => toRS (evE c e ρ S) ρ fun d S => .nx (ρ.set i (.fz d)) S
  | .asgO i e, ρ, S => toRS (evFr c e ρ S) ρ fun d S => .nx (ρ.set i (.own d)) S
  | .asgT is e, ρ, S => toRS (evE c e ρ S) ρ fun d S => match bindTg (.many is) d ρ with | some ρ' => .nx ρ' S | none => .bad
  | .aug i op e, ρ, S => match rdSl ρ i with
    | some a => toRS (evE c e ρ S) ρ fun d S => match augD op a d with | some z => .nx (ρ.set i (.fz z)) S | none => .bad
    | none => .bad
  | .expr e, ρ, S => toRS (evE c e ρ S) ρ fun _ S => .nx ρ S
  | .app i e, ρ, S => match ρ[i]? with
    | some (.own (.list xs)) => toRS (evE c e ρ S) ρ fun d S => if xs.length < 16777216 then .nx (ρ.set i (.own (.list (xs ++ [d])))) S else .bad
    | _ => .bad
  | .ext i e, ρ, S => match ρ[i]? with
    | some (.own (.list xs)) => toRS (evE c e ρ S) ρ fun d S => match d with
      | .list ys => if xs.length + ys.length ≤ 16777216 then .nx (ρ.set i (.own (.list (xs ++ ys)))) S else .bad
      | _ => .bad
    | _ => .bad
  | .seti i k e, ρ, S => match ρ[i]? with
    | some (.own (.list xs)) => toRS (evE c e ρ S) ρ fun d S => toRS (evE c k ρ S) ρ fun kd S => match kd with
      | .int z => match L2.ixN xs.length z with
        | some j => .nx (ρ.set i (.own (.list (xs.set j d)))) S
        | none => .bad
      | _ => .bad
    | _ => .bad
  | .ret e, ρ, S => toRS (evE c e ρ S) ρ fun d S => .rt false d S
  | .retO i, ρ, S => match ρ[i]? with
    | some (.own d) => .rt true d S
    | _ => .bad
  | .retF e, ρ, S => toRS (evFr c e ρ S) ρ fun d S => .rt true d S
  | .retN, ρ, S => .rt false .none S
  | .ifS t a b, ρ, S => match evT c t ρ S with
    | .ok k S => if k = true then evSs a ρ S else evSs b ρ S
    | .exc y S => .ex y ρ S
    | .bad => .bad
  | .whl t b w, ρ, S => whLoop w (evT c t) (evSs b) L ρ S
  | .forS tg it b w, ρ, S => match evIt c it ρ S with
    | .ok xs S => forLoop w (fun d ρ S => match bindTg tg d ρ with | some ρ' => evSs b ρ' S | none => .bad) xs ρ S
    | .exc y S => .ex y ρ S
    | .bad => .bad
  | .brk, ρ, S => .bk ρ S
  | .cnt, ρ, S => .ct ρ S
  | .pass, ρ, S => .nx ρ S
  | .raise k, ρ, S => .ex k ρ S
  | .tryS b k as h, ρ, S => match evSs b ρ S with
    | .ex y ρ' S' => if x.xs.contains y = true then (if x.sub y k = true then runHd x h as y ρ' S' else .ex y ρ' S') else .bad
    | r => r
  | .frz is, ρ, S => .nx (frzL is ρ) S
  | .wipe is, ρ, S => .nx (wipeL is ρ) S
def evSs : Ss → List Sl → Hs → RS
  | .nil, ρ, S => .nx ρ S
  | .cons s ss, ρ, S => match evS s ρ S with
    | .nx ρ' S' => evSs ss ρ' S'
    | r => r
end
structure Fd where
  name : Str
  np : Nat
  ns : Nat
  body : Ss
def findF (fs : List Fd) (f : Str) : Option Fd := fs.find? fun d => d.name == f
structure Pr where
  fs : List Fd
  gl : List (Str × D)
  xc : Xc
  L : Nat
def startS (ds : List D) (n : Nat) : List Sl := ds.map .fz ++ List.replicate (n - ds.length) .no
def endRS : RS → R (Bool × D)
  | .nx _ S => .ok (false, .none) S
  | .rt o d S => .ok (o, d) S
  | .ex k _ S => .exc k S
  | _ => .bad
def callN (p : Pr) : Nat → Cl
  | 0 => fun _ _ _ => .bad
  | n + 1 => fun f ds S => match findF p.fs f with
    | some d => if ds.length = d.np then endRS (evSs ⟨callN p n, p.gl⟩ p.xc p.L d.body (startS ds d.ns) S) else .bad
    | none => .bad
example (e : Env1) (d : D) (ρ : List Sl) (S : Hs) : evE e (.cst d) ρ S = .ok d S := rfl
example (e : Env1) (d : E) (ρ : List Sl) (S : Hs) : evE e (.neg d) ρ S = (evE e d ρ S).bind fun d S => match d with | .int i => .ok (.int (-i)) S | _ => .bad := rfl
end FW

namespace FW
open PySem PySem.W PySem.Spec PyProof.Rows L2

abbrev SV := List (Option V)
/-! ## data in the heap -/
def keyOf : D → Option Key
  | .int i => some (.inl i)
  | .str x => some (.inr x)
  | _ => none
mutual
inductive Rep (K : PySem.W.Frag) (H : Hp) (ι : List Addr) : D → V → Prop
  | non : Rep K H ι .none .non
  | bl (b : Bool) : Rep K H ι (.bool b) (.bl b)
  | int (i : Int) : Rep K H ι (.int i) (.int i)
  | str (x : Str) : Rep K H ι (.str x) (.str x)
  | lst {a : Addr} {ds : List D} {vs : List V} : SqL K H a vs → Reps K H ι ds vs → Rep K H ι (.list ds) (.ref a)
  | tup {a : Addr} {ds : List D} {vs : List V} : SqT K H a vs → Reps K H ι ds vs → Rep K H ι (.tuple ds) (.ref a)
  | dic {a : Addr} {kvs : List (D × D)} {ps : List (Key × V)} : H a = some (.dK ps) → RepK K H ι kvs ps → Rep K H ι (.dict kvs) (.ref a)
  | ins {n : Nat} {a : Addr} : ι[n]? = some a → Rep K H ι (insD n) (.ref a)
inductive Reps (K : PySem.W.Frag) (H : Hp) (ι : List Addr) : List D → List V → Prop
  | nil : Reps K H ι [] []
  | cons {d : D} {ds : List D} {v : V} {vs : List V} : Rep K H ι d v → Reps K H ι ds vs → Reps K H ι (d :: ds) (v :: vs)
inductive RepK (K : PySem.W.Frag) (H : Hp) (ι : List Addr) : List (D × D) → List (Key × V) → Prop
  | nil : RepK K H ι [] []
  | cons {k d : D} {r : List (D × D)} {q : Key} {v : V} {ps : List (Key × V)} : keyOf k = some q → Rep K H ι d v → RepK K H ι r ps → RepK K H ι ((k, d) :: r) ((q, v) :: ps)
end
section
variable {K : PySem.W.Frag} {H H' : Hp} {ι ι' : List Addr}
theorem Same.seqT {a : Addr} {xs : List V} (e : Same H H') (h : SqT K H a xs) : SqT K H' a xs := by
  rcases h with (h | ⟨o, h⟩) | h
  · exact .inl (.inl (e _ _ h))
  · exact .inl (.inr ⟨o, e _ _ h⟩)
  · exact .inr h
abbrev Pre (ι ι' : List Addr) : Prop := ∀ (n : Nat) (a : Addr), ι[n]? = some a → ι'[n]? = some a
mutual
theorem Rep.mono (e : Same H H') (p : Pre ι ι') : ∀ {d : D} {v : V}, Rep K H ι d v → Rep K H' ι' d v
  | _, _, .non => .non
  | _, _, .bl b => .bl b
  | _, _, .int i => .int i
  | _, _, .str x => .str x
  | _, _, .lst s r => .lst (e.seq s) (Reps.mono e p r)
  | _, _, .tup s r => .tup (Same.seqT e s) (Reps.mono e p r)
  | _, _, .dic s r => .dic (e _ _ s) (RepK.mono e p r)
  | _, _, .ins h => .ins (p _ _ h)
theorem Reps.mono (e : Same H H') (p : Pre ι ι') : ∀ {ds : List D} {vs : List V}, Reps K H ι ds vs → Reps K H' ι' ds vs
  | _, _, .nil => .nil
  | _, _, .cons r t => .cons (Rep.mono e p r) (Reps.mono e p t)
theorem RepK.mono (e : Same H H') (p : Pre ι ι') : ∀ {ds : List (D × D)} {vs : List (Key × V)}, RepK K H ι ds vs → RepK K H' ι' ds vs
  | _, _, .nil => .nil
  | _, _, .cons q r t => .cons q (Rep.mono e p r) (RepK.mono e p t)
end
theorem Reps.length : ∀ {ds : List D} {vs : List V}, Reps K H ι ds vs → ds.length = vs.length
  | _, _, .nil => rfl
  | _, _, .cons _ t => congrArg (· + 1) (Reps.length t)
theorem Reps.get : ∀ {ds : List D} {vs : List V} {i : Nat} {d : D}, Reps K H ι ds vs → ds[i]? = some d → ∃ v, vs[i]? = some v ∧ Rep K H ι d v
  | _, _, i, _, .nil, h => by simp at h
  | _, _, 0, _, .cons r _, h => by simp at h; subst h; exact ⟨_, rfl, r⟩
  | _, _, i + 1, _, .cons _ t, h => by
    obtain ⟨v, e, r⟩ := Reps.get (i := i) t (by simpa using h)
    exact ⟨v, by simpa using e, r⟩
theorem Reps.append : ∀ {ds es : List D} {vs ws : List V}, Reps K H ι ds vs → Reps K H ι es ws → Reps K H ι (ds ++ es) (vs ++ ws)
  | _, _, _, _, .nil, s => s
  | _, _, _, _, .cons r t, s => .cons r (Reps.append t s)
theorem Reps.take : ∀ {ds : List D} {vs : List V} (n : Nat), Reps K H ι ds vs → Reps K H ι (ds.take n) (vs.take n)
  | _, _, 0, _ => .nil
  | _, _, _ + 1, .nil => .nil
  | _, _, n + 1, .cons r t => .cons r (Reps.take n t)
theorem Reps.drop : ∀ {ds : List D} {vs : List V} (n : Nat), Reps K H ι ds vs → Reps K H ι (ds.drop n) (vs.drop n)
  | _, _, 0, s => s
  | _, _, _ + 1, .nil => .nil
  | _, _, n + 1, .cons r t => Reps.drop n t
theorem Reps.set {d : D} {v : V} (r : Rep K H ι d v) : ∀ {ds : List D} {vs : List V} (n : Nat), Reps K H ι ds vs → Reps K H ι (ds.set n d) (vs.set n v)
  | _, _, _, .nil => .nil
  | _, _, 0, .cons _ t => .cons r t
  | _, _, n + 1, .cons q t => .cons q (Reps.set r n t)
theorem Reps.mem : ∀ {ds : List D} {vs : List V} {v : V}, Reps K H ι ds vs → v ∈ vs → ∃ d, d ∈ ds ∧ Rep K H ι d v
  | _, _, _, .nil, h => by simp at h
  | _, _, v, .cons (d := d) r t, h => by
    rcases List.mem_cons.mp h with e | h
    · subst e; exact ⟨d, List.mem_cons_self, r⟩
    · obtain ⟨d', m, q⟩ := Reps.mem t h
      exact ⟨d', List.mem_cons_of_mem _ m, q⟩
theorem Reps.strs : ∀ {ys : List Str} {ds : List D} {vs : List V}, Reps K H ι ds vs → strsOf ds = some ys → vs = ys.map V.str
  | ys, _, _, .nil, h => by simp [strsOf] at h; subst h; rfl
  | ys, _, _, .cons (d := d) (ds := ds) r t, h => by
    cases r with
    | str x =>
      simp only [strsOf, Option.map_eq_some_iff] at h
      obtain ⟨zs, h1, h2⟩ := h
      subst h2
      rw [Reps.strs t h1]; rfl
    | _ => simp [strsOf, insD] at h
theorem Reps.ofStrs : ∀ (ys : List Str), Reps K H ι (ys.map PyData.str) (ys.map V.str)
  | [] => .nil
  | y :: ys => .cons (.str y) (Reps.ofStrs ys)
theorem Reps.rep {ds : List D} {vs : List V} (r : Reps K H ι ds vs) : ∀ k : Nat, Reps K H ι (List.replicate k ds).flatten (List.replicate k vs).flatten
  | 0 => .nil
  | k + 1 => by
    rw [List.replicate_succ, List.replicate_succ, List.flatten_cons, List.flatten_cons]
    exact Reps.append r (Reps.rep r k)
/-- as the layer's own data -/
theorem plain_insD (n : Nat) : (insD n).plain = false := rfl
mutual
theorem Rep.dp : ∀ {d : D} {v : V}, Rep K H ι d v → d.plain = true → Dp K H v d
  | _, _, .non, _ => .non
  | _, _, .bl b, _ => .bl b
  | _, _, .int i, _ => .int i
  | _, _, .str x, _ => .str x
  | _, _, .lst s r, h => .lst s (Reps.dp r (by simpa [PyData.plain] using h))
  | _, _, .tup s r, h => .tup s (Reps.dp r (by simpa [PyData.plain] using h))
  | _, _, .dic s r, h => by simp [PyData.plain] at h
  | _, _, .ins e, h => by simp [insD, PyData.plain] at h
theorem Reps.dp : ∀ {ds : List D} {vs : List V}, Reps K H ι ds vs → PyData.plainAll ds = true → DpAll K H vs ds
  | _, _, .nil, _ => .nil
  | _, _, .cons r t, h => by
    rw [PyData.plainAll, Bool.and_eq_true] at h
    exact .cons (Rep.dp r h.1) (Reps.dp t h.2)
end
mutual
theorem Dp.mono (e : Same H H') : ∀ {d : D} {v : V}, Dp K H v d → Dp K H' v d
  | _, _, .non => .non
  | _, _, .bl b => .bl b
  | _, _, .int i => .int i
  | _, _, .str x => .str x
  | _, _, .lst s r => .lst (e.seq s) (DpAll.mono e r)
  | _, _, .tup s r => .tup (Same.seqT e s) (DpAll.mono e r)
theorem DpAll.mono (e : Same H H') : ∀ {ds : List D} {vs : List V}, DpAll K H vs ds → DpAll K H' vs ds
  | _, _, .nil => .nil
  | _, _, .cons r t => .cons (Dp.mono e r) (DpAll.mono e t)
end
end

/-! ## the state -/
structure Wd where
  f : Hp
  g : Hp
  ι : List Addr
/-- what stands in an owned cell -/
def Cell (K : PySem.W.Frag) (w : Wd) (o : Option HO) (d : D) : Prop := ∃ xs vs, d = .list xs ∧ o = some (.lst vs) ∧ Reps K w.f w.ι xs vs
/-- the objects (none yet) -/
def GOk (K : PySem.W.Frag) (w : Wd) (S : Hs) : Prop := S = [] ∧ w.ι = [] ∧ ∀ a, w.g a = none

structure Stt (K : PySem.W.Frag) (w : Wd) (ρ : List Sl) (S : Hs) (σ : SV) (H : Hp) : Prop where
  sf : Same w.f H
  sg : Same w.g H
  dj : ∀ a, w.f a ≠ none → w.g a = none
  ob : GOk K w S
  len : ρ.length = σ.length
  sl : ∀ (i : Nat) (d : D), ρ[i]? = some (Sl.fz d) → ∃ v, σ[i]? = some (some v) ∧ Rep K w.f w.ι d v
  ow : ∀ (i : Nat) (d : D), ρ[i]? = some (Sl.own d) → ∃ a : Addr, σ[i]? = some (some (V.ref a)) ∧ w.f a = none ∧ w.g a = none ∧ Cell K w (H a) d
  inj : ∀ (i j : Nat) (d e : D) (a : Addr), ρ[i]? = some (Sl.own d) → ρ[j]? = some (Sl.own e) → σ[i]? = some (some (V.ref a)) → σ[j]? = some (some (V.ref a)) → i = j
structure Ext (w : Wd) (H : Hp) (w' : Wd) (H' : Hp) : Prop where
  f : Same w.f w'.f
  i : Pre w.ι w'.ι
  t : ∀ a, H a ≠ none → H' a ≠ none
  k : ∀ a o, H a = some o → w.g a = none → H' a = some o
  n : ∀ a, H a ≠ none → w.g a = none → w.f a = none → w'.f a = none ∧ w'.g a = none
  q : ∀ a, w'.g a ≠ none → w.g a ≠ none ∨ H a = none
  m : ∀ a, w.g a ≠ none → w'.g a ≠ none
section
variable {K : PySem.W.Frag} {w w' w'' : Wd} {H H' H'' : Hp} {ρ ρ' : List Sl} {S S' : Hs} {σ : SV}
theorem Ext.refl : Ext w H w H := ⟨fun _ _ h => h, fun _ _ h => h, fun _ h => h, fun _ _ h _ => h, fun _ _ a b => ⟨b, a⟩, fun _ h => .inl h, fun _ h => h⟩
theorem Ext.trans (x : Ext w H w' H') (y : Ext w' H' w'' H'') : Ext w H w'' H'' where
  f := fun _ _ h => y.f _ _ (x.f _ _ h)
  i := fun _ _ h => y.i _ _ (x.i _ _ h)
  t := fun a h => y.t a (x.t a h)
  k := fun a o h g => y.k a o (x.k a o h g) (by
    cases e : w'.g a with
    | none => rfl
    | some u =>
      rcases x.q a (by rw [e]; simp) with z | z
      · exact absurd g z
      · rw [h] at z; cases z)
  n := fun a h g f => let z := x.n a h g f; y.n a (x.t a h) z.2 z.1
  q := fun a h => by
    rcases y.q a h with z | z
    · exact x.q a z
    · right
      cases e : H a with
      | none => rfl
      | some u => exact absurd z (x.t a (by rw [e]; simp))
  m := fun a h => y.m a (x.m a h)
theorem Cell.mono {o : Option HO} {d : D} (x : Ext w H w' H') (h : Cell K w o d) : Cell K w' o d := by
  obtain ⟨xs, vs, e1, e2, r⟩ := h
  exact ⟨xs, vs, e1, e2, Reps.mono x.f x.i r⟩
theorem Ext.rep {d : D} {v : V} (x : Ext w H w' H') (r : Rep K w.f w.ι d v) : Rep K w'.f w'.ι d v := Rep.mono x.f x.i r
theorem Ext.reps {d : List D} {v : List V} (x : Ext w H w' H') (r : Reps K w.f w.ι d v) : Reps K w'.f w'.ι d v := Reps.mono x.f x.i r
/-- the frame's slots behind a call -/
theorem Stt.carry {ρ₁ : List Sl} {σ₁ : SV} (s : Stt K w ρ S σ H) (x : Ext w H w' H') (s' : Stt K w' ρ₁ S' σ₁ H') : Stt K w' ρ S' σ H' where
  sf := s'.sf
  sg := s'.sg
  dj := s'.dj
  ob := s'.ob
  len := s.len
  sl := fun i d h => let ⟨v, e, r⟩ := s.sl i d h; ⟨v, e, x.rep r⟩
  ow := fun i d h => by
    obtain ⟨a, e, f, g, c⟩ := s.ow i d h
    have hn : H a ≠ none := by
      obtain ⟨_, _, _, c, _⟩ := c
      rw [c]; simp
    obtain ⟨f', g'⟩ := x.n a hn g f
    refine ⟨a, e, f', g', ?_⟩
    obtain ⟨xs, vs, e1, e2, r⟩ := c
    exact ⟨xs, vs, e1, x.k a _ e2 g, Reps.mono x.f x.i r⟩
  inj := s.inj
/-- other slots over the same heap -/
theorem Stt.bare (s : Stt K w ρ S σ H) : Stt K w [] S [] H where
  sf := s.sf
  sg := s.sg
  dj := s.dj
  ob := s.ob
  len := rfl
  sl := fun i d h => by simp at h
  ow := fun i d h => by simp at h
  inj := fun i j d e a h => by simp at h
theorem GOk.mono (x : Same w.f w'.f) (hg : w'.g = w.g) (hi : w'.ι = w.ι) (h : GOk K w S) : GOk K w' S := by
  obtain ⟨a, b, c⟩ := h
  exact ⟨a, by rw [hi]; exact b, by rw [hg]; exact c⟩
theorem same_upd {H : Hp} {p : Addr} {o : HO} (h : H p = none) : Same H (upd H p o) := fun b u e => by
  rw [upd_ne (ne_of_none e h)]; exact e
/-- a new thing that never changes -/
def Wd.add (w : Wd) (p : Addr) (o : HO) : Wd := ⟨upd w.f p o, w.g, w.ι⟩
theorem Stt.free_f (s : Stt K w ρ S σ H) {p : Addr} (h : H p = none) : w.f p = none ∧ w.g p = none := ⟨Same.free s.sf h, Same.free s.sg h⟩
theorem Ext.add {p : Addr} {o : HO} (s : Stt K w ρ S σ H) (h : H p = none) : Ext w H (w.add p o) (upd H p o) where
  f := same_upd (s.free_f h).1
  i := fun _ _ e => e
  t := fun a e => by
    by_cases z : a = p
    · subst z; exact absurd h e
    · rw [upd_ne z]; exact e
  k := fun a u e _ => same_upd h a u e
  n := fun a e g f => ⟨by
    show upd w.f p o a = none
    rw [upd_ne (fun z => by subst z; exact e h)]; exact f, g⟩
  q := fun a e => .inl e
  m := fun a e => e
theorem Stt.add {p : Addr} {o : HO} (s : Stt K w ρ S σ H) (h : H p = none) : Stt K (w.add p o) ρ S σ (upd H p o) := by
  have x := Ext.add (o := o) s h
  have hf := s.free_f h
  refine Stt.carry s x (ρ₁ := []) (σ₁ := []) ⟨fun b u e => ?_, fun b u e => ?_, fun a e => ?_, GOk.mono (same_upd hf.1) rfl rfl s.ob, rfl, fun i d z => by simp at z, fun i d z => by simp at z, fun i j d e a z => by simp at z⟩
  · have e : upd w.f p o b = some u := e
    by_cases z : b = p
    · subst z; rw [upd_same] at e ⊢; exact e
    · rw [upd_ne z] at e ⊢; exact s.sf _ _ e
  · exact same_upd h b u (s.sg b u e)
  · have e : upd w.f p o a ≠ none := e
    by_cases z : a = p
    · subst z; exact hf.2
    · rw [upd_ne z] at e; exact s.dj a e
theorem add_at {p : Addr} {o : HO} : (w.add p o).f p = some o := upd_same
/-- a cell that someone holds alone is given up: it never changes again -/
theorem Ext.give {p : Addr} {o : HO} (s : Stt K w ρ S σ H) (hp : H p = some o) (hf : w.f p = none) (hg : w.g p = none) {w0 : Wd} {H0 : Hp} (x : Ext w0 H0 w H) (h0 : H0 p = none) : Ext w0 H0 (w.add p o) H where
  f := fun a u e => by
    have e' := x.f a u e
    show upd w.f p o a = some u
    rw [upd_ne (ne_of_none e' hf)]; exact e'
  i := x.i
  t := x.t
  k := x.k
  n := fun a e g f => ⟨by
    show upd w.f p o a = none
    rw [upd_ne (fun z => by subst z; exact e h0)]; exact (x.n a e g f).1, (x.n a e g f).2⟩
  q := x.q
  m := x.m
end
end FW

namespace FW
open PySem PySem.W PySem.Spec PyProof.Rows L2

abbrev WXs := Value → Option Addr → SV → Hp → Prop
/-- what must follow, by what the evaluator gives -/
def PoR {α β : Type} (K : PySem.W.Frag) (xv : Str → Value) (W : WXs) (rel : α → Wd → β → Prop) (r : R α) (w : Wd) (H : Hp) (ρ : List Sl) (σ : SV) (Q : β → Hp → Prop) : Prop := match r with
  | .ok a S' => ∀ b w' H', Ext w H w' H' → Stt K w' ρ S' σ H' → rel a w' b → Q b H'
  | .exc k S' => ∀ w' H', Ext w H w' H' → Stt K w' ρ S' σ H' → W (xv k) none σ H'
  | .bad => False
section
variable {K : PySem.W.Frag} {xv : Str → Value} {W : WXs} {α β γ δ : Type} {rel : α → Wd → β → Prop} {rl2 : γ → Wd → δ → Prop} {w w' : Wd} {H H' : Hp} {ρ : List Sl} {σ : SV} {S S' : Hs}
theorem PoR.shift {r : R α} {Q : β → Hp → Prop} (x : Ext w H w' H') (po : PoR K xv W rel r w H ρ σ Q) : PoR K xv W rel r w' H' ρ σ Q := by
  cases r with
  | ok a S => exact fun b w2 H2 y => po b w2 H2 (x.trans y)
  | exc k S => exact fun w2 H2 y => po w2 H2 (x.trans y)
  | bad => exact po
theorem PoR.ok {a : α} {b : β} {Q : β → Hp → Prop} (po : PoR K xv W rel (.ok a S) w H ρ σ Q) (s : Stt K w ρ S σ H) (r : rel a w b) : Q b H := po b w H Ext.refl s r
theorem PoR.seq {r : R α} {f : α → Hs → R γ} {Q : δ → Hp → Prop} {Q' : β → Hp → Prop} (po : PoR K xv W rl2 (r.bind f) w H ρ σ Q)
    (h : ∀ a S' b w' H', r = .ok a S' → Ext w H w' H' → Stt K w' ρ S' σ H' → rel a w' b → PoR K xv W rl2 (f a S') w' H' ρ σ Q → Q' b H') : PoR K xv W rel r w H ρ σ Q' := by
  cases r with
  | ok a S => exact fun b w2 H2 y s r => h a S b w2 H2 rfl y s r (PoR.shift y po)
  | exc k S => exact po
  | bad => exact po
theorem PoR.lift {o : Option α} {Q : β → Hp → Prop} (po : PoR K xv W rel (FW.lift o S) w H ρ σ Q) : ∃ a, o = some a ∧ PoR K xv W rel (.ok a S) w H ρ σ Q := by
  cases o with
  | none => exact False.elim po
  | some a => exact ⟨a, rfl, po⟩
theorem PoR.mono {r : R α} {Q Q' : β → Hp → Prop} (po : PoR K xv W rel r w H ρ σ Q) (h : ∀ b H, Q b H → Q' b H) : PoR K xv W rel r w H ρ σ Q' := by
  cases r with
  | ok a S => exact fun b w2 H2 y s r => h _ _ (po b w2 H2 y s r)
  | exc k S => exact po
  | bad => exact po
end
def relE (K : PySem.W.Frag) (d : D) (w : Wd) (v : V) : Prop := Rep K w.f w.ι d v
def relL (K : PySem.W.Frag) (d : List D) (w : Wd) (v : List V) : Prop := Reps K w.f w.ι d v
def relB (k : Bool) (_ : Wd) (b : Bool) : Prop := k = b
def relI (k : Option Int) (_ : Wd) (b : Option Int) : Prop := k = b
/-- a reading by the evaluator -/
def rd {α β : Type} (K : PySem.W.Frag) (xv : Str → Value) (W : WXs) (rel : α → Wd → β → Prop) (ev : List Sl → Hs → R α) (σ : SV) (H : Hp) (Q : β → Hp → Prop) : Prop :=
  ∃ w ρ S, Stt K w ρ S σ H ∧ PoR K xv W rel (ev ρ S) w H ρ σ Q

structure Glo where
  p : Pr
  xv : Str → Value
def Bf.nm : Bf → Str
  | .len => "len" | .int => "int" | .str => "str" | .abs => "abs" | .min => "min" | .max => "max" | .sum => "sum" | .any => "any" | .all => "all"
  | .sorted => "sorted" | .list => "list" | .tuple => "tuple" | .ord => "ord" | .bool => "bool"
/-- the builtin names that no module of the text binds -/
def bltNames : List Str := ["len", "int", "str", "abs", "min", "max", "sum", "any", "all", "sorted", "list", "tuple", "ord", "bool", "isinstance", "range", "set", "dict"]

def OwnV (K : PySem.W.Frag) (w : Wd) (H0 H : Hp) (d : D) (v : V) : Prop := ∃ a, v = .ref a ∧ H0 a = none ∧ w.f a = none ∧ w.g a = none ∧ Cell K w (H a) d
def PoC (K : PySem.W.Frag) (xv : Str → Value) (r : R (Bool × D)) (w : Wd) (H : Hp) (Q : VK) (E : XK) : Prop := match r with
  | .ok (o, d) S' => ∀ v w' H', Ext w H w' H' → Stt K w' [] S' [] H' → (o = false → Rep K w'.f w'.ι d v) → (o = true → OwnV K w' H H' d v) → Q v H'
  | .exc k S' => ∀ w' H', Ext w H w' H' → Stt K w' [] S' [] H' → E (xv k) none H'
  | .bad => False
/-- a def's promise: what the evaluator gives -/
def spC (K : PySem.W.Frag) (xv : Str → Value) (cl : Cl) (np : Nat) (f : Str) : Sp := fun vs H Q E => ∃ ds S w, vs.length = np ∧ Reps K w.f w.ι ds vs ∧ Stt K w [] S [] H ∧ PoC K xv (cl f ds S) w H Q E

structure ExcT (K : PySem.W.Frag) (mg : Str → Option Value) (g : Glo) (k : Str) : Prop where
  ex : ∃ C : Addr, g.xv k = .ref C ∧ mg k = some (.ref C) ∧ PySem.W.excIn K C [.type "ValueError", .type "Exception", .type "BaseException", .type "object"] "ValueError.__new__" = true ∧ PySem.W.keepIn K (.ref C) = true ∧
    PySem.W.subIn K (.ref C) (.type "BaseException") = some true ∧ PySem.W.typeIn K (.ref C) = some (.type "type") ∧ ExcC K C
  su : ∀ j, j ∈ g.p.xc.xs → PySem.W.exmOne K (g.xv k) (g.xv j) = some (g.p.xc.sub k j) ∧ PySem.W.kitOne K (g.xv k) (g.xv j) = some (g.p.xc.sub k j)
structure FnT (P : Program) (w : World) (K : PySem.W.Frag) (mg : Str → Option Value) (base : Heap) (xv : Str → Value) (cl : Cl) (lvl : Nat) (f : Str) (np : Nat) : Prop where
  ex : ∃ (fa : Addr) (fd : FuncData) (ps : List Str), mg f = some (.ref fa) ∧ PySem.W.keepIn K (.ref fa) = true ∧ Binds K fd ps [] ∧ ps.length = np ∧ FnOk P w K mg base (L2.CX P w) lvl fa fd ps (spC K xv cl np f)
structure GlOk (P : Program) (w : World) (K : PySem.W.Frag) (mg : Str → Option Value) (base : Heap) (g : Glo) (cl : Cl) (lvl : Nat) : Prop where
  fns : ∀ f d, findF g.p.fs f = some d → FnT P w K mg base g.xv cl lvl f d.np
  blt : ∀ x, x ∈ bltNames → mg x = none
  glo : ∀ x d, g.p.gl.lookup x = some d → ∃ u v, mg x = some u ∧ RelV v u ∧ ∀ H ι, Rep K H ι d v
  exc : ∀ k, k ∈ g.p.xc.xs → ExcT K mg g k
/-- the written scope as it stands where the code runs -/
structure ScOk (X : Cx) (sc : Scope) : Prop where
  loc : ∀ x, sc.names.lookup x = some .local → X.env.scope.names.lookup x = some .local
  cel : ∀ x, sc.names.lookup x = some .cell → X.env.scope.names.lookup x = some .cell ∧ X.fn x = true
  fre : ∀ x, sc.names.lookup x = some .free → X.env.scope.names.lookup x = some .free ∨ X.env.scope.names.lookup x = some .cell
  gim : ∀ x, sc.names.lookup x = some .globalImplicit → X.env.scope.names.lookup x = some .globalImplicit
structure Ck where
  N : List Str
  sc : Scope
structure Cok (X : Cx) (g : Glo) (k : Ck) (cl : Cl) (lvl : Nat) (W : WXs) : Prop where
  gl : GlOk X.prog X.w X.K X.mg X.base g cl lvl
  calm : X.calm = true
  nd : X.N.Nodup
  N : X.N = k.N
  sc : ScOk X k.sc
  tk : Takes X W
  ps : PassesOwn (model X.prog X.w) X.A X.env X.xe
  rm : Room (lvl + 3) X.A
  fk : X.env.scope.kind = .function

/-! ## names -/
def Ck.kind (k : Ck) (x : Str) : Option NameKind := k.sc.names.lookup x
def Ck.vis (k : Ck) (x : Str) : Bool := match k.kind x with | some .local => true | some .cell => true | some .free => true | _ => false
def Ck.loc (k : Ck) (x : Str) : Bool := match k.kind x with | some .local => true | some .cell => true | _ => false
def Ck.isGl (k : Ck) (x : Str) : Bool := match k.kind x with | some .globalImplicit => true | _ => false
def okNm (x : Str) : Bool := !(x == ("__debug__" : Str)) && !(x == ("__classdict__" : Str)) && !(x == ("__name__" : Str))
section
variable {X : Cx} {g : Glo} {k : Ck} {cl : Cl} {lvl : Nat} {W : WXs}
theorem okNm_of {x : Str} (h : okNm x = true) : (x == ("__debug__" : Str)) = false ∧ (x == ("__classdict__" : Str)) = false ∧ x ≠ "__name__" := by
  simp only [okNm, Bool.and_eq_true, Bool.not_eq_true'] at h
  refine ⟨h.1.1, h.1.2, ?_⟩
  have h3 := h.2
  simpa using h3
theorem Cok.vis (c : Cok X g k cl lvl W) {x : Str} (h : k.vis x = true) : Vis X.env.scope x := by
  unfold Ck.vis at h
  split at h
  · rename_i e; exact .inl (c.sc.loc x e)
  · rename_i e; exact .inr (.inl (c.sc.cel x e).1)
  · rename_i e; exact (c.sc.fre x e).elim (fun z => .inr (.inr z)) (fun z => .inr (.inl z))
  · cases h
theorem Cok.loc (c : Cok X g k cl lvl W) {x : Str} (h : k.loc x = true) : Loc X.env.scope x ∧ (X.fn x = true ∨ X.env.scope.names.lookup x = some .local) := by
  unfold Ck.loc at h
  split at h
  · rename_i e; exact ⟨.inl (c.sc.loc x e), .inr (c.sc.loc x e)⟩
  · rename_i e; exact ⟨.inr (c.sc.cel x e).1, .inl (c.sc.cel x e).2⟩
  · cases h
theorem Cok.isGl (c : Cok X g k cl lvl W) {x : Str} (h : k.isGl x = true) : Gl X x := by
  unfold Ck.isGl at h
  split at h
  · rename_i e; exact c.sc.gim x e
  · cases h
theorem Cok.rm0 (c : Cok X g k cl lvl W) : Room lvl X.A := c.rm.mono (by omega)
theorem Cok.un' (c : Cok X g k cl lvl W) : X.A.units + 100 < cLine := by have := c.rm.un; omega
theorem Cok.un (c : Cok X g k cl lvl W) : X.A.units + 200 < cLine := by have := c.rm.un; omega
end
theorem pe_le {X : Cx} {e : Expr} {t t' : TE} (h : PE X e t) (m : ∀ σ H Q, t' σ H Q → t σ H Q) : PE X e t' := ⟨fun pins s σ H Q I q => h.run pins s σ H Q I (m σ H Q q)⟩
theorem pt_le {X : Cx} {e : Expr} {t t' : TT} (h : PT X e t) (m : ∀ σ H Q, t' σ H Q → t σ H Q) : PT X e t' := ⟨fun pins s σ H Q I q => h.run pins s σ H Q I (m σ H Q q)⟩
theorem pw_le {X : Cx} {e : Expr} {t t' : TT} (h : PW X e t) (m : ∀ σ H Q, t' σ H Q → t σ H Q) : PW X e t' := ⟨fun wh pins s σ H Q I q => h.run wh pins s σ H Q I (m σ H Q q)⟩
theorem pa_le {X : Cx} {e : List Expr} {t t' : TA} (h : PA X e t) (m : ∀ σ H Q, t' σ H Q → t σ H Q) : PA X e t' := ⟨fun pos pins s σ H Q I q => h.run pos pins s σ H Q I (m σ H Q q)⟩

/-! ## expressions, construct by construct -/
section
variable {X : Cx} {g : Glo} {k : Ck} {cl : Cl} {lvl : Nat} {W : WXs} {a b d : Expr} {pos : Pos} {ea eb ed : List Sl → Hs → R D}
abbrev PEr (X : Cx) (g : Glo) (W : WXs) (e : Expr) (ev : List Sl → Hs → R D) : Prop := PE X e (rd X.K g.xv W (relE X.K) ev)
abbrev PTr (X : Cx) (g : Glo) (W : WXs) (e : Expr) (ev : List Sl → Hs → R Bool) : Prop := PT X e (rd X.K g.xv W relB ev)
abbrev PAr (X : Cx) (g : Glo) (W : WXs) (e : List Expr) (ev : List Sl → Hs → R (List D)) : Prop := PA X e (rd X.K g.xv W (relL X.K) ev)
theorem s_var {i : Nat} {x : Str} (c : Cok X g k cl lvl W) (hi : k.N[i]? = some x) (hv : k.vis x = true) (hn : okNm x = true) : PEr X g W (.Name x pos) fun ρ S => lift (rdSl ρ i) S := by
  have ⟨n1, n2, n3⟩ := okNm_of hn
  refine pe_le (pe_var (X := X) (i := i) (by rw [c.N]; exact hi) (c.vis hv) n1 n2) ?_
  rintro σ H Q ⟨w, ρ, S, st, po⟩
  obtain ⟨d, e, po⟩ := po.lift
  have h : ρ[i]? = some (Sl.fz d) := by
    unfold rdSl at e
    split at e
    · rename_i e'; cases e; exact e'
    · cases e
  obtain ⟨v, hv, r⟩ := st.sl i d h
  exact ⟨v, hv, po.ok st r⟩
theorem s_const {d : D} {v : V} (he : PE X a (tC v)) (r : ∀ H ι, Rep X.K H ι d v) : PEr X g W a fun _ S => .ok d S := by
  refine pe_le he ?_
  rintro σ H Q ⟨w, ρ, S, st, po⟩
  exact PoR.ok po st (r _ _)
theorem s_glo {x : Str} (c : Cok X g k cl lvl W) (hv : k.isGl x = true) (hn : okNm x = true) (hs : (g.p.gl.lookup x).isSome = true) : PEr X g W (.Name x pos) fun _ S => lift (g.p.gl.lookup x) S := by
  obtain ⟨d, e⟩ := Option.isSome_iff_exists.mp hs
  obtain ⟨u, v, h1, h2, h3⟩ := c.gl.glo x d e
  refine pe_le (pe_glob (X := X) (c.isGl hv) h1 h2 (okNm_of hn).1) ?_
  rintro σ H Q ⟨w, ρ, S, st, po⟩
  obtain ⟨d', e', po⟩ := po.lift
  rw [e] at e'; cases e'
  exact PoR.ok po st (h3 _ _)
/-- a one-place operation by values -/
theorem s_un {op : UnaryOp} {r : V → Hp → VK → Prop} {f : D → Hs → R D} (ho : UnR X (unaryOp op) r) (ha : PEr X g W a ea)
    (h : ∀ x S v w H ρ σ Q, Stt X.K w ρ S σ H → Rep X.K w.f w.ι x v → PoR X.K g.xv W (relE X.K) (f x S) w H ρ σ Q → r v H Q) : PEr X g W (.UnaryOp op a pos) fun ρ S => (ea ρ S).bind f := by
  refine pe_le (pe_un ho ha) ?_
  rintro σ H Q ⟨w, ρ, S, st, po⟩
  refine ⟨w, ρ, S, st, PoR.seq po fun x S' v w' H' _ _ st' r po' => h x S' v w' H' ρ σ Q st' r po'⟩
theorem s_neg (ha : PEr X g W a ea) : PEr X g W (.UnaryOp .USub a pos) fun ρ S => (ea ρ S).bind fun d S => match d with | .int i => .ok (.int (-i)) S | _ => .bad := by
  refine s_un un_neg ha fun x S v w H ρ σ Q st r po => ?_
  cases r with
  | int i => exact ⟨i, rfl, po.ok st (.int _)⟩
  | _ => exact False.elim po
/-- a two-place operation by values -/
theorem s_op {op : Operator} {r : R2} {f : D → D → Hs → R D} (ho : OpR X (binaryOp op) r) (ha : PEr X g W a ea) (hb : PEr X g W b eb)
    (h : ∀ x y S v u w H ρ σ Q, Stt X.K w ρ S σ H → Rep X.K w.f w.ι x v → Rep X.K w.f w.ι y u → PoR X.K g.xv W (relE X.K) (f x y S) w H ρ σ Q → r v u H Q) :
    PEr X g W (.BinOp a op b pos) fun ρ S => (ea ρ S).bind fun x S => (eb ρ S).bind fun y S => f x y S := by
  refine pe_le (pe_op ho ha hb) ?_
  rintro σ H Q ⟨w, ρ, S, st, po⟩
  refine ⟨w, ρ, S, st, PoR.seq po fun x S' v w' H' _ _ st' r po' => ⟨w', ρ, S', st', PoR.seq po' fun y S2 u w2 H2 _ x2 st2 r2 po2 => ?_⟩⟩
  exact h x y S2 v u w2 H2 ρ σ Q st2 (x2.rep r) r2 po2
theorem s_cmpR {op : CmpOp} {r : R2} {f : D → D → Hs → R D} (ho : OpR X (compareOp op) r) (ha : PEr X g W a ea) (hb : PEr X g W b eb) (hm : behindInMarks op b = false)
    (h : ∀ x y S v u w H ρ σ Q, Stt X.K w ρ S σ H → Rep X.K w.f w.ι x v → Rep X.K w.f w.ι y u → PoR X.K g.xv W (relE X.K) (f x y S) w H ρ σ Q → r v u H Q) :
    PEr X g W (.Compare a [op] [b] pos) fun ρ S => (ea ρ S).bind fun x S => (eb ρ S).bind fun y S => f x y S := by
  refine pe_le (pe_cmpR ho ha hb hm) ?_
  rintro σ H Q ⟨w, ρ, S, st, po⟩
  refine ⟨w, ρ, S, st, PoR.seq po fun x S' v w' H' _ _ st' r po' => ⟨w', ρ, S', st', PoR.seq po' fun y S2 u w2 H2 _ x2 st2 r2 po2 => ?_⟩⟩
  exact h x y S2 v u w2 H2 ρ σ Q st2 (x2.rep r) r2 po2
end
end FW

namespace FW
open PySem PySem.W PySem.Spec L2

section
variable {X : Cx} {g : Glo} {k : Ck} {cl : Cl} {lvl : Nat} {W : WXs} {pins : List (Addr × Obj)} {σ : SV} {H : Hp} {s : Shared} {ι : List Addr}
theorem Rep.reads {H' : Hp} (I : Inv X pins σ H s) {d : D} {v : V} {u : Value} (r : Rep X.K H' ι d v) (e : Same H' H) (hp : d.plain = true) (hv : RelV v u) : ∃ as, Reads s.heap u d as :=
  Dp.reads I d v u (Dp.mono e (r.dp hp)) hv
theorem pln_of {d : D} (h : pln d = true) : d.plain = true ∧ d.depth ≤ 64 := by
  simp only [pln, Bool.and_eq_true, decide_eq_true_eq] at h; exact h
abbrev rCp (K : PySem.W.Frag) (o : Cp) : R2 := fun x y H Q => ∃ (H' : Hp) (ι : List Addr) (a b : D) (k : Bool), Same H' H ∧ Rep K H' ι a x ∧ Rep K H' ι b y ∧ cmpD o a b = some k ∧ Q (.bl k) H
def Cp.op : Cp → CmpOp
  | .eq => .Eq | .ne => .NotEq | .lt => .Lt | .le => .LtE | .gt => .Gt | .ge => .GtE | .isin => .In | .notin => .NotIn
theorem ltOk_of {a b : D} (h : ltOk a b = true) : alike a b = true ∧ pln a = true ∧ pln b = true ∧ a ≠ .none := by
  simp only [ltOk, Bool.and_eq_true] at h
  refine ⟨h.1.1.1, h.1.1.2, h.1.2, fun e => ?_⟩
  subst e
  exact absurd h.2 (by decide)
theorem depth_list (xs : List D) : (PyData.list xs).depth = PyData.depthAll xs + 1 := by first | rfl | simp [PyData.depth]
theorem depth_tuple (xs : List D) : (PyData.tuple xs).depth = PyData.depthAll xs + 1 := by first | rfl | simp [PyData.depth]
theorem op_cmp (o : Cp) (hu : X.A.units + 200 < cLine) : OpR X (compareOp o.op) (rCp X.K o) := by
  intro pins s σ H x y v u Q I rx ry h
  obtain ⟨H', ι, a, b, k, e, ra, rb, ht, q⟩ := h
  have fin : EP X pins σ Q (.bool k) s := ⟨.bl k, H, I, rfl, q⟩
  cases o with
  | eq =>
    simp only [cmpD] at ht
    split at ht
    · rename_i hp
      simp only [Bool.and_eq_true] at hp
      obtain ⟨p1, d1⟩ := pln_of hp.1
      obtain ⟨p2, d2⟩ := pln_of hp.2
      cases ht
      obtain ⟨as, r1⟩ := ra.reads I e p1 rx
      obtain ⟨bs, r2⟩ := rb.reads I e p2 ry
      exact PySem.SeqAt.eq_plain r1 r2 p1 p2 (by omega) fin
    · cases ht
  | ne =>
    simp only [cmpD] at ht
    split at ht
    · rename_i hp
      simp only [Bool.and_eq_true] at hp
      obtain ⟨p1, d1⟩ := pln_of hp.1
      obtain ⟨p2, d2⟩ := pln_of hp.2
      cases ht
      obtain ⟨as, r1⟩ := ra.reads I e p1 rx
      obtain ⟨bs, r2⟩ := rb.reads I e p2 ry
      exact PySem.SeqAt.ne_plain r1 r2 p1 p2 (by omega) fin
    · cases ht
  | lt =>
    simp only [cmpD] at ht
    split at ht
    · rename_i hp
      obtain ⟨h1, h2, h3, h4⟩ := ltOk_of hp
      obtain ⟨p1, d1⟩ := pln_of h2
      obtain ⟨p2, d2⟩ := pln_of h3
      cases ht
      obtain ⟨as, r1⟩ := ra.reads I e p1 rx
      obtain ⟨bs, r2⟩ := rb.reads I e p2 ry
      exact lt_data r1 r2 h1 h4 (by omega) fin
    · cases ht
  | gt =>
    simp only [cmpD] at ht
    split at ht
    · rename_i hp
      obtain ⟨h1, h2, h3, h4⟩ := ltOk_of hp
      obtain ⟨p1, d1⟩ := pln_of h2
      obtain ⟨p2, d2⟩ := pln_of h3
      cases ht
      obtain ⟨as, r1⟩ := ra.reads I e p1 rx
      obtain ⟨bs, r2⟩ := rb.reads I e p2 ry
      exact gt_data r1 r2 h1 h4 (by omega) fin
    · cases ht
  | le =>
    simp only [cmpD] at ht
    split at ht
    · rename_i hp
      obtain ⟨h1, h2, h3, h4⟩ := ltOk_of hp
      obtain ⟨p1, d1⟩ := pln_of h2
      obtain ⟨p2, d2⟩ := pln_of h3
      cases ht
      obtain ⟨as, r1⟩ := ra.reads I e p1 rx
      obtain ⟨bs, r2⟩ := rb.reads I e p2 ry
      exact le_data r1 r2 h1 h4 (by omega) fin
    · cases ht
  | ge =>
    simp only [cmpD] at ht
    split at ht
    · rename_i hp
      obtain ⟨h1, h2, h3, h4⟩ := ltOk_of hp
      obtain ⟨p1, d1⟩ := pln_of h2
      obtain ⟨p2, d2⟩ := pln_of h3
      cases ht
      obtain ⟨as, r1⟩ := ra.reads I e p1 rx
      obtain ⟨bs, r2⟩ := rb.reads I e p2 ry
      exact ge_data r1 r2 h1 h4 (by omega) fin
    · cases ht
  | isin =>
    have inl : ∀ ys : List D, b = .list ys → pln a = true → pln b = true → k = (ys.any fun z => PyData.eqv z a) → wpAny (model X.prog X.w) X.A (compareOp .In v u) (EP X pins σ Q) X.xe s := fun ys e1 h1 h2 hk => by
      subst e1
      obtain ⟨p1, d1⟩ := pln_of h1
      obtain ⟨p2, d2⟩ := pln_of h2
      obtain ⟨as, r1⟩ := ra.reads I e p1 rx
      obtain ⟨bs, r2⟩ := rb.reads I e p2 ry
      exact PySem.SeqAt.in_list_data r2 r1 (by simpa [PyData.plain] using p2) p1 (by omega) (hk ▸ fin)
    have inT : ∀ ys : List D, b = .tuple ys → pln a = true → pln b = true → k = (ys.any fun z => PyData.eqv z a) → wpAny (model X.prog X.w) X.A (compareOp .In v u) (EP X pins σ Q) X.xe s := fun ys e1 h1 h2 hk => by
      subst e1
      obtain ⟨p1, d1⟩ := pln_of h1
      obtain ⟨p2, d2⟩ := pln_of h2
      obtain ⟨as, r1⟩ := ra.reads I e p1 rx
      obtain ⟨bs, r2⟩ := rb.reads I e p2 ry
      exact PySem.SeqAt.in_tuple_data r2 r1 (by simpa [PyData.plain] using p2) p1 (by omega) (hk ▸ fin)
    cases b with
    | list ys =>
      have ht : (if (pln a && pln (.list ys)) = true then some (ys.any fun z => PyData.eqv z a) else none) = some k := by cases a <;> exact ht
      split at ht
      · rename_i hp
        simp only [Bool.and_eq_true] at hp
        cases ht
        exact inl ys rfl hp.1 hp.2 rfl
      · cases ht
    | tuple ys =>
      have ht : (if (pln a && pln (.tuple ys)) = true then some (ys.any fun z => PyData.eqv z a) else none) = some k := by cases a <;> exact ht
      split at ht
      · rename_i hp
        simp only [Bool.and_eq_true] at hp
        cases ht
        exact inT ys rfl hp.1 hp.2 rfl
      · cases ht
    | str z =>
      cases a with
      | str y =>
        simp only [cmpD, Option.some.injEq] at ht
        cases ra
        cases rb
        exact op_in_str pins s σ H _ _ v u Q I rx ry ⟨y, z, rfl, rfl, by rw [ht]; exact q⟩
      | _ => simp [cmpD] at ht
    | _ => cases a <;> simp [cmpD] at ht
  | notin =>
    have inl : ∀ ys : List D, b = .list ys → pln a = true → pln b = true → k = (!ys.any fun z => PyData.eqv z a) → wpAny (model X.prog X.w) X.A (compareOp .NotIn v u) (EP X pins σ Q) X.xe s := fun ys e1 h1 h2 hk => by
      subst e1
      obtain ⟨p1, d1⟩ := pln_of h1
      obtain ⟨p2, d2⟩ := pln_of h2
      obtain ⟨as, r1⟩ := ra.reads I e p1 rx
      obtain ⟨bs, r2⟩ := rb.reads I e p2 ry
      exact PySem.SeqAt.notIn_list_data r2 r1 (by simpa [PyData.plain] using p2) p1 (by omega) (hk ▸ fin)
    have inT : ∀ ys : List D, b = .tuple ys → pln a = true → pln b = true → k = (!ys.any fun z => PyData.eqv z a) → wpAny (model X.prog X.w) X.A (compareOp .NotIn v u) (EP X pins σ Q) X.xe s := fun ys e1 h1 h2 hk => by
      subst e1
      obtain ⟨p1, d1⟩ := pln_of h1
      obtain ⟨p2, d2⟩ := pln_of h2
      obtain ⟨as, r1⟩ := ra.reads I e p1 rx
      obtain ⟨bs, r2⟩ := rb.reads I e p2 ry
      exact PySem.SeqAt.notIn_tuple_data r2 r1 (by simpa [PyData.plain] using p2) p1 (by omega) (hk ▸ fin)
    cases b with
    | list ys =>
      have ht : (if (pln a && pln (.list ys)) = true then some (!ys.any fun z => PyData.eqv z a) else none) = some k := by cases a <;> exact ht
      split at ht
      · rename_i hp
        simp only [Bool.and_eq_true] at hp
        cases ht
        exact inl ys rfl hp.1 hp.2 rfl
      · cases ht
    | tuple ys =>
      have ht : (if (pln a && pln (.tuple ys)) = true then some (!ys.any fun z => PyData.eqv z a) else none) = some k := by cases a <;> exact ht
      split at ht
      · rename_i hp
        simp only [Bool.and_eq_true] at hp
        cases ht
        exact inT ys rfl hp.1 hp.2 rfl
      · cases ht
    | str z =>
      cases a with
      | str y =>
        simp only [cmpD, Option.some.injEq] at ht
        cases ra
        cases rb
        exact L2.op_notin_str pins s σ H _ _ v u Q I rx ry ⟨y, z, rfl, rfl, by rw [ht]; exact q⟩
      | _ => simp [cmpD] at ht
    | _ => cases a <;> simp [cmpD] at ht

/-! ## new lists and tuples -/
theorem PoR.newL {xv : Str → Value} {w : Wd} {ρ : List Sl} {S : Hs} {ds : List D} {vs : List V} {K : PySem.W.Frag} {Q : VK} (po : PoR K xv W (relE K) (.ok (.list ds) S) w H ρ σ Q) (st : Stt K w ρ S σ H) (r : Reps K w.f w.ι ds vs) {p : Addr} (hp : H p = none) : Q (.ref p) (upd H p (.lst vs)) :=
  po (.ref p) (w.add p (.lst vs)) _ (Ext.add st hp) (st.add hp) (.lst (SqL.of add_at) (Reps.mono (same_upd (st.free_f hp).1) (fun _ _ h => h) r))
theorem PoR.newT {xv : Str → Value} {w : Wd} {ρ : List Sl} {S : Hs} {ds : List D} {vs : List V} {K : PySem.W.Frag} {Q : VK} (po : PoR K xv W (relE K) (.ok (.tuple ds) S) w H ρ σ Q) (st : Stt K w ρ S σ H) (r : Reps K w.f w.ι ds vs) {p : Addr} (hp : H p = none) : Q (.ref p) (upd H p (.tup vs)) :=
  po (.ref p) (w.add p (.tup vs)) _ (Ext.add st hp) (st.add hp) (.tup (SqT.of add_at) (Reps.mono (same_upd (st.free_f hp).1) (fun _ _ h => h) r))

/-! ## arithmetic and gluing -/
theorem op_catG : OpR X (binaryOp .Add) (fun x y H Q => ∃ l b xs zs, x = .ref l ∧ y = .ref b ∧ SqL X.K H l xs ∧ SqL X.K H b zs ∧ xs.length + zs.length ≤ sizeLine ∧ ∀ p, H p = none → Q (.ref p) (upd H p (.lst (xs ++ zs)))) := by
  intro pins s σ H x y v u Q I rx ry h
  obtain ⟨l, b, xs, zs, rfl, rfl, hH, hB, hz, q⟩ := h
  cases rx
  cases ry
  obtain ⟨its, r1, p1, z1⟩ := I.list hH
  obtain ⟨its2, r2, p2, z2⟩ := I.list hB
  have l1 := r1.length
  have l2 := r2.length
  obtain ⟨⟨cls, dd, data, sl⟩, ho, hc, n, hd⟩ := p1.isList
  obtain ⟨⟨cls2, dd2, data2, sl2⟩, ho2, hc2, n2, hd2⟩ := p2.isList
  simp only at hc hd hc2 hd2
  subst hc hd hc2 hd2
  refine concat_meets ⟨_, ho, rfl⟩ ⟨_, ho2, rfl⟩ noFill_list_add seq_list_add PySem.F.slot_list_add PySem.F.entry_list_add (PySem.F.args_list_add_2 _ _) (PyProof.Rows.list_addW l b its.toArray its2.toArray n n2 dd dd2 sl sl2 (by simp only [List.size_toArray]; omega)) ⟨ho, ho2, ?_⟩
  have ea : its.toArray ++ its2.toArray = (its ++ its2).toArray := by simp
  rw [ea]
  exact ⟨.ref _, _, I.lnew (t' := s.toks) (r1.append r2) (by rw [List.length_append]; omega), rfl, q _ I.fresh⟩
theorem op_repG : OpR X (binaryOp .Mult) (fun x y H Q => ∃ l k xs, x = .ref l ∧ y = .int k ∧ SqL X.K H l xs ∧ -(2 ^ 63) ≤ k ∧ k < 2 ^ 63 ∧ xs.length * k.toNat ≤ sizeLine ∧
    ∀ p, H p = none → Q (.ref p) (upd H p (.lst (List.replicate k.toNat xs).flatten))) := by
  intro pins s σ H x y v u Q I rx ry h
  obtain ⟨l, k, xs, rfl, rfl, hH, h1, h2, hz, q⟩ := h
  cases rx
  obtain ⟨t, rfl⟩ := ry
  obtain ⟨its, r, p1, z1⟩ := I.list hH
  have hl := r.length
  obtain ⟨⟨cls, d, data, sl⟩, ho, hc, n, hd⟩ := p1.isList
  simp only at hc hd
  subst hc hd
  have hs : sizeLine = 16777216 := sizeLine_eq
  have hsz' : its.toArray.size * k.toNat ≤ 2 ^ 24 := by rw [List.size_toArray, ← hl]; omega
  have hnew : List.foldl (fun x1 x2 => x1 ++ x2) #[] (List.replicate (if its.toArray.isEmpty = true then 0 else k.toNat) its.toArray) = (List.replicate k.toNat its).flatten.toArray := by
    have f0 : ∀ m : Nat, List.foldl (fun x1 x2 => x1 ++ x2) #[] (List.replicate m its.toArray) = (List.replicate m its).flatten.toArray := fun m => by
      have := foldl_rep its m []
      rw [List.nil_append] at this
      exact this
    rw [f0]
    cases its with
    | nil => simp
    | cons a r' => rw [if_neg (by simp)]
  refine wpAny_binaryOp_repeat_ref (T := "list") (U := "int") (by decide) ⟨_, ho, rfl⟩ (fun s' => typeIs_int s' k t) noFill_list_mul F.fills_int_mul F.slot_int_rmul repeat_list F.slot_int_index.lookup
    (call_meets F.slot_int_rmul (typeIs_int s k t) F.entry_int_rmul (F.args_int_rmul_2 _ _) (lm_int_rmul_list_any k t l its.toArray n d sl)
      ⟨ho, rfl, ⟨_, ho, rfl⟩, call_meets F.slot_list_mul ⟨_, ho, rfl⟩ F.entry_list_mul (F.args_list_mul_2 _ _)
        (lm_list_mul_any l its.toArray n d sl k t (by simp [Builtin.List.listFitsIndex]; omega) (by omega) (by simp [Builtin.List.listTooLong, sizeLine]; omega))
        ⟨ho, ?_⟩⟩)
  rw [hnew]
  exact ⟨.ref _, _, I.lnew (t' := s.toks) (r.rep k.toNat) (by rw [PyProof.Rows.lm_len_rep_flat, Nat.mul_comm]; exact hz), rfl, q _ I.fresh⟩
def Op2.op : Op2 → Operator
  | .add => .Add | .sub => .Sub | .mul => .Mult | .fdiv => .FloorDiv | .mod => .Mod | .pow => .Pow
theorem bmul_of {a b : Int} (h : bmul a b = true) : CMul a b := by
  simp only [bmul, Bool.or_eq_true, decide_eq_true_eq] at h
  rcases h with h | h
  · exact .inl ⟨by omega, by omega⟩
  · exact .inr ⟨by omega, by omega⟩
end
section
variable {X : Cx} {g : Glo} {k : Ck} {cl : Cl} {lvl : Nat} {W : WXs} {a b d : Expr} {pos : Pos} {ea eb ed : List Sl → Hs → R D}
theorem sz_eq : sizeLine = 16777216 := sizeLine_eq
theorem s_bin (op : Op2) (ha : PEr X g W a ea) (hb : PEr X g W b eb) : PEr X g W (.BinOp a op.op b pos) fun ρ S => (ea ρ S).bind fun x S => (eb ρ S).bind fun y S => lift (binD op x y) S := by
  have hs : sizeLine = 16777216 := sizeLine_eq
  cases op with
  | add =>
    refine s_op (OpR.or op_add (OpR.or op_add_str (OpR.or op_catG op_catA))) ha hb fun x y S v u w H ρ σ Q st rx ry po => ?_
    obtain ⟨d, e, po⟩ := po.lift
    cases rx with
    | int i =>
      cases ry with
      | int j => cases e; exact .inl ⟨i, j, rfl, rfl, po.ok st (.int _)⟩
      | _ => simp [binD, insD] at e
    | str i =>
      cases ry with
      | str j =>
        simp only [binD] at e
        split at e
        · rename_i hz; cases e; exact .inr (.inl ⟨i, j, rfl, rfl, by omega, po.ok st (.str _)⟩)
        · cases e
      | _ => simp [binD, insD] at e
    | lst s1 r1 =>
      cases ry with
      | lst s2 r2 =>
        simp only [binD] at e
        split at e
        · rename_i hz
          cases e
          refine .inr (.inr (.inl ⟨_, _, _, _, rfl, rfl, st.sf.seq s1, st.sf.seq s2, by rw [← r1.length, ← r2.length]; omega, fun p hp => po.newL st (r1.append r2) hp⟩))
        · cases e
      | _ => simp [binD, insD] at e
    | tup s1 r1 =>
      cases ry with
      | tup s2 r2 =>
        simp only [binD] at e
        split at e
        · rename_i hz
          cases e
          refine .inr (.inr (.inr ⟨_, _, _, _, rfl, rfl, Same.seqT st.sf s1, Same.seqT st.sf s2, by rw [← r1.length, ← r2.length]; omega, fun z => ?_, fun _ z => ?_, fun _ _ p hp => po.newT st (r1.append r2) hp⟩))
          · subst z
            cases r1
            rw [List.nil_append] at po
            exact po.ok st (.tup s2 r2)
          · subst z
            cases r2
            rw [List.append_nil] at po
            exact po.ok st (.tup s1 r1)
        · cases e
      | _ => simp [binD, insD] at e
    | _ => simp [binD, insD] at e
  | sub =>
    refine s_op op_sub ha hb fun x y S v u w H ρ σ Q st rx ry po => ?_
    obtain ⟨d, e, po⟩ := po.lift
    cases rx with
    | int i =>
      cases ry with
      | int j => cases e; exact ⟨i, j, rfl, rfl, po.ok st (.int _)⟩
      | _ => simp [binD, insD] at e
    | _ => simp [binD, insD] at e
  | mul =>
    refine s_op (OpR.or op_mul op_repG) ha hb fun x y S v u w H ρ σ Q st rx ry po => ?_
    obtain ⟨d, e, po⟩ := po.lift
    cases rx with
    | int i =>
      cases ry with
      | int j =>
        simp only [binD] at e
        split at e
        · rename_i hz; cases e; exact .inl ⟨i, j, rfl, rfl, bmul_of hz, po.ok st (.int _)⟩
        · cases e
      | _ => simp [binD, insD] at e
    | lst s1 r1 =>
      cases ry with
      | int j =>
        simp only [binD] at e
        split at e
        · rename_i hz
          cases e
          exact .inr ⟨_, j, _, rfl, rfl, st.sf.seq s1, by omega, by omega, by rw [← r1.length, hs]; exact hz.2.2, fun p hp => po.newL st (r1.rep _) hp⟩
        · cases e
      | _ => simp [binD, insD] at e
    | _ => simp [binD, insD] at e
  | fdiv =>
    refine s_op op_fdiv ha hb fun x y S v u w H ρ σ Q st rx ry po => ?_
    obtain ⟨d, e, po⟩ := po.lift
    cases rx with
    | int i =>
      cases ry with
      | int j =>
        simp only [binD] at e
        split at e
        · rename_i hz; cases e; exact ⟨i, j, rfl, rfl, hz, po.ok st (.int _)⟩
        · cases e
      | _ => simp [binD, insD] at e
    | _ => simp [binD, insD] at e
  | mod =>
    refine s_op op_mod ha hb fun x y S v u w H ρ σ Q st rx ry po => ?_
    obtain ⟨d, e, po⟩ := po.lift
    cases rx with
    | int i =>
      cases ry with
      | int j =>
        simp only [binD] at e
        split at e
        · rename_i hz; cases e; exact ⟨i, j, rfl, rfl, hz, po.ok st (.int _)⟩
        · cases e
      | _ => simp [binD, insD] at e
    | _ => simp [binD, insD] at e
  | pow =>
    refine s_op op_pow ha hb fun x y S v u w H ρ σ Q st rx ry po => ?_
    obtain ⟨d, e, po⟩ := po.lift
    cases rx with
    | int i =>
      cases ry with
      | int j =>
        simp only [binD] at e
        split at e
        · rename_i hz; cases e; exact ⟨i, j, rfl, rfl, ⟨hz.1, hz.2.1, by have := hz.2.2; omega⟩, po.ok st (.int _)⟩
        · cases e
      | _ => simp [binD, insD] at e
    | _ => simp [binD, insD] at e
theorem s_cmp (op : Cp) (c : Cok X g k cl lvl W) (ha : PEr X g W a ea) (hb : PEr X g W b eb) (hm : behindInMarks op.op b = false) : PEr X g W (.Compare a [op.op] [b] pos) fun ρ S => (ea ρ S).bind fun x S => (eb ρ S).bind fun y S => lift ((cmpD op x y).map .bool) S := by
  refine s_cmpR (op_cmp op c.un) ha hb hm fun x y S v u w H ρ σ Q st rx ry po => ?_
  obtain ⟨d, e, po⟩ := po.lift
  simp only [Option.map_eq_some_iff] at e
  obtain ⟨k, e1, e2⟩ := e
  subst e2
  exact ⟨w.f, w.ι, x, y, k, st.sf, rx, ry, e1, po.ok st (.bl k)⟩
end
end FW

namespace FW
open PySem PySem.W PySem.Spec L2

section
variable {X : Cx} {g : Glo} {k : Ck} {cl : Cl} {lvl : Nat} {W : WXs} {a b d : Expr} {pos : Pos} {ea eb ed : List Sl → Hs → R D} {es : List Expr} {ets : List Sl → Hs → R (List D)} {et eu : List Sl → Hs → R Bool}
theorem PoR.okE {K : PySem.W.Frag} {xv : Str → Value} {dd : D} {v : V} {w : Wd} {H : Hp} {ρ : List Sl} {σ : SV} {S : Hs} {Q : VK} (po : PoR K xv W (relE K) (.ok dd S) w H ρ σ Q) (st : Stt K w ρ S σ H) (r : Rep K w.f w.ι dd v) : Q v H := po v w H Ext.refl st r
theorem op_isN' : OpR X (compareOp .Is) (fun x y H Q => y = .non ∧ Q (.bl (decide (x = .non))) H) := op_isN
theorem Rep.isNon {K : PySem.W.Frag} {H : Hp} {ι : List Addr} {d : D} {v : V} (r : Rep K H ι d v) : decide (v = .non) = decide (d = .none) := by
  cases r <;> first | rfl | (simp [insD])
theorem s_isN {j : Nat} {p2 : Pos} (ha : PEr X g W a ea) : PEr X g W (.Compare a [.Is] [.Constant .none j p2] pos) fun ρ S => (ea ρ S).bind fun x S => .ok (.bool (decide (x = .none))) S := by
  refine pe_le (pe_cmpR op_isN ha pe_non rfl) ?_
  rintro σ H Q ⟨w, ρ, S, st, po⟩
  refine ⟨w, ρ, S, st, PoR.seq po fun x S' v w' H' _ _ st' r po' => ⟨rfl, ?_⟩⟩
  rw [r.isNon]
  exact po'.ok st' (.bl _)
theorem s_notN {j : Nat} {p2 : Pos} (ha : PEr X g W a ea) : PEr X g W (.Compare a [.IsNot] [.Constant .none j p2] pos) fun ρ S => (ea ρ S).bind fun x S => .ok (.bool (!decide (x = .none))) S := by
  refine pe_le (pe_cmpR op_notN ha pe_non rfl) ?_
  rintro σ H Q ⟨w, ρ, S, st, po⟩
  refine ⟨w, ρ, S, st, PoR.seq po fun x S' v w' H' _ _ st' r po' => ⟨rfl, ?_⟩⟩
  rw [r.isNon]
  exact po'.ok st' (.bl _)
theorem s_chain (o1 o2 : Cp) (c : Cok X g k cl lvl W) (ha : PEr X g W a ea) (hb : PEr X g W b eb) (hd : PEr X g W d ed) (hm : lastMarks [o1.op, o2.op] [b, d] = false) :
    PEr X g W (.Compare a [o1.op, o2.op] [b, d] pos) fun ρ S => (ea ρ S).bind fun x S => (eb ρ S).bind fun y S => (lift (cmpD o1 x y) S).bind fun k S =>
      if k = true then (ed ρ S).bind fun z S => lift ((cmpD o2 y z).map .bool) S else .ok (.bool false) S := by
  refine pe_le (pe_chain (op_cmp o1 c.un) (op_cmp o2 c.un) ha hb hd hm) ?_
  rintro σ H Q ⟨w, ρ, S, st, po⟩
  refine ⟨w, ρ, S, st, PoR.seq po fun x S' v w' H' _ _ st' r po' => ⟨w', ρ, S', st', PoR.seq po' fun y S2 u w2 H2 _ x2 st2 r2 po2 => ?_⟩⟩
  cases e1 : cmpD o1 x y with
  | none => rw [e1] at po2; exact False.elim po2
  | some kk =>
    rw [e1] at po2
    refine ⟨w2.f, w2.ι, x, y, kk, st2.sf, x2.rep r, r2, e1, kk, rfl, ?_⟩
    cases kk with
    | false =>
      rw [if_neg Bool.false_ne_true]
      exact PoR.ok (show PoR X.K g.xv W (relE X.K) (.ok (.bool false) S2) w2 H2 ρ σ Q from po2) st2 (.bl _)
    | true =>
      rw [if_pos rfl]
      refine ⟨w2, ρ, S2, st2, PoR.seq (show PoR X.K g.xv W (relE X.K) ((ed ρ S2).bind fun z S => lift ((cmpD o2 y z).map .bool) S) w2 H2 ρ σ Q from po2) fun z S3 v3 w3 H3 _ x3 st3 r3 po3 => ?_⟩
      obtain ⟨dd, e, po3⟩ := po3.lift
      simp only [Option.map_eq_some_iff] at e
      obtain ⟨k2, e2, e3⟩ := e
      subst e3
      exact ⟨w3.f, w3.ι, y, z, k2, st3.sf, x3.rep r2, r3, e2, po3.ok st3 (.bl k2)⟩
/-- a datum's truth -/
theorem trD_of {K : PySem.W.Frag} {H H' : Hp} {ι : List Addr} {d : D} {v : V} {k : Bool} (r : Rep K H ι d v) (e : Same H H') (h : trD d = some k) : TruV K v H' k := by
  cases r with
  | non => simp only [trD, Option.some.injEq] at h; exact h.symm
  | bl b => simp only [trD, Option.some.injEq] at h; exact h.symm
  | int i => simp only [trD, Option.some.injEq] at h; exact h.symm
  | str x =>
    simp only [trD] at h
    split at h
    · rename_i hz; cases h; exact ⟨by rw [sz_eq]; exact hz, rfl⟩
    · cases h
  | lst s q =>
    simp only [trD, Option.some.injEq] at h
    refine .inl ⟨_, e.seq s, ?_⟩
    rw [← h]; cases q <;> rfl
  | tup s q =>
    simp only [trD, Option.some.injEq] at h
    refine .inr (.inl ⟨_, Same.seqT e s, ?_⟩)
    rw [← h]; cases q <;> rfl
  | dic => simp [trD] at h
  | ins => simp [trD, insD] at h
theorem s_not (ha : PEr X g W a ea) : PEr X g W (.UnaryOp .Not a pos) fun ρ S => (ea ρ S).bind fun d S => (lift (trD d) S).bind fun k S => .ok (.bool (!k)) S := by
  refine pe_le (pe_notT ha) ?_
  rintro σ H Q ⟨w, ρ, S, st, po⟩
  refine ⟨w, ρ, S, st, PoR.seq po fun x S' v w' H' _ _ st' r po' => ?_⟩
  cases e1 : trD x with
  | none => rw [e1] at po'; exact False.elim po'
  | some kk =>
    rw [e1] at po'
    exact ⟨kk, trD_of r st'.sf e1, PoR.ok (show PoR X.K g.xv W (relE X.K) (.ok (.bool (!kk)) S') w' H' ρ σ Q from po') st' (.bl _)⟩
theorem s_and {rest : List Expr} (ha : PEr X g W a ea) (hb : PEr X g W (.BoolOp .And (b :: rest) pos) eb) : PEr X g W (.BoolOp .And (a :: b :: rest) pos) fun ρ S => (ea ρ S).bind fun d S => (lift (trD d) S).bind fun k S => if k = true then eb ρ S else .ok d S := by
  refine pe_le (pe_andT ha hb) ?_
  rintro σ H Q ⟨w, ρ, S, st, po⟩
  refine ⟨w, ρ, S, st, PoR.seq po fun x S' v w' H' _ _ st' r po' => ?_⟩
  cases e1 : trD x with
  | none => rw [e1] at po'; exact False.elim po'
  | some kk =>
    rw [e1] at po'
    refine ⟨kk, trD_of r st'.sf e1, ?_⟩
    cases kk with
    | true => rw [if_pos rfl]; exact ⟨w', ρ, S', st', po'⟩
    | false => rw [if_neg Bool.false_ne_true]; exact PoR.ok (show PoR X.K g.xv W (relE X.K) (.ok x S') w' H' ρ σ Q from po') st' r
theorem s_or {rest : List Expr} (ha : PEr X g W a ea) (hb : PEr X g W (.BoolOp .Or (b :: rest) pos) eb) : PEr X g W (.BoolOp .Or (a :: b :: rest) pos) fun ρ S => (ea ρ S).bind fun d S => (lift (trD d) S).bind fun k S => if k = true then .ok d S else eb ρ S := by
  refine pe_le (pe_orT ha hb) ?_
  rintro σ H Q ⟨w, ρ, S, st, po⟩
  refine ⟨w, ρ, S, st, PoR.seq po fun x S' v w' H' _ _ st' r po' => ?_⟩
  cases e1 : trD x with
  | none => rw [e1] at po'; exact False.elim po'
  | some kk =>
    rw [e1] at po'
    refine ⟨kk, trD_of r st'.sf e1, ?_⟩
    cases kk with
    | false => rw [if_neg Bool.false_ne_true]; exact ⟨w', ρ, S', st', po'⟩
    | true => rw [if_pos rfl]; exact PoR.ok (show PoR X.K g.xv W (relE X.K) (.ok x S') w' H' ρ σ Q from po') st' r
theorem s_ite (hc : PTr X g W d et) (ha : PEr X g W a ea) (hb : PEr X g W b eb) : PEr X g W (.IfExp d a b pos) fun ρ S => (et ρ S).bind fun k S => if k = true then ea ρ S else eb ρ S := by
  refine pe_le (pe_ifExp hc ha hb) ?_
  rintro σ H Q ⟨w, ρ, S, st, po⟩
  refine ⟨w, ρ, S, st, PoR.seq po fun x S' v w' H' _ _ st' r po' => ?_⟩
  cases (show x = v from r)
  cases x with
  | true => rw [if_pos rfl]; exact ⟨w', ρ, S', st', po'⟩
  | false => rw [if_neg Bool.false_ne_true]; exact ⟨w', ρ, S', st', po'⟩
/-! ## arguments -/
theorem s_nil : PAr X g W [] fun _ S => .ok [] S := by
  refine pa_le pa_nil ?_
  rintro σ H Q ⟨w, ρ, S, st, po⟩
  exact PoR.ok po st .nil
theorem s_cons (ha : PEr X g W a ea) (hr : PAr X g W es ets) (hs : starEach (a :: es) X.env = (false, eval a X.env) :: starEach es X.env) : PAr X g W (a :: es) fun ρ S => (ea ρ S).bind fun d S => (ets ρ S).bind fun ds S => .ok (d :: ds) S := by
  refine pa_le (pa_cons ha hr hs) ?_
  rintro σ H Q ⟨w, ρ, S, st, po⟩
  refine ⟨w, ρ, S, st, PoR.seq po fun x S' v w' H' _ _ st' r po' => ⟨w', ρ, S', st', PoR.seq po' fun y S2 u w2 H2 _ x2 st2 r2 po2 => ?_⟩⟩
  exact PoR.ok (show PoR X.K g.xv W (relL X.K) (.ok (x :: y) S2) w2 H2 ρ σ Q from po2) st2 (.cons (x2.rep r) r2)
theorem s_tup {j : Nat} (ha : PAr X g W es ets) : PEr X g W (.Tuple es j pos) fun ρ S => (ets ρ S).bind fun ds S => if ds.length ≤ 16777216 then .ok (.tuple ds) S else .bad := by
  refine pe_le (pe_tup ha) ?_
  rintro σ H Q ⟨w, ρ, S, st, po⟩
  refine ⟨w, ρ, S, st, PoR.seq po fun x S' v w' H' _ _ st' r po' => ?_⟩
  have r : Reps X.K w'.f w'.ι x v := r
  by_cases hz : x.length ≤ 16777216
  · rw [if_pos hz] at po'
    exact ⟨by rw [← r.length, sz_eq]; exact hz, fun p hp => po'.newT st' r hp⟩
  · rw [if_neg hz] at po'; exact False.elim po'
theorem s_lst (ha : PAr X g W es ets) : PEr X g W (.List es pos) fun ρ S => (ets ρ S).bind fun ds S => if ds.length ≤ 16777216 then .ok (.list ds) S else .bad := by
  refine pe_le (pe_lst ha) ?_
  rintro σ H Q ⟨w, ρ, S, st, po⟩
  refine ⟨w, ρ, S, st, PoR.seq po fun x S' v w' H' _ _ st' r po' => ?_⟩
  have r : Reps X.K w'.f w'.ι x v := r
  by_cases hz : x.length ≤ 16777216
  · rw [if_pos hz] at po'
    exact ⟨by rw [← r.length, sz_eq]; exact hz, fun p hp => po'.newL st' r hp⟩
  · rw [if_neg hz] at po'; exact False.elim po'
/-! ## places and slices -/
theorem Reps.atI {K : PySem.W.Frag} {H : Hp} {ι : List Addr} {ds : List D} {vs : List V} {i : Int} {d : D} (r : Reps K H ι ds vs) (h : L2.atI ds i = some d) : ∃ v, L2.atI vs i = some v ∧ Rep K H ι d v := by
  unfold L2.atI at h ⊢
  rw [← r.length]
  cases e : ixN ds.length i with
  | none => rw [e] at h; cases h
  | some j =>
    rw [e] at h
    exact r.get h
theorem s_idx (hs : PlainIx b) (ha : PEr X g W a ea) (hb : PEr X g W b eb) : PEr X g W (.Subscript a b pos) fun ρ S => (ea ρ S).bind fun x S => (eb ρ S).bind fun y S => lift (ixD x y) S := by
  refine pe_le (pe_ix ix_seq ha hb hs) ?_
  rintro σ H Q ⟨w, ρ, S, st, po⟩
  refine ⟨w, ρ, S, st, PoR.seq po fun x S' v w' H' _ _ st' r po' => ⟨w', ρ, S', st', PoR.seq po' fun y S2 u w2 H2 _ x2 st2 r2 po2 => ?_⟩⟩
  have r : Rep X.K w2.f w2.ι x v := x2.rep r
  have r2 : Rep X.K w2.f w2.ι y u := r2
  obtain ⟨dd, e, po3⟩ := po2.lift
  cases r with
  | lst s1 q1 =>
    cases r2 with
    | int i =>
      obtain ⟨z, e1, rz⟩ := q1.atI (show L2.atI _ i = some dd from e)
      exact .inl ⟨_, _, i, z, rfl, rfl, st2.sf.seq s1, e1, PoR.okE po3 st2 rz⟩
    | _ => simp [ixD, insD] at e
  | tup s1 q1 =>
    cases r2 with
    | int i =>
      obtain ⟨z, e1, rz⟩ := q1.atI (show L2.atI _ i = some dd from e)
      exact .inr (.inl ⟨_, _, i, z, rfl, rfl, Same.seqT st2.sf s1, e1, PoR.okE po3 st2 rz⟩)
    | _ => simp [ixD, insD] at e
  | str z =>
    cases r2 with
    | int i =>
      simp only [ixD] at e
      split at e
      · rename_i hz
        simp only [Option.map_eq_some_iff] at e
        obtain ⟨cc, e1, e2⟩ := e
        subst e2
        exact .inr (.inr ⟨z, i, cc, rfl, rfl, by rw [sz_eq]; exact hz, e1, po3.ok st2 (.str _)⟩)
      · cases e
    | _ => simp [ixD, insD] at e
  | _ => cases r2 <;> simp [ixD, insD] at e
theorem cutL_reps {K : PySem.W.Frag} {H : Hp} {ι : List Addr} {ds : List D} {vs : List V} (lo hi : Option Int) (r : Reps K H ι ds vs) : Reps K H ι (cutL ds lo hi) (cutV vs lo hi) := by
  unfold cutL cutV
  rw [← r.length]
  exact (r.drop _).take _
theorem sIx_le' (n d : Nat) (hd : d ≤ n) (o : Option Int) : HT.sIx n d o ≤ n := HT.sIx_le n d hd o
theorem cutL_whole {α : Type} {xs : List α} {lo hi : Option Int} (h : HT.sIx xs.length 0 lo = 0 ∧ HT.sIx xs.length xs.length hi = xs.length) : cutL xs lo hi = xs := by
  unfold cutL
  rw [h.1, h.2, List.drop_zero, Nat.sub_zero, List.take_length]
abbrev POr (X : Cx) (g : Glo) (W : WXs) (e : Option Expr) (ev : List Sl → Hs → R (Option Int)) : Prop := PO X e (rd X.K g.xv W relI ev)
theorem po_le {e : Option Expr} {t t' : TO} (h : PO X e t) (m : ∀ σ H Q, t' σ H Q → t σ H Q) : PO X e t' := ⟨fun pins s σ H Q I q => h.run pins s σ H Q I (m σ H Q q)⟩
theorem s_poN : POr X g W none fun _ S => .ok none S := by
  refine po_le po_none ?_
  rintro σ H Q ⟨w, ρ, S, st, po⟩
  exact PoR.ok po st rfl
theorem s_poS (ha : PEr X g W a ea) : POr X g W (some a) fun ρ S => (ea ρ S).bind fun d S => match d with | .int i => .ok (some i) S | _ => .bad := by
  refine po_le (po_some ha) ?_
  rintro σ H Q ⟨w, ρ, S, st, po⟩
  refine ⟨w, ρ, S, st, PoR.seq po fun x S' v w' H' _ _ st' r po' => ?_⟩
  cases r with
  | int i => exact ⟨i, rfl, PoR.ok (show PoR X.K g.xv W relI (.ok (some i) S') w' H' ρ σ Q from po') st' rfl⟩
  | _ => exact False.elim po'
theorem s_slc {lo hi : Option Expr} {p2 : Pos} {el eh : List Sl → Hs → R (Option Int)} (ha : PEr X g W a ea) (hl : POr X g W lo el) (hh : POr X g W hi eh) :
    PEr X g W (.Subscript a (.Slice lo hi none p2) pos) fun ρ S => (ea ρ S).bind fun x S => (el ρ S).bind fun l S => (eh ρ S).bind fun h S => lift (slD x l h) S := by
  refine pe_le (pe_slice (SlR.or sl_list (SlR.or sl_tupA sl_str)) ha hl hh) ?_
  rintro σ H Q ⟨w, ρ, S, st, po⟩
  refine ⟨w, ρ, S, st, PoR.seq po fun x S' v w' H' _ _ st' r po' => ⟨w', ρ, S', st', PoR.seq po' fun l S2 l' w2 H2 _ x2 st2 e2 po2 => ⟨w2, ρ, S2, st2, PoR.seq po2 fun h S3 h' w3 H3 _ x3 st3 e3 po3 => ?_⟩⟩⟩
  cases (show l = l' from e2)
  cases (show h = h' from e3)
  have r : Rep X.K w3.f w3.ι x v := x3.rep (x2.rep r)
  obtain ⟨dd, e, po3⟩ := po3.lift
  cases r with
  | lst s1 q1 =>
    cases e
    exact .inl ⟨_, _, rfl, st3.sf.seq s1, fun p hp => po3.newL st3 (cutL_reps l h q1) hp⟩
  | tup s1 q1 =>
    cases e
    refine .inr (.inl ⟨_, _, rfl, Same.seqT st3.sf s1, fun z => ?_, fun _ p hp => po3.newT st3 (cutL_reps l h q1) hp⟩)
    rw [← q1.length] at z
    rw [cutL_whole z] at po3
    exact po3.ok st3 (.tup s1 q1)
  | str z =>
    simp only [slD] at e
    split at e
    · rename_i hz; cases e; exact .inr (.inr ⟨z, rfl, by rw [sz_eq]; exact hz, po3.ok st3 (.str _)⟩)
    · cases e
  | _ => simp [slD, insD] at e
/-! ## tests -/
theorem s_truth (ha : PEr X g W a ea) (he : ∀ whole, isTrue a X.env whole = (do let v ← whole; standAt a.pos; holding [v] (truthy v))) : PTr X g W a fun ρ S => (ea ρ S).bind fun d S => lift (trD d) S := by
  refine pt_le (pt_truth ha he) ?_
  rintro σ H Q ⟨w, ρ, S, st, po⟩
  refine ⟨w, ρ, S, st, PoR.seq po fun x S' v w' H' _ _ st' r po' => ?_⟩
  obtain ⟨k, e, po'⟩ := po'.lift
  exact ⟨k, trD_of r st'.sf e, po'.ok st' rfl⟩
theorem trB_ok {K : PySem.W.Frag} {xv : Str → Value} {w : Wd} {H : Hp} {ρ : List Sl} {σ : SV} {S : Hs} {Q : Bool → Hp → Prop} {o : Option Bool} (po : PoR K xv W relB ((lift (o.map PyData.bool) S).bind fun d S => lift (trD d) S) w H ρ σ Q) : ∃ k, o = some k ∧ PoR K xv W relB (.ok k S) w H ρ σ Q := by
  cases o with
  | none => exact False.elim po
  | some k => exact ⟨k, rfl, po⟩
theorem R.bind_assoc {α β γ : Type} (r : R α) (f : α → Hs → R β) (h : β → Hs → R γ) : (r.bind f).bind h = r.bind fun a S => (f a S).bind h := by
  cases r <;> rfl
theorem s_tcmp (op : Cp) (c : Cok X g k cl lvl W) (ha : PEr X g W a ea) (hb : PEr X g W b eb) (hm : behindInMarks op.op b = false) :
    PTr X g W (.Compare a [op.op] [b] pos) fun ρ S => ((ea ρ S).bind fun x S => (eb ρ S).bind fun y S => lift ((cmpD op x y).map .bool) S).bind fun d S => lift (trD d) S := by
  refine pt_le (pt_cmpR (op_cmp op c.un) ha hb hm) ?_
  rintro σ H Q ⟨w, ρ, S, st, po⟩
  dsimp only at po
  rw [R.bind_assoc] at po
  refine ⟨w, ρ, S, st, PoR.seq po fun x S' v w' H' _ _ st' r po' => ?_⟩
  rw [R.bind_assoc] at po'
  refine ⟨w', ρ, S', st', PoR.seq po' fun y S2 u w2 H2 _ x2 st2 r2 po2 => ?_⟩
  obtain ⟨k, e, po2⟩ := trB_ok po2
  exact ⟨w2.f, w2.ι, x, y, k, st2.sf, x2.rep r, r2, e, k, rfl, po2.ok st2 rfl⟩
theorem s_tisN {j : Nat} {p2 : Pos} (ha : PEr X g W a ea) : PTr X g W (.Compare a [.Is] [.Constant .none j p2] pos) fun ρ S => ((ea ρ S).bind fun x S => .ok (.bool (decide (x = .none))) S).bind fun d S => lift (trD d) S := by
  refine pt_le (pt_cmpR op_isN ha pe_non rfl) ?_
  rintro σ H Q ⟨w, ρ, S, st, po⟩
  dsimp only at po
  rw [R.bind_assoc] at po
  refine ⟨w, ρ, S, st, PoR.seq po fun x S' v w' H' _ _ st' r po' => ⟨rfl, _, rfl, ?_⟩⟩
  rw [r.isNon]
  exact PoR.ok (show PoR X.K g.xv W relB (.ok (decide (x = .none)) S') w' H' ρ σ Q from po') st' rfl
theorem s_tnotN {j : Nat} {p2 : Pos} (ha : PEr X g W a ea) : PTr X g W (.Compare a [.IsNot] [.Constant .none j p2] pos) fun ρ S => ((ea ρ S).bind fun x S => .ok (.bool (!decide (x = .none))) S).bind fun d S => lift (trD d) S := by
  refine pt_le (pt_cmpR op_notN ha pe_non rfl) ?_
  rintro σ H Q ⟨w, ρ, S, st, po⟩
  dsimp only at po
  rw [R.bind_assoc] at po
  refine ⟨w, ρ, S, st, PoR.seq po fun x S' v w' H' _ _ st' r po' => ⟨rfl, _, rfl, ?_⟩⟩
  rw [r.isNon]
  exact PoR.ok (show PoR X.K g.xv W relB (.ok (!decide (x = .none)) S') w' H' ρ σ Q from po') st' rfl
theorem s_tchain (o1 o2 : Cp) (c : Cok X g k cl lvl W) (ha : PEr X g W a ea) (hb : PEr X g W b eb) (hd : PEr X g W d ed) (hm : lastMarks [o1.op, o2.op] [b, d] = false) :
    PTr X g W (.Compare a [o1.op, o2.op] [b, d] pos) fun ρ S => ((ea ρ S).bind fun x S => (eb ρ S).bind fun y S => (lift (cmpD o1 x y) S).bind fun k S =>
      if k = true then (ed ρ S).bind fun z S => lift ((cmpD o2 y z).map .bool) S else .ok (.bool false) S).bind fun d S => lift (trD d) S := by
  refine pt_le (pt_chain (op_cmp o1 c.un) (op_cmp o2 c.un) ha hb hd hm) ?_
  rintro σ H Q ⟨w, ρ, S, st, po⟩
  dsimp only at po
  rw [R.bind_assoc] at po
  refine ⟨w, ρ, S, st, PoR.seq po fun x S' v w' H' _ _ st' r po' => ?_⟩
  rw [R.bind_assoc] at po'
  refine ⟨w', ρ, S', st', PoR.seq po' fun y S2 u w2 H2 _ x2 st2 r2 po2 => ?_⟩
  rw [R.bind_assoc] at po2
  cases e1 : cmpD o1 x y with
  | none => rw [e1] at po2; exact False.elim po2
  | some kk =>
    rw [e1] at po2
    refine ⟨w2.f, w2.ι, x, y, kk, st2.sf, x2.rep r, r2, e1, kk, rfl, ?_⟩
    cases kk with
    | false =>
      rw [if_neg Bool.false_ne_true]
      exact ⟨false, rfl, PoR.ok (show PoR X.K g.xv W relB (.ok false S2) w2 H2 ρ σ Q from po2) st2 rfl⟩
    | true =>
      rw [if_pos rfl]
      have po2 : PoR X.K g.xv W relB (((ed ρ S2).bind fun z S => lift ((cmpD o2 y z).map .bool) S).bind fun d S => lift (trD d) S) w2 H2 ρ σ Q := po2
      rw [R.bind_assoc] at po2
      refine ⟨w2, ρ, S2, st2, PoR.seq po2 fun z S3 v3 w3 H3 _ x3 st3 r3 po3 => ?_⟩
      obtain ⟨k2, e2, po3⟩ := trB_ok po3
      exact ⟨w3.f, w3.ι, y, z, k2, st3.sf, x3.rep r2, r3, e2, k2, rfl, po3.ok st3 rfl⟩
theorem s_tnot (ha : PTr X g W a et) : PTr X g W (.UnaryOp .Not a pos) fun ρ S => (et ρ S).bind fun k S => .ok (!k) S := by
  refine pt_le (pt_not ha) ?_
  rintro σ H Q ⟨w, ρ, S, st, po⟩
  refine ⟨w, ρ, S, st, PoR.seq po fun x S' v w' H' _ _ st' r po' => ?_⟩
  cases (show x = v from r)
  exact PoR.ok (show PoR X.K g.xv W relB (.ok (!x) S') w' H' ρ σ Q from po') st' rfl
abbrev PWr (X : Cx) (g : Glo) (W : WXs) (e : Expr) (ev : List Sl → Hs → R Bool) : Prop := PW X e (rd X.K g.xv W relB ev)
theorem s_wand1 (ha : PTr X g W a et) : PWr X g W (.BoolOp .And [a] pos) fun ρ S => (et ρ S).bind fun k S => if k = true then .ok true S else .ok false S := by
  refine pw_le (pw_and1 ha) ?_
  rintro σ H Q ⟨w, ρ, S, st, po⟩
  refine ⟨w, ρ, S, st, PoR.seq po fun x S' v w' H' _ _ st' r po' => ?_⟩
  cases (show x = v from r)
  cases x <;> exact PoR.ok po' st' rfl
theorem s_wor1 (ha : PTr X g W a et) : PWr X g W (.BoolOp .Or [a] pos) fun ρ S => (et ρ S).bind fun k S => if k = true then .ok true S else .ok false S := by
  refine pw_le (pw_or1 ha) ?_
  rintro σ H Q ⟨w, ρ, S, st, po⟩
  refine ⟨w, ρ, S, st, PoR.seq po fun x S' v w' H' _ _ st' r po' => ?_⟩
  cases (show x = v from r)
  cases x <;> exact PoR.ok po' st' rfl
theorem s_wand {rest : List Expr} (ha : PTr X g W a et) (hb : PWr X g W (.BoolOp .And (b :: rest) pos) eu) : PWr X g W (.BoolOp .And (a :: b :: rest) pos) fun ρ S => (et ρ S).bind fun k S => if k = true then eu ρ S else .ok false S := by
  refine pw_le (pw_and ha hb) ?_
  rintro σ H Q ⟨w, ρ, S, st, po⟩
  refine ⟨w, ρ, S, st, PoR.seq po fun x S' v w' H' _ _ st' r po' => ?_⟩
  cases (show x = v from r)
  cases x with
  | true => rw [if_pos rfl]; exact ⟨w', ρ, S', st', po'⟩
  | false => rw [if_neg Bool.false_ne_true]; exact PoR.ok (show PoR X.K g.xv W relB (.ok false S') w' H' ρ σ Q from po') st' rfl
theorem s_wor {rest : List Expr} (ha : PTr X g W a et) (hb : PWr X g W (.BoolOp .Or (b :: rest) pos) eu) : PWr X g W (.BoolOp .Or (a :: b :: rest) pos) fun ρ S => (et ρ S).bind fun k S => if k = true then .ok true S else eu ρ S := by
  refine pw_le (pw_or ha hb) ?_
  rintro σ H Q ⟨w, ρ, S, st, po⟩
  refine ⟨w, ρ, S, st, PoR.seq po fun x S' v w' H' _ _ st' r po' => ?_⟩
  cases (show x = v from r)
  cases x with
  | false => rw [if_neg Bool.false_ne_true]; exact ⟨w', ρ, S', st', po'⟩
  | true => rw [if_pos rfl]; exact PoR.ok (show PoR X.K g.xv W relB (.ok true S') w' H' ρ σ Q from po') st' rfl
end
end FW

namespace FW
open PySem PySem.W PySem.Spec L2

/-! ## arguments without a star -/
def notStar : Expr → Bool
  | .Starred .. => false
  | _ => true
theorem star_one {e : Expr} {es : List Expr} {env : Env} (h : notStar e = true) : starEach (e :: es) env = (false, eval e env) :: starEach es env := by
  cases e <;> first | rfl | simp [notStar] at h
theorem star_none : ∀ (es : List Expr) (env : Env) (pos : Pos), es.all notStar = true → (backTo pos (starEach es env)).any (·.1) = false
  | [], _, _, _ => rfl
  | e :: es, env, pos, h => by
    rw [List.all_cons, Bool.and_eq_true] at h
    rw [star_one h.1]
    have := star_none es env pos h.2
    simpa [backTo] using this
theorem star_all : ∀ (es : List Expr) (env : Env) (pos : Pos), es.all notStar = true → (backTo pos (starEach es env)).all (fun x => !x.1) = true
  | [], _, _, _ => rfl
  | e :: es, env, pos, h => by
    rw [List.all_cons, Bool.and_eq_true] at h
    rw [star_one h.1]
    have := star_all es env pos h.2
    simpa [backTo] using this

section
variable {X : Cx} {g : Glo} {k : Ck} {cl : Cl} {lvl : Nat} {W : WXs} {a b d e : Expr} {pos p : Pos} {ea eb ed : List Sl → Hs → R D} {es : List Expr} {ets : List Sl → Hs → R (List D)} {et eu : List Sl → Hs → R Bool}
/-- is True, is not False, .. -/
theorem s_isB {j : Nat} {p2 : Pos} {v : Bool} (ha : PEr X g W a ea) : PEr X g W (.Compare a [.Is] [.Constant (.bool v) j p2] pos) fun ρ S => (ea ρ S).bind fun x S => match x with | .bool k => .ok (.bool (decide (k = v))) S | _ => .bad := by
  refine pe_le (pe_cmpR op_isBl ha pe_bl rfl) ?_
  rintro σ H Q ⟨w, ρ, S, st, po⟩
  refine ⟨w, ρ, S, st, PoR.seq po fun x S' u w' H' _ _ st' r po' => ?_⟩
  cases r with
  | bl b => exact ⟨b, v, rfl, rfl, PoR.ok po' st' (.bl _)⟩
  | _ => exact False.elim po'
theorem s_ntB {j : Nat} {p2 : Pos} {v : Bool} (ha : PEr X g W a ea) : PEr X g W (.Compare a [.IsNot] [.Constant (.bool v) j p2] pos) fun ρ S => (ea ρ S).bind fun x S => match x with | .bool k => .ok (.bool (!decide (k = v))) S | _ => .bad := by
  refine pe_le (pe_cmpR op_notBl ha pe_bl rfl) ?_
  rintro σ H Q ⟨w, ρ, S, st, po⟩
  refine ⟨w, ρ, S, st, PoR.seq po fun x S' u w' H' _ _ st' r po' => ?_⟩
  cases r with
  | bl b => exact ⟨b, v, rfl, rfl, PoR.ok po' st' (.bl _)⟩
  | _ => exact False.elim po'
theorem s_tisB {j : Nat} {p2 : Pos} {v : Bool} (ha : PEr X g W a ea) : PTr X g W (.Compare a [.Is] [.Constant (.bool v) j p2] pos) fun ρ S => ((ea ρ S).bind fun x S => match x with | .bool k => .ok (.bool (decide (k = v))) S | _ => .bad).bind fun d S => lift (trD d) S := by
  refine pt_le (pt_cmpR op_isBl ha pe_bl rfl) ?_
  rintro σ H Q ⟨w, ρ, S, st, po⟩
  dsimp only at po
  rw [R.bind_assoc] at po
  refine ⟨w, ρ, S, st, PoR.seq po fun x S' u w' H' _ _ st' r po' => ?_⟩
  cases r with
  | bl b => exact ⟨b, v, rfl, rfl, _, rfl, PoR.ok (show PoR X.K g.xv W relB (.ok (decide (b = v)) S') w' H' ρ σ Q from po') st' rfl⟩
  | _ => exact False.elim po'
theorem s_tntB {j : Nat} {p2 : Pos} {v : Bool} (ha : PEr X g W a ea) : PTr X g W (.Compare a [.IsNot] [.Constant (.bool v) j p2] pos) fun ρ S => ((ea ρ S).bind fun x S => match x with | .bool k => .ok (.bool (!decide (k = v))) S | _ => .bad).bind fun d S => lift (trD d) S := by
  refine pt_le (pt_cmpR op_notBl ha pe_bl rfl) ?_
  rintro σ H Q ⟨w, ρ, S, st, po⟩
  dsimp only at po
  rw [R.bind_assoc] at po
  refine ⟨w, ρ, S, st, PoR.seq po fun x S' u w' H' _ _ st' r po' => ?_⟩
  cases r with
  | bl b => exact ⟨b, v, rfl, rfl, _, rfl, PoR.ok (show PoR X.K g.xv W relB (.ok (!decide (b = v)) S') w' H' ρ σ Q from po') st' rfl⟩
  | _ => exact False.elim po'

/-! ## calls of builtins -/
/-- a builtin's rule by the table biD -/
abbrev rBi (K : PySem.W.Frag) (f : Bf) : List V → Hp → VK → Prop := fun vs H Q => ∃ ds w d S xv W ρ σ, Stt K w ρ S σ H ∧ Reps K w.f w.ι ds vs ∧ biD f ds = some d ∧ PoR K xv W (relE K) (.ok d S) w H ρ σ Q
theorem boolsOf {K : PySem.W.Frag} {H : Hp} {ι : List Addr} : ∀ {ds : List D} {vs : List V}, Reps K H ι ds vs → ds.all (fun d => match d with | .bool _ => true | _ => false) = true → vs = (ds.map PyData.truthy).map V.bl
  | _, _, .nil, _ => rfl
  | _, _, .cons r t, h => by
    rw [List.all_cons, Bool.and_eq_true] at h
    rw [List.map_cons, List.map_cons, ← boolsOf t h.2]
    cases r <;> first | rfl | exact absurd h.1 (by simp [insD])
theorem alike_pl {x : D} (h : alike x x = true) : x.depth ≤ 64 → True := fun _ => trivial
theorem all_prop {α : Type} {p : α → Bool} {xs : List α} (h : xs.all p = true) : ∀ x, x ∈ xs → p x = true := fun x m => List.all_eq_true.mp h x m
theorem sortable_of {xs : List D} (h : sortable xs = true) : AllAlike xs ∧ Sortable xs ∧ (∀ d, d ∈ xs → d.depth ≤ 64) ∧ xs.length ≤ 16777216 := by
  simp only [sortable, Bool.and_eq_true, decide_eq_true_eq] at h
  obtain ⟨⟨⟨h1, h2⟩, h3⟩, h4⟩ := h
  refine ⟨fun d m d' m' => all_prop (all_prop h1 d m) d' m', ?_, fun d m => by simpa using all_prop h3 d m, h4⟩
  rcases Bool.or_eq_true_iff.mp h2 with h | h
  · left
    intro d m
    have := all_prop h d m
    split at this
    · exact ⟨_, _, rfl⟩
    · cases this
  · right
    intro d m
    have := all_prop h d m
    constructor
    · rintro rfl; cases this
    · rintro ys rfl; cases this
mutual
theorem alike_plain : ∀ d : D, alike d d = true → d.plain = true
  | .none, _ => rfl
  | .bool _, _ => rfl
  | .int _, _ => rfl
  | .str _, _ => rfl
  | .list xs, h => by rw [PyData.plain]; exact alikeAll_plain xs (by simpa [alike] using h)
  | .tuple xs, h => by rw [PyData.plain]; exact alikeAll_plain xs (by simpa [alike] using h)
  | .dict _, h => by simp [alike] at h
theorem alikeAll_plain : ∀ xs : List D, alikeAll xs xs = true → PyData.plainAll xs = true
  | [], _ => rfl
  | x :: xs, h => by
    rw [alikeAll, Bool.and_eq_true] at h
    rw [PyData.plainAll, alike_plain x h.1, alikeAll_plain xs h.2]; rfl
end
theorem plainAll_of {xs : List D} (h : AllAlike xs) : PyData.plainAll xs = true := by
  have : ∀ ys : List D, (∀ y, y ∈ ys → y.plain = true) → PyData.plainAll ys = true := fun ys => by
    induction ys with
    | nil => intro _; rfl
    | cons y ys ih => intro h; rw [PyData.plainAll, h y List.mem_cons_self, ih fun z m => h z (List.mem_cons_of_mem _ m)]; rfl
  exact this xs fun y m => alike_plain y (h y m y m)
theorem each_reads {s : Shared} : ∀ {xs : List D} {vs : List Value} {as : List Addr}, ReadsAll s.heap vs xs as → EachIs (fun v b => ∃ as, Reads s.heap v b as) vs xs
  | _, _, _, .nil => .nil
  | _, _, _, .cons r t => .cons ⟨_, r⟩ (each_reads t)
/-- data and values side by side -/
theorem Reps.zip {K : PySem.W.Frag} {H : Hp} {ι : List Addr} : ∀ {ds : List D} {vs : List V}, Reps K H ι ds vs → (ds.zip vs).map Prod.fst = ds ∧ (ds.zip vs).map Prod.snd = vs ∧ ∀ p, p ∈ ds.zip vs → Rep K H ι p.1 p.2
  | _, _, .nil => ⟨rfl, rfl, fun p m => by simp at m⟩
  | _, _, .cons r t => by
    obtain ⟨h1, h2, h3⟩ := Reps.zip t
    refine ⟨by rw [List.zip_cons_cons, List.map_cons, h1], by rw [List.zip_cons_cons, List.map_cons, h2], fun p m => ?_⟩
    rw [List.zip_cons_cons] at m
    rcases List.mem_cons.mp m with e | m
    · subst e; exact r
    · exact h3 p m
theorem Reps.ofPairs {K : PySem.W.Frag} {H : Hp} {ι : List Addr} : ∀ {ps : List (D × V)}, (∀ p, p ∈ ps → Rep K H ι p.1 p.2) → Reps K H ι (ps.map Prod.fst) (ps.map Prod.snd)
  | [], _ => .nil
  | p :: ps, h => .cons (h p List.mem_cons_self) (Reps.ofPairs fun q m => h q (List.mem_cons_of_mem _ m))
theorem each_pairs {K : PySem.W.Frag} {H : Hp} {ι : List Addr} {s : Shared} : ∀ {ds : List D} {vs : List V} {us : List Value}, Reps K H ι ds vs → Vals vs us → EachIs (fun v b => ∃ as, Reads s.heap v b as) us ds →
    EachIs (fun (u : Value) (p : D × V) => RelV p.2 u) us (ds.zip vs) ∧ EachIs (fun (u : Value) (p : D × V) => ∃ as, Reads s.heap u p.1 as) us (ds.zip vs)
  | _, _, _, .nil, .nil, .nil => ⟨.nil, .nil⟩
  | _, _, _, .cons _ t, .cons r2 t2, .cons r3 t3 =>
    let h := each_pairs t t2 t3
    ⟨.cons r2 h.1, .cons r3 h.2⟩
theorem vals_pairs : ∀ {us : List Value} {ps : List (D × V)}, EachIs (fun (u : Value) (p : D × V) => RelV p.2 u) us ps → Vals (ps.map Prod.snd) us
  | _, _, .nil => .nil
  | _, _, .cons r t => .cons r (vals_pairs t)
theorem call_sorted (hu : X.A.units + 100 < cLine) : CallR X (.builtin "sorted") (fun vs H Q => ∃ a ds ws H' ι, vs = [V.ref a] ∧ SqL X.K H a ws ∧ Same H' H ∧ Reps X.K H' ι ds ws ∧ sortable ds = true ∧
    ∀ out p, Reps X.K H' ι (ds.mergeSort (dataLe false id)) out → H p = none → Q (.ref p) (upd H p (.lst out))) := by
  intro pins s σ H xs us Q I r h
  obtain ⟨a, ds, ws, H', ι, rfl, hs, sm, rp, so, q⟩ := h
  obtain ⟨u, rfl, ru⟩ := vals1 r
  cases ru
  obtain ⟨its, rv, hl, hz⟩ := I.list hs
  obtain ⟨s1, s2, s3, s4⟩ := sortable_of so
  obtain ⟨as, rd⟩ := Dp.readsAll I ds _ its (DpAll.mono sm (rp.dp (plainAll_of s1))) rv
  obtain ⟨z1, z2, z3⟩ := rp.zip
  obtain ⟨e1, e2⟩ := each_pairs (s := s) rp rv (each_reads rd)
  have hlen : (ds.zip ws).length = ds.length := by rw [← List.length_map (f := Prod.fst), z1]
  refine sorted_data (enc := Prod.fst) (vs := its) hl.isList e1 e2 (by rw [z1]; exact s1) (by rw [z1]; exact s2) (by rw [hlen, sizeLine_eq]; exact s4) (fun b m => ?_) fun out ho eo => ?_
  · have := s3 b.1 (by rw [← z1]; exact List.mem_map_of_mem m)
    show X.A.units + 2 + b.1.depth < cLine
    omega
  · obtain ⟨ep, he'⟩ := PyProof.Rows.sortedAll_at s.heap its (List.toArray out)
    have hv := vals_pairs eo
    have hmap : ((ds.zip ws).mergeSort (dataLe false Prod.fst)).map Prod.fst = ds.mergeSort (dataLe false id) := by
      have hm := List.map_mergeSort (r := dataLe false Prod.fst) (s := dataLe false id) (f := Prod.fst) (l := ds.zip ws) (fun _ _ _ _ => rfl)
      rw [hm, z1]
    have hrep := Reps.ofPairs (K := X.K) (H := H') (ι := ι) (ps := (ds.zip ws).mergeSort (dataLe false Prod.fst)) fun p m => z3 p ((List.mergeSort_perm _ _).mem_iff.mp m)
    rw [hmap] at hrep
    have hlen2 : (((ds.zip ws).mergeSort (dataLe false Prod.fst)).map Prod.snd).length ≤ sizeLine := by rw [List.length_map, List.length_mergeSort, hlen, sizeLine_eq]; exact s4
    exact ⟨.ref _, upd H (s.heap.objs.size + 1) (.lst (((ds.zip ws).mergeSort (dataLe false Prod.fst)).map Prod.snd)), I.laid (t' := s.toks) (fun _ _ => PyProof.Rows.sortedAll_old) (Nat.le_succ _) ⟨hlen2, out, ep, hv, he'⟩, rfl, q _ _ hrep (I.hok.fresh (Nat.le_succ _))⟩
/-- the call of a builtin, by the table -/
def Bf.ty : Bf → Bool
  | .int | .str | .list | .tuple | .bool => true
  | _ => false
def Bf.val : Bf → Value
  | .int => .type "int" | .str => .type "str" | .list => .type "list" | .tuple => .type "tuple" | .bool => .type "bool"
  | .len => .builtin "len" | .abs => .builtin "abs" | .min => .builtin "min" | .max => .builtin "max" | .sum => .builtin "sum" | .any => .builtin "any" | .all => .builtin "all"
  | .sorted => .builtin "sorted" | .ord => .builtin "ord"
theorem any_id (xs : List D) : (xs.map PyData.truthy).any id = xs.any PyData.truthy := by rw [List.any_map]; rfl
theorem all_id (xs : List D) : (xs.map PyData.truthy).all id = xs.all PyData.truthy := by rw [List.all_map]; rfl
theorem call_bi (f : Bf) (c : X.calm = true) (hu : X.A.units + 100 < cLine) : CallR X f.val (rBi X.K f) := by
  intro pins s σ H vs us Q I rv h
  obtain ⟨ds, w, d, S, xv, W, ρ, σ', st, rp, e, po⟩ := h
  have bad : ∀ {P : Prop}, biD f ds = none → P := fun z => by rw [z] at e; cases e
  cases rp with
  | nil => exact bad (by cases f <;> rfl)
  | cons r t => cases t with
    | nil =>
      rename_i d1 v1
      cases f with
      | len =>
        simp only [biD, Option.map_eq_some_iff] at e
        obtain ⟨n, e, e2⟩ := e
        subst e2
        refine call_len pins s σ H _ us Q I rv ⟨_, n, rfl, ?_, po.ok st (.int _)⟩
        cases r with
        | str x =>
          simp only [lenD] at e
          split at e
          · rename_i hz; cases e; exact ⟨by rw [sz_eq]; exact hz, rfl⟩
          · cases e
        | lst s1 q1 => simp only [lenD, Option.some.injEq] at e; exact .inl ⟨_, st.sf.seq s1, by rw [← e, q1.length]⟩
        | tup s1 q1 => simp only [lenD, Option.some.injEq] at e; exact .inr ⟨_, Same.seqT st.sf s1, by rw [← e, q1.length]⟩
        | _ => simp [lenD, insD] at e
      | int =>
        cases r with
        | int i => simp only [biD, Option.some.injEq] at e; subst e; exact call_int1 pins s σ H _ us Q I rv (.inl ⟨i, rfl, po.ok st (.int _)⟩)
        | bl b => simp only [biD, Option.some.injEq] at e; subst e; exact call_int1 pins s σ H _ us Q I rv (.inr ⟨b, rfl, po.ok st (.int _)⟩)
        | str x =>
          simp only [biD] at e
          split at e
          · rename_i hz
            simp only [Option.map_eq_some_iff] at e
            obtain ⟨n, e, e2⟩ := e
            subst e2
            exact call_int_str pins s σ H _ us Q I rv ⟨x, n, rfl, e, hz, po.ok st (.int _)⟩
          · cases e
        | _ => simp [biD, insD] at e
      | str =>
        cases r with
        | int i =>
          simp only [biD] at e
          split at e
          · rename_i hz; cases e; exact call_str_int pins s σ H _ us Q I rv ⟨i, rfl, hz, po.ok st (.str _)⟩
          · cases e
        | _ => simp [biD, insD] at e
      | abs =>
        cases r with
        | int i => simp only [biD, Option.some.injEq] at e; subst e; exact call_abs pins s σ H _ us Q I rv ⟨i, rfl, po.ok st (.int _)⟩
        | _ => simp [biD, insD] at e
      | ord =>
        cases r with
        | str x =>
          simp only [biD] at e
          split at e
          · rename_i hz; cases e; exact call_ord pins s σ H _ us Q I rv ⟨x, rfl, hz, po.ok st (.int _)⟩
          · cases e
        | _ => simp [biD, insD] at e
      | any =>
        cases r with
        | lst s1 q1 =>
          simp only [biD] at e
          split at e
          · rename_i hz
            cases e
            have := boolsOf q1 hz
            subst this
            refine cr_any c pins s σ H _ us Q I rv ⟨_, _, rfl, st.sf.seq s1, ?_⟩
            rw [any_id]
            exact po.ok st (.bl _)
          · cases e
        | _ => simp [biD, insD] at e
      | all =>
        cases r with
        | lst s1 q1 =>
          simp only [biD] at e
          split at e
          · rename_i hz
            cases e
            have := boolsOf q1 hz
            subst this
            refine cr_all c pins s σ H _ us Q I rv ⟨_, _, rfl, st.sf.seq s1, ?_⟩
            rw [all_id]
            exact po.ok st (.bl _)
          · cases e
        | _ => simp [biD, insD] at e
      | sorted =>
        cases r with
        | lst s1 q1 =>
          simp only [biD] at e
          split at e
          · rename_i hz
            cases e
            exact call_sorted hu pins s σ H _ us Q I rv ⟨_, _, _, w.f, w.ι, rfl, st.sf.seq s1, st.sf, q1, hz, fun out p h1 h2 => po.newL st h1 h2⟩
          · cases e
        | _ => simp [biD, insD] at e
      | list =>
        cases r with
        | lst s1 q1 =>
          simp only [biD, Option.some.injEq] at e; subst e
          exact call_list_of pins s σ H _ us Q I rv ⟨_, _, rfl, .inl (st.sf.seq s1), fun p hp => po.newL st q1 hp⟩
        | tup s1 q1 =>
          simp only [biD, Option.some.injEq] at e; subst e
          exact call_list_of pins s σ H _ us Q I rv ⟨_, _, rfl, .inr (Same.seqT st.sf s1), fun p hp => po.newL st q1 hp⟩
        | _ => simp [biD, insD] at e
      | tuple =>
        cases r with
        | lst s1 q1 =>
          simp only [biD, Option.some.injEq] at e; subst e
          exact call_tuple_of pins s σ H _ us Q I rv ⟨_, _, rfl, .inl ⟨st.sf.seq s1, fun p hp => po.newT st q1 hp⟩⟩
        | tup s1 q1 =>
          simp only [biD, Option.some.injEq] at e; subst e
          exact call_tuple_of pins s σ H _ us Q I rv ⟨_, _, rfl, .inr ⟨Same.seqT st.sf s1, po.ok st (.tup s1 q1)⟩⟩
        | _ => simp [biD, insD] at e
      | _ => exact bad (by cases d1 <;> rfl)
    | cons r2 t2 => cases t2 with
      | nil =>
        rename_i d1 v1 d2 v2
        cases f with
        | min =>
          cases r with
          | int i => cases r2 with
            | int j => simp only [biD, Option.some.injEq] at e; subst e; exact call_min2 c pins s σ H _ us Q I rv ⟨i, j, rfl, po.ok st (.int _)⟩
            | _ => simp [biD, insD] at e
          | _ => simp [biD, insD] at e
        | max =>
          cases r with
          | int i => cases r2 with
            | int j => simp only [biD, Option.some.injEq] at e; subst e; exact call_max2 c pins s σ H _ us Q I rv ⟨i, j, rfl, po.ok st (.int _)⟩
            | _ => simp [biD, insD] at e
          | _ => simp [biD, insD] at e
        | _ => exact bad (by cases d1 <;> rfl)
      | cons r3 t3 => exact bad (by rename_i d1 _ d2 _ _ _ _ _; cases f <;> first | rfl | (cases d1 <;> first | rfl | (cases d2 <;> rfl)))
theorem blt_val (f : Bf) : (bootBuiltins f.nm = some f.val) ∧ f.nm ∈ bltNames := by cases f <;> exact ⟨by decide +kernel, by decide +kernel⟩
/-- f(e, ..), f a builtin -/
theorem s_bi (f : Bf) {x : Str} (c : Cok X g k cl lvl W) (hx : x = f.nm) (hg : k.isGl x = true) (ha : PAr X g W (e :: es) ets) (hs : (e :: es).all notStar = true) : PEr X g W (.Call (.Name x p) (e :: es) [] pos) fun ρ S => (ets ρ S).bind fun ds S => lift (biD f ds) S := by
  subst hx
  have hs' := hs
  rw [List.all_cons, Bool.and_eq_true] at hs'
  have hm := c.gl.blt _ (blt_val f).2
  have key : PE X (.Call (.Name f.nm p) (e :: es) [] pos) (tCB (rBi X.K f) (rd X.K g.xv W (relL X.K) ets)) := by
    have hb := (blt_val f).1
    have cr := call_bi f c.calm c.un'
    cases f <;> first
      | exact pe_callB (by exact cr) (c.isGl hg) hm hb ha (by decide) (by decide) (star_one hs'.1) (star_none es _ _ hs'.2)
      | exact pe_callTy (by exact cr) (c.isGl hg) hm hb ha (by decide) (by decide) (star_one hs'.1) (star_none es _ _ hs'.2)
  refine pe_le key ?_
  rintro σ H Q ⟨w, ρ, S, st, po⟩
  refine ⟨w, ρ, S, st, PoR.seq po fun x S' v w' H' _ _ st' r po' => ?_⟩
  obtain ⟨dd, e1, po'⟩ := po'.lift
  exact ⟨x, w', dd, S', g.xv, W, ρ, σ, st', r, e1, po'⟩
end
end FW

namespace FW
open PySem PySem.W PySem.Spec L2

section
variable {X : Cx} {g : Glo} {k : Ck} {cl : Cl} {lvl : Nat} {W : WXs} {a b d e : Expr} {pos p : Pos} {ea eb ed : List Sl → Hs → R D} {es : List Expr} {ets : List Sl → Hs → R (List D)} {et eu : List Sl → Hs → R Bool}

/-! ## isinstance -/
theorem Rd.cases {H : Hp} {a : Addr} {o : HO} (h : Rd H a o) : H a = some o ∨ ∃ ob, H a = some (.frz ob o) := h
theorem tyx_list {K : PySem.W.Frag} {H : Hp} {a : Addr} {xs : List V} (h : SqL K H a xs) : TyX K H (.ref a) (.type "list") := by
  rcases h with (h | ⟨o, h⟩) | ⟨o, its, n, hk, hc, _⟩
  · exact .base (.lst h)
  · exact .base (.frz h)
  · exact .kList hk hc
theorem tyx_tup {K : PySem.W.Frag} {H : Hp} {a : Addr} {xs : List V} (h : SqT K H a xs) : TyX K H (.ref a) (.type "tuple") := by
  rcases h with (h | ⟨o, h⟩) | ⟨o, its, n, hk, hc, _⟩
  · exact .base (.tup h)
  · exact .fTuple h
  · exact .kTuple hk hc
theorem okTy_cases {t : String} (h : okTy t = true) : t = "bool" ∨ t = "int" ∨ t = "str" ∨ t = "list" ∨ t = "tuple" ∨ t = "dict" := by
  simp only [okTy, Bool.or_eq_true, beq_iff_eq] at h
  rcases h with ((((h | h) | h) | h) | h) | h
  · exact .inl h
  · exact .inr (.inl h)
  · exact .inr (.inr (.inl h))
  · exact .inr (.inr (.inr (.inl h)))
  · exact .inr (.inr (.inr (.inr (.inl h))))
  · exact .inr (.inr (.inr (.inr (.inr h))))
theorem kit_all {t : String} (h : okTy t = true) : kitB "NoneType" t = some (t == "NoneType") ∧ kitB "bool" t = some (t == "bool" || t == "int") ∧ kitB "int" t = some (t == "int") ∧ kitB "str" t = some (t == "str") ∧
    kitB "list" t = some (t == "list") ∧ kitB "tuple" t = some (t == "tuple") ∧ kitB "dict" t = some (t == "dict") := by
  rcases okTy_cases h with h | h | h | h | h | h <;> subst h <;> (refine ⟨?_, ?_, ?_, ?_, ?_, ?_, ?_⟩ <;> decide +kernel)
theorem isiD_of {K : PySem.W.Frag} {H H' : Hp} {ι : List Addr} {d : D} {v : V} {t : String} {r : Bool} (h : Rep K H ι d v) (e : Same H H') (ht : okTy t = true) (hi : isiD d t = some r) :
    ∃ ty, TyX K H' v (.type ty) ∧ kitB ty t = some r := by
  obtain ⟨k1, k2, k3, k4, k5, k6, k7⟩ := kit_all ht
  cases h with
  | non => exact ⟨_, .base .non, k1.trans hi⟩
  | bl b => exact ⟨_, .base (.bl b), k2.trans hi⟩
  | int i => exact ⟨_, .base (.int i), k3.trans hi⟩
  | str x => exact ⟨_, .base (.str x), k4.trans hi⟩
  | lst s q => exact ⟨_, tyx_list (e.seq s), k5.trans hi⟩
  | tup s q => exact ⟨_, tyx_tup (Same.seqT e s), k6.trans hi⟩
  | dic s q =>
    refine ⟨_, .base (.dK (e _ _ s)), k7.trans ?_⟩
    cases q with
    | nil => exact hi
    | @cons k0 _ _ _ _ _ kk _ _ =>
      cases k0 with
      | int _ => exact hi
      | str _ => exact hi
      | _ => cases kk
  | ins _ => simp [isiD, insD] at hi
def tyNm (t : String) : Str := Str.ofString t
theorem ty_boot {t : String} (ht : okTy t = true) : bootBuiltins (tyNm t) = some (.type t) ∧ tyNm t ∈ bltNames ∧ okNm (tyNm t) = true := by
  rcases okTy_cases ht with h | h | h | h | h | h <;> subst h <;> (refine ⟨?_, ?_, ?_⟩ <;> decide +kernel)
theorem s_isi {t : String} {x y : Str} {p2 : Pos} (c : Cok X g k cl lvl W) (ht : okTy t = true) (hx : x = "isinstance") (hy : y = tyNm t) (hg : k.isGl x = true) (hg2 : k.isGl y = true) (ha : PEr X g W a ea) (hs : notStar a = true) :
    PEr X g W (.Call (.Name x p) [a, .Name y p2] [] pos) fun ρ S => (ea ρ S).bind fun x S => lift ((isiD x t).map .bool) S := by
  subst hx hy
  obtain ⟨h1, h2, h3⟩ := ty_boot ht
  have hn := okNm_of h3
  have py : PE X (.Name (tyNm t) p2) (tC (.ty t)) := pe_bltn (c.isGl hg2) (c.gl.blt _ h2) h1 rfl hn.2.2 hn.1
  refine pe_le (pe_callB call_isi (c.isGl hg) (c.gl.blt _ (by decide +kernel)) (by decide +kernel) (pa_cons ha (pa_cons py pa_nil) (star_one hs)) (by decide) (by decide) (star_one hs) rfl) ?_
  rintro σ H Q ⟨w, ρ, S, st, po⟩
  refine ⟨w, ρ, S, st, PoR.seq po fun x S' v w' H' _ _ st' r po' => ?_⟩
  obtain ⟨dd, e, po'⟩ := po'.lift
  simp only [Option.map_eq_some_iff] at e
  obtain ⟨r1, e1, e2⟩ := e
  subst e2
  obtain ⟨ty, t1, t2⟩ := isiD_of r st'.sf ht e1
  exact ⟨v, .ty t, .type ty, .type t, r1, rfl, .ty t, t1, kit_ty t2, po'.ok st' (.bl _)⟩

/-! ## methods of texts -/
def Mf.nm : Mf → Str
  | .startswith => "startswith" | .endswith => "endswith" | .isdigit => "isdigit" | .split => "split" | .partition => "partition" | .join => "join" | .index => "index" | .get => "get" | .count => "count"
/-- the receiver is no call of a bare name without arguments -/
def okBase : Expr → Bool
  | .Call (.Name _ _) [] [] _ => false
  | _ => true
theorem base_ok {o : Expr} {name : Str} {env : Env} (h : okBase o = true) (whole : Sem Value) : attributeBase o name env whole = whole := by
  unfold attributeBase
  split
  · simp [okBase] at h
  · rfl
/-- the promise of a method of texts, by the table -/
abbrev rMt (K : PySem.W.Frag) (m : Mf) : V → List V → Hp → VK → Prop := fun v vs H Q => ∃ x ds w d S xv W ρ σ, Stt K w ρ S σ H ∧ Rep K w.f w.ι x v ∧ Reps K w.f w.ι ds vs ∧ mtD m x ds = some d ∧ PoR K xv W (relE K) (.ok d S) w H ρ σ Q
def isTx (m : Mf) : Bool := match m with
  | .startswith | .endswith | .split | .partition | .join => true
  | _ => false
def Mf.id (m : Mf) : String := match m with
  | .startswith => "str.startswith" | .endswith => "str.endswith" | .split => "str.split" | .partition => "str.partition" | .join => "str.join" | .isdigit => "str.isdigit" | .index => "list.index" | .get => "dict.get" | .count => "list.count"
theorem strs_all {K : PySem.W.Frag} {H : Hp} {ι : List Addr} {ds : List D} {vs : List V} {ys : List Str} (r : Reps K H ι ds vs) (h : strsOf ds = some ys) : vs = ys.map V.str := Reps.strs r h
theorem mt_tx (m : Mf) (h : isTx m = true) : MtR X m.id (rMt X.K m) := by
  intro pins s σ H v vs u us Q I rv rvs hh
  obtain ⟨x, ds, w, d, S, xv, W, ρ, σ', st, rx, rp, e, po⟩ := hh
  cases m with
  | startswith =>
    cases rx with
    | str y =>
      cases rp with
      | nil => simp [mtD] at e
      | cons r t => cases t with
        | nil =>
          cases r with
          | str z => simp only [mtD, Option.some.injEq] at e; subst e; exact mt_startswith pins s σ H _ _ u us Q I rv rvs ⟨y, z, rfl, rfl, po.ok st (.bl _)⟩
          | _ => simp [mtD, insD] at e
        | cons _ _ => simp [mtD] at e
    | _ => simp [mtD, insD] at e
  | endswith =>
    cases rx with
    | str y =>
      cases rp with
      | nil => simp [mtD] at e
      | cons r t => cases t with
        | nil =>
          cases r with
          | str z => simp only [mtD, Option.some.injEq] at e; subst e; exact mt_endswith pins s σ H _ _ u us Q I rv rvs ⟨y, z, rfl, rfl, po.ok st (.bl _)⟩
          | _ => simp [mtD, insD] at e
        | cons _ _ => simp [mtD] at e
    | _ => simp [mtD, insD] at e
  | split =>
    cases rx with
    | str y =>
      cases rp with
      | nil => simp [mtD] at e
      | cons r t => cases t with
        | nil =>
          cases r with
          | str z =>
            simp only [mtD] at e
            split at e
            · rename_i hz
              cases e
              refine mt_split pins s σ H _ _ u us Q I rv rvs ⟨y, z, rfl, rfl, hz.1, by rw [sz_eq]; exact hz.2, fun p hp => ?_⟩
              exact po.newL st (Reps.ofStrs _) hp
            · cases e
          | _ => simp [mtD, insD] at e
        | cons _ _ => simp [mtD] at e
    | _ => simp [mtD, insD] at e
  | partition =>
    cases rx with
    | str y =>
      cases rp with
      | nil => simp [mtD] at e
      | cons r t => cases t with
        | nil =>
          cases r with
          | str z =>
            simp only [mtD] at e
            split at e
            · rename_i hz
              cases e
              refine mt_partition pins s σ H _ _ u us Q I rv rvs ⟨y, z, rfl, rfl, hz.1, by rw [sz_eq]; exact hz.2, fun p hp => ?_⟩
              exact po.newT st (.cons (.str _) (.cons (.str _) (.cons (.str _) .nil))) hp
            · cases e
          | _ => simp [mtD, insD] at e
        | cons _ _ => simp [mtD] at e
    | _ => simp [mtD, insD] at e
  | join =>
    cases rx with
    | str y =>
      cases rp with
      | nil => simp [mtD] at e
      | cons r t => cases t with
        | nil =>
          cases r with
          | lst s1 q1 =>
            simp only [mtD, Option.bind_eq_some_iff] at e
            obtain ⟨ys, e1, e2⟩ := e
            split at e2
            · rename_i hz
              cases e2
              have := strs_all q1 e1
              subst this
              exact mt_join pins s σ H _ _ u us Q I rv rvs ⟨y, _, ys, rfl, rfl, .inl (st.sf.seq s1), hz, po.ok st (.str _)⟩
            · cases e2
          | _ => simp [mtD, insD] at e
        | cons _ _ => simp [mtD] at e
    | _ => simp [mtD, insD] at e
  | _ => cases h
theorem s_mt1 (m : Mf) (hm : isTx m = true) {apos : Pos} {x : Str} (hx : x = m.nm) (ha : PEr X g W a ea) (hb : PAr X g W [b] ets) (hs : notStar b = true) (hB : okBase a = true) (hl : (apos.endLine == pos.line) = true) :
    PEr X g W (.Call (.Attribute a x apos) [b] [] pos) fun ρ S => (ea ρ S).bind fun x S => if rcvOk m x = true then (ets ρ S).bind fun ds S => lift (mtD m x ds) S else .bad := by
  subst hx
  have hb0 := base_ok (env := X.env) (name := m.nm) hB (eval a X.env)
  have few : ((backTo pos (starEach [b] X.env)).all (fun x => !x.1) && (backToKw pos (keywordEach [] X.env)).all (fun x => x.1.isSome) && decide ([b].length + ([] : List Keyword).length + (if ([] : List Keyword).isEmpty then 0 else 1) < 30)) = true := by
    rw [star_all [b] X.env pos (by rw [List.all_cons, hs]; rfl)]; rfl
  have key : PE X (.Call (.Attribute a m.nm apos) [b] [] pos) (tBM X.K "str" (rMt X.K m) (rd X.K g.xv W (relE X.K) ea) (rd X.K g.xv W (relL X.K) ets)) := by
    have rule := mt_tx (X := X) m hm
    cases m with
    | startswith => exact pe_bm F.plainAttrs_str F.slot_str_startswith F.type_str_startswith rule ha hb hb0 few hl (star_one hs) rfl
    | endswith => exact pe_bm F.plainAttrs_str F.slot_str_endswith F.type_str_endswith rule ha hb hb0 few hl (star_one hs) rfl
    | split => exact pe_bm F.plainAttrs_str F.slot_str_split F.type_str_split rule ha hb hb0 few hl (star_one hs) rfl
    | partition => exact pe_bm F.plainAttrs_str F.slot_str_partition F.type_str_partition rule ha hb hb0 few hl (star_one hs) rfl
    | join => exact pe_bm F.plainAttrs_str F.slot_str_join F.type_str_join rule ha hb hb0 few hl (star_one hs) rfl
    | _ => cases hm
  refine pe_le key ?_
  rintro σ H Q ⟨w, ρ, S, st, po⟩
  refine ⟨w, ρ, S, st, PoR.seq po fun x S' v w' H' _ _ st' r po' => ?_⟩
  have po' : PoR X.K g.xv W (relE X.K) (if rcvOk m x = true then (ets ρ S').bind fun ds S => lift (mtD m x ds) S else .bad) w' H' ρ σ Q := po'
  by_cases hr : rcvOk m x = true
  · rw [if_pos hr] at po'
    refine ⟨?_, w', ρ, S', st', PoR.seq po' fun ds S2 us w2 H2 _ x2 st2 r2 po2 => ?_⟩
    · cases r with
      | str y => rfl
      | _ => cases m <;> first | (simp [rcvOk, insD] at hr; done) | cases hm
    · obtain ⟨dd, e1, po2⟩ := po2.lift
      exact ⟨x, ds, w2, dd, S2, g.xv, W, ρ, σ, st2, x2.rep r, r2, e1, po2⟩
  · rw [if_neg hr] at po'; exact False.elim po'
theorem s_mt0 {apos : Pos} {x : Str} (hx : x = Mf.isdigit.nm) (ha : PEr X g W a ea) (hB : okBase a = true) (hl : (apos.endLine == pos.line) = true) :
    PEr X g W (.Call (.Attribute a x apos) [] [] pos) fun ρ S => (ea ρ S).bind fun x S => if rcvOk .isdigit x = true then (R.ok [] S).bind fun ds S => lift (mtD .isdigit x ds) S else .bad := by
  subst hx
  refine pe_le (pe_bm0 F.plainAttrs_str F.slot_str_isdigit F.type_str_isdigit mt_isdigit ha (base_ok hB _) hl) ?_
  rintro σ H Q ⟨w, ρ, S, st, po⟩
  refine ⟨w, ρ, S, st, PoR.seq po fun x S' v w' H' _ _ st' r po' => ?_⟩
  have po' : PoR X.K g.xv W (relE X.K) (if rcvOk .isdigit x = true then lift (mtD .isdigit x []) S' else .bad) w' H' ρ σ Q := po'
  cases r with
  | str y => exact ⟨rfl, y, rfl, rfl, trivial, PoR.ok (show PoR X.K g.xv W (relE X.K) (.ok (.bool (Txt.isdigit y)) S') w' H' ρ σ Q from po') st' (.bl _)⟩
  | _ => exact False.elim po'

/-! ## calls of the program's own functions -/
/-- a cell that a callee hands over is given up -/
theorem give_own {K : PySem.W.Frag} {w w' : Wd} {H H' : Hp} {S' : Hs} {d : D} {v : V} (x : Ext w H w' H') (st : Stt K w' [] S' [] H') (ho : OwnV K w' H H' d v) : ∃ w'', Ext w H w'' H' ∧ Stt K w'' [] S' [] H' ∧ Rep K w''.f w''.ι d v := by
  obtain ⟨a, rfl, h0, hf, hg, xs, vs, rfl, hc, rp⟩ := ho
  have x2 := Ext.give st hc hf hg x h0
  refine ⟨w'.add a (.lst vs), x2, ⟨fun b u e => ?_, st.sg, fun b e => ?_, GOk.mono (same_upd hf) rfl rfl st.ob, rfl, fun i d h => by simp at h, fun i d h => by simp at h, fun i j d e b h => by simp at h⟩, .lst (SqL.of add_at) (Reps.mono (same_upd hf) (fun _ _ h => h) rp)⟩
  · have e : upd w'.f a (.lst vs) b = some u := e
    by_cases z : b = a
    · subst z; rw [upd_same] at e; cases e; exact hc
    · rw [upd_ne z] at e; exact st.sf _ _ e
  · have e : upd w'.f a (.lst vs) b ≠ none := e
    by_cases z : b = a
    · subst z; exact hg
    · rw [upd_ne z] at e; exact st.dj b e
theorem poC_of {K : PySem.W.Frag} {xv : Str → Value} {W : WXs} {r : R (Bool × D)} {w : Wd} {H : Hp} {ρ : List Sl} {S : Hs} {σ : SV} {Q : VK} (st : Stt K w ρ S σ H) (po : PoR K xv W (relE K) (r.bind fun r S => .ok r.2 S) w H ρ σ Q) : PoC K xv r w H Q (WE W σ) := by
  cases r with
  | ok od S' =>
    obtain ⟨o, d⟩ := od
    intro v w' H' x st' hF hT
    cases o with
    | false => exact po v w' H' x (st.carry x st') (hF rfl)
    | true =>
      obtain ⟨w'', x2, st2, r2⟩ := give_own x st' (hT rfl)
      exact po v w'' H' x2 (st.carry x2 st2) r2
  | exc c S' => exact fun w' H' x st' => po w' H' x (st.carry x st')
  | bad => exact po
theorem s_call {x : Str} {fd : Fd} (c : Cok X g k cl lvl W) (hf : findF g.p.fs x = some fd) (hg : k.isGl x = true) (hn : okNm x = true) (ha : PAr X g W (e :: es) ets) (hs : (e :: es).all notStar = true)
    (hl : ∀ ρ S ds S', ets ρ S = .ok ds S' → ds.length = fd.np) : PEr X g W (.Call (.Name x p) (e :: es) [] pos) fun ρ S => (ets ρ S).bind fun ds S => (cl x ds S).bind fun r S => .ok r.2 S := by
  have hs' := hs
  rw [List.all_cons, Bool.and_eq_true] at hs'
  obtain ⟨fa, fdd, ps, h1, h2, h3, h4, h5⟩ := (c.gl.fns x fd hf).ex
  refine pe_le (pe_callS h5 c.rm0 (c.isGl hg) h1 h2 h3 (fun σ => passAt c.tk σ) ha (okNm_of hn).1 (star_one hs'.1) (star_none es _ _ hs'.2)) ?_
  rintro σ H Q ⟨w, ρ, S, st, po⟩
  refine ⟨w, ρ, S, st, PoR.seq po fun ds S' vs w' H' e1 _ st' r po' => ?_⟩
  have r : Reps X.K w'.f w'.ι ds vs := r
  exact ⟨ds, S', w', by rw [← r.length]; exact hl _ _ _ _ e1, r, st'.bare, poC_of st' po'⟩
/-- a call whose result is held alone -/
theorem s_call0 {x : Str} {fd : Fd} (c : Cok X g k cl lvl W) (hf : findF g.p.fs x = some fd) (hg : k.isGl x = true) (hn : okNm x = true) (h0 : fd.np = 0) : PEr X g W (.Call (.Name x p) [] [] pos) fun ρ S => (R.ok [] S).bind fun ds S => (cl x ds S).bind fun r S => .ok r.2 S := by
  obtain ⟨fa, fdd, ps, h1, h2, h3, h4, h5⟩ := (c.gl.fns x fd hf).ex
  have key : PE X (.Call (.Name x p) [] [] pos) (tCallS (spC X.K g.xv cl fd.np x) (WE W) tNil) := by
    refine ⟨fun pins s σ H Q I h => ?_⟩
    refine wpAny_Call_Name_kw (ld_glob I (c.isGl hg) h1 ?_ (okNm_of hn).1)
    exact PySem.W.callWith_K0 I.kIn h2 (run_fnS h5 c.rm0 h3 (passAt c.tk σ) I (vs := []) .nil h)
  refine pe_le key ?_
  rintro σ H Q ⟨w, ρ, S, st, po⟩
  exact ⟨[], S, w, by rw [h0]; rfl, .nil, st.bare, poC_of st po⟩
end
end FW

namespace FW
open PySem PySem.W PySem.Spec L2

/-! ## a cell is frozen -/
def frz1 (r : List Sl) (i : Nat) : List Sl := match r[i]? with | some s => r.set i (frzSl s) | none => r
theorem frzL_cons (i : Nat) (is : List Nat) (ρ : List Sl) : frzL (i :: is) ρ = frzL is (frz1 ρ i) := rfl
theorem frz1_len (ρ : List Sl) (i : Nat) : (frz1 ρ i).length = ρ.length := by
  unfold frz1; split <;> simp
theorem frz1_own {ρ : List Sl} {i j : Nat} {d : D} (h : (frz1 ρ i)[j]? = some (.own d)) : ρ[j]? = some (.own d) ∧ j ≠ i := by
  unfold frz1 at h
  split at h
  · rename_i s e
    by_cases z : j = i
    · subst z
      rw [List.getElem?_set_self (List.getElem?_eq_some_iff.mp e).1] at h
      cases s <;> simp [frzSl] at h
    · rw [List.getElem?_set_ne (Ne.symm z)] at h; exact ⟨h, z⟩
  · rename_i e
    refine ⟨h, fun z => ?_⟩
    subst z; rw [e] at h; cases h
theorem frz1_fz {ρ : List Sl} {i j : Nat} {d : D} (h : (frz1 ρ i)[j]? = some (.fz d)) : ρ[j]? = some (.fz d) ∨ (j = i ∧ ρ[j]? = some (.own d)) := by
  unfold frz1 at h
  split at h
  · rename_i s e
    by_cases z : j = i
    · subst z
      rw [List.getElem?_set_self (List.getElem?_eq_some_iff.mp e).1] at h
      cases s with
      | no => simp [frzSl] at h
      | fz d' => simp [frzSl] at h; subst h; exact .inl e
      | own d' => simp [frzSl] at h; subst h; exact .inr ⟨rfl, e⟩
    · rw [List.getElem?_set_ne (Ne.symm z)] at h; exact .inl h
  · exact .inl h
section
variable {K : PySem.W.Frag} {w w' : Wd} {H H' : Hp} {ρ : List Sl} {S S' : Hs} {σ : SV}
theorem Stt.frzA (s : Stt K w ρ S σ H) (i : Nat) : ∃ w1, Stt K w1 (frz1 ρ i) S σ H ∧ Same w.f w1.f ∧ w1.g = w.g ∧ w1.ι = w.ι ∧ ∀ a, w1.f a ≠ none → w.f a ≠ none ∨ ∃ (i : Nat) (d : D), ρ[i]? = some (Sl.own d) ∧ σ[i]? = some (some (V.ref a)) := by
  by_cases h : ∃ d, ρ[i]? = some (.own d)
  · obtain ⟨d, hd⟩ := h
    obtain ⟨a, e, hf, hg, xs, vs, rfl, hc, rp⟩ := s.ow i d hd
    have sm : Same w.f (w.add a (.lst vs)).f := same_upd hf
    refine ⟨w.add a (.lst vs), ⟨fun b u z => ?_, s.sg, fun b z => ?_, GOk.mono sm rfl rfl s.ob, by rw [frz1_len]; exact s.len, fun j d' h' => ?_, fun j d' h' => ?_, fun j l d' e' b h1 h2 h3 h4 => ?_⟩, sm, rfl, rfl, fun b z => ?_⟩
    · have z : upd w.f a (.lst vs) b = some u := z
      by_cases q : b = a
      · subst q; rw [upd_same] at z; cases z; exact hc
      · rw [upd_ne q] at z; exact s.sf _ _ z
    · have z : upd w.f a (.lst vs) b ≠ none := z
      by_cases q : b = a
      · subst q; exact hg
      · rw [upd_ne q] at z; exact s.dj b z
    · rcases frz1_fz h' with h2 | ⟨q, h2⟩
      · obtain ⟨v, e1, r⟩ := s.sl j d' h2
        exact ⟨v, e1, Rep.mono sm (fun _ _ h => h) r⟩
      · subst q
        rw [hd] at h2; cases h2
        exact ⟨_, e, .lst (SqL.of add_at) (Reps.mono sm (fun _ _ h => h) rp)⟩
    · obtain ⟨h', nj⟩ := frz1_own h'
      obtain ⟨b, e1, f1, g1, c1⟩ := s.ow j d' h'
      have nb : b ≠ a := fun q => by
        subst q; exact nj (s.inj j i d' (.list xs) b h' hd e1 e)
      refine ⟨b, e1, ?_, g1, ?_⟩
      · show upd w.f a (.lst vs) b = none
        rw [upd_ne nb]; exact f1
      · obtain ⟨ys, us, e2, e3, r⟩ := c1
        exact ⟨ys, us, e2, e3, Reps.mono sm (fun _ _ h => h) r⟩
    · exact s.inj j l d' e' b (frz1_own h1).1 (frz1_own h2).1 h3 h4
    · have z : upd w.f a (.lst vs) b ≠ none := z
      by_cases q : b = a
      · subst q; exact .inr ⟨i, _, hd, e⟩
      · rw [upd_ne q] at z; exact .inl z
  · refine ⟨w, ⟨s.sf, s.sg, s.dj, s.ob, by rw [frz1_len]; exact s.len, fun j d' h' => ?_, fun j d' h' => s.ow j d' (frz1_own h').1, fun j l d' e' b h1 h2 => s.inj j l d' e' b (frz1_own h1).1 (frz1_own h2).1⟩, fun _ _ z => z, rfl, rfl, fun b z => .inl z⟩
    rcases frz1_fz h' with h3 | ⟨q, h2⟩
    · exact s.sl j d' h3
    · subst q; exact absurd ⟨d', h2⟩ h
theorem Stt.frzM (is : List Nat) : ∀ {w : Wd} {ρ : List Sl}, Stt K w ρ S σ H → ∃ w1, Stt K w1 (frzL is ρ) S σ H ∧ Same w.f w1.f ∧ w1.g = w.g ∧ w1.ι = w.ι ∧ ∀ a, w1.f a ≠ none → w.f a ≠ none ∨ ∃ (i : Nat) (d : D), ρ[i]? = some (Sl.own d) ∧ σ[i]? = some (some (V.ref a)) := by
  induction is with
  | nil => intro w ρ s; exact ⟨w, s, fun _ _ z => z, rfl, rfl, fun _ z => .inl z⟩
  | cons i is ih =>
    intro w ρ s
    obtain ⟨w1, s1, m1, g1, i1, o1⟩ := s.frzA i
    obtain ⟨w2, s2, m2, g2, i2, o2⟩ := ih s1
    refine ⟨w2, s2, fun b u z => m2 _ _ (m1 _ _ z), g2.trans g1, i2.trans i1, fun a z => ?_⟩
    rcases o2 a z with z | ⟨j, d, h1, h2⟩
    · exact o1 a z
    · exact .inr ⟨j, d, (frz1_own h1).1, h2⟩
/-- behind a look at frozen cells: everything as before -/
theorem Stt.look {w1 : Wd} {ρ₁ : List Sl} {σ₁ : SV} (s : Stt K w ρ S σ H) (sm : Same w.f w1.f) (hg : w1.g = w.g) (hi : w1.ι = w.ι) (x : Ext w1 H w' H') (s' : Stt K w' ρ₁ S σ₁ H') : Stt K w ρ S σ H' ∧ Ext w H w H' := by
  have kp : ∀ a o, H a = some o → w.g a = none → H' a = some o := fun a o h g => x.k a o h (by rw [hg]; exact g)
  refine ⟨⟨fun b u z => s'.sf _ _ (x.f _ _ (sm _ _ z)), fun b u z => ?_, s.dj, s.ob, s.len, s.sl, fun i d h => ?_, s.inj⟩, ⟨fun _ _ z => z, fun _ _ z => z, x.t, kp, fun a _ g f => ⟨f, g⟩, fun a z => .inl z, fun a z => z⟩⟩
  · have := s.ob.2.2 b; rw [this] at z; cases z
  · obtain ⟨a, e, hf, hgn, xs, vs, e1, e2, r⟩ := s.ow i d h
    exact ⟨a, e, hf, hgn, xs, vs, e1, kp _ _ e2 hgn, r⟩
theorem Rep.scal {ι ι' : List Addr} {d : D} {v : V} (h : scalar d = true) (r : Rep K H ι d v) : Rep K H' ι' d v := by
  cases r with
  | non => exact .non
  | bl b => exact .bl b
  | int i => exact .int i
  | str x => exact .str x
  | _ => simp [scalar, insD] at h
theorem bw_po {α β : Type} {xv : Str → Value} {W : WXs} {rel : α → Wd → β → Prop} {p : α → Prop} [DecidablePred p] {r : R α} {is : List Nat} {w1 : Wd} {Q : β → Hp → Prop} (s : Stt K w ρ S σ H) (sm : Same w.f w1.f) (hg : w1.g = w.g) (hi : w1.ι = w.ι)
    (hrel : ∀ a w' b, p a → rel a w' b → rel a w b)
    (po : PoR K xv W rel (match r with | .ok d S' => if p d ∧ S' = S then .ok d S else .bad | .exc x S' => if S' = S then .exc x S else .bad | .bad => .bad) w H ρ σ Q) : PoR K xv W rel r w1 H (frzL is ρ) σ Q := by
  cases r with
  | ok d S' =>
    have po : PoR K xv W rel (if p d ∧ S' = S then .ok d S else .bad) w H ρ σ Q := po
    by_cases h : p d ∧ S' = S
    · rw [if_pos h] at po
      obtain ⟨h1, h2⟩ := h
      subst h2
      intro b w' H' x s' r
      obtain ⟨s3, x3⟩ := s.look sm hg hi x s'
      exact po b w H' x3 s3 (hrel _ _ _ h1 r)
    · rw [if_neg h] at po; exact False.elim po
  | exc c S' =>
    have po : PoR K xv W rel (if S' = S then .exc c S else .bad) w H ρ σ Q := po
    by_cases h : S' = S
    · rw [if_pos h] at po
      subst h
      intro w' H' x s'
      obtain ⟨s3, x3⟩ := s.look sm hg hi x s'
      exact po w H' x3 s3
    · rw [if_neg h] at po; exact False.elim po
  | bad => exact po
end
section
variable {X : Cx} {g : Glo} {W : WXs} {a : Expr} {ea : List Sl → Hs → R D} {et : List Sl → Hs → R Bool}
theorem s_bw (is : List Nat) (ha : PEr X g W a ea) : PEr X g W a fun ρ S => match ea (frzL is ρ) S with
      | .ok d S' => if scalar d = true ∧ S' = S then .ok d S else .bad
      | .exc x S' => if S' = S then .exc x S else .bad
      | .bad => .bad := by
  refine pe_le ha ?_
  rintro σ H Q ⟨w, ρ, S, st, po⟩
  obtain ⟨w1, s1, m1, g1, i1, _⟩ := st.frzM is
  refine ⟨w1, frzL is ρ, S, s1, bw_po (p := fun d => scalar d = true) st m1 g1 i1 (fun a w' b h r => Rep.scal h r) ?_⟩
  dsimp only at po
  cases e : ea (frzL is ρ) S with
  | ok k S' => rw [e] at po; exact po
  | exc c S' => rw [e] at po; exact po
  | bad => rw [e] at po; exact False.elim po
theorem s_tbw (is : List Nat) (ha : PTr X g W a et) : PTr X g W a fun ρ S => match et (frzL is ρ) S with
      | .ok k S' => if S' = S then .ok k S else .bad
      | .exc x S' => if S' = S then .exc x S else .bad
      | .bad => .bad := by
  refine pt_le ha ?_
  rintro σ H Q ⟨w, ρ, S, st, po⟩
  obtain ⟨w1, s1, m1, g1, i1, _⟩ := st.frzM is
  refine ⟨w1, frzL is ρ, S, s1, bw_po (p := fun _ => True) st m1 g1 i1 (fun a w' b h r => r) ?_⟩
  dsimp only at po
  cases e : et (frzL is ρ) S with
  | ok k S' =>
    rw [e] at po
    dsimp only at po ⊢
    by_cases h : S' = S
    · rw [if_pos h] at po; rw [if_pos ⟨trivial, h⟩]; exact po
    · rw [if_neg h] at po; exact False.elim po
  | exc c S' => rw [e] at po; exact po
  | bad => rw [e] at po; exact False.elim po
end
end FW

namespace FW
open PySem PySem.W PySem.Spec L2

/-! ## a fresh list, held alone -/
def PoF (K : PySem.W.Frag) (xv : Str → Value) (W : WXs) (r : R D) (w : Wd) (H : Hp) (ρ : List Sl) (σ : SV) (Q : VK) : Prop := match r with
  | .ok d S' => ∀ v w' H', Ext w H w' H' → Stt K w' ρ S' σ H' → OwnV K w' H H' d v → Q v H'
  | .exc k S' => ∀ w' H', Ext w H w' H' → Stt K w' ρ S' σ H' → W (xv k) none σ H'
  | .bad => False
def rdF (K : PySem.W.Frag) (xv : Str → Value) (W : WXs) (ev : List Sl → Hs → R D) (σ : SV) (H : Hp) (Q : VK) : Prop :=
  ∃ w ρ S, Stt K w ρ S σ H ∧ PoF K xv W (ev ρ S) w H ρ σ Q
abbrev PFr (X : Cx) (g : Glo) (W : WXs) (e : Expr) (ev : List Sl → Hs → R D) : Prop := PE X e (rdF X.K g.xv W ev)
section
variable {K : PySem.W.Frag} {xv : Str → Value} {W : WXs} {α β γ δ : Type} {rel : α → Wd → β → Prop} {w w' : Wd} {H H' : Hp} {ρ : List Sl} {σ : SV} {S S' : Hs}
theorem OwnV.back {H0 H1 : Hp} {d : D} {v : V} (h : OwnV K w H1 H d v) (t : ∀ a, H0 a ≠ none → H1 a ≠ none) : OwnV K w H0 H d v := by
  obtain ⟨a, e, h0, hf, hg, c⟩ := h
  refine ⟨a, e, ?_, hf, hg, c⟩
  cases z : H0 a with
  | none => rfl
  | some o => exact absurd h0 (t a (by rw [z]; simp))
theorem PoF.shift {r : R D} {Q : VK} (x : Ext w H w' H') (po : PoF K xv W r w H ρ σ Q) : PoF K xv W r w' H' ρ σ Q := by
  cases r with
  | ok a S => exact fun b w2 H2 y s o => po b w2 H2 (x.trans y) s (o.back x.t)
  | exc k S => exact fun w2 H2 y => po w2 H2 (x.trans y)
  | bad => exact po
theorem PoF.seq {r : R α} {f : α → Hs → R D} {Q : VK} {Q' : β → Hp → Prop} (po : PoF K xv W (r.bind f) w H ρ σ Q)
    (h : ∀ a S' b w' H', r = .ok a S' → Ext w H w' H' → Stt K w' ρ S' σ H' → rel a w' b → PoF K xv W (f a S') w' H' ρ σ Q → Q' b H') : PoR K xv W rel r w H ρ σ Q' := by
  cases r with
  | ok a S => exact fun b w2 H2 y s r => h a S b w2 H2 rfl y s r (PoF.shift y po)
  | exc k S => exact po
  | bad => exact po
theorem PoF.lift {o : Option D} {Q : VK} (po : PoF K xv W (FW.lift o S) w H ρ σ Q) : ∃ a, o = some a ∧ PoF K xv W (.ok a S) w H ρ σ Q := by
  cases o with
  | none => exact False.elim po
  | some a => exact ⟨a, rfl, po⟩
/-- held alone, then given up -/
theorem PoR.toF {r : R D} {Q : VK} (st : Stt K w ρ S σ H) (po : PoR K xv W (relE K) r w H ρ σ Q) : PoF K xv W r w H ρ σ Q := by
  cases r with
  | ok d S' =>
    intro v w' H' x st' ho
    obtain ⟨w'', x2, st2, r2⟩ := give_own x st'.bare ho
    exact po v w'' H' x2 (st.carry x2 st2) r2
  | exc k S' => exact po
  | bad => exact po
theorem Ext.new {p : Addr} {o : HO} (s : Stt K w ρ S σ H) (h : H p = none) : Ext w H w (upd H p o) where
  f := fun _ _ e => e
  i := fun _ _ e => e
  t := fun a e => by
    by_cases z : a = p
    · subst z; exact absurd h e
    · rw [upd_ne z]; exact e
  k := fun a u e _ => same_upd h a u e
  n := fun a e g f => ⟨f, g⟩
  q := fun a e => .inl e
  m := fun a e => e
theorem Stt.new {p : Addr} {o : HO} (s : Stt K w ρ S σ H) (h : H p = none) : Stt K w ρ S σ (upd H p o) :=
  s.carry (ρ₁ := []) (σ₁ := []) (Ext.new s h) ⟨fun b u e => same_upd h b u (s.sf b u e), fun b u e => same_upd h b u (s.sg b u e), s.dj, s.ob, rfl, fun i d z => by simp at z, fun i d z => by simp at z, fun i j d e a z => by simp at z⟩
theorem PoF.newL {ds : List D} {vs : List V} {Q : VK} (po : PoF K xv W (.ok (.list ds) S) w H ρ σ Q) (st : Stt K w ρ S σ H) (r : Reps K w.f w.ι ds vs) {p : Addr} (hp : H p = none) : Q (.ref p) (upd H p (.lst vs)) :=
  po (.ref p) w _ (Ext.new st hp) (st.new hp) ⟨p, rfl, hp, (st.free_f hp).1, (st.free_f hp).2, ds, vs, rfl, upd_same, r⟩
end
section
variable {X : Cx} {g : Glo} {k : Ck} {cl : Cl} {lvl : Nat} {W : WXs} {a b d e : Expr} {pos p : Pos} {ea eb ed : List Sl → Hs → R D} {es : List Expr} {ets : List Sl → Hs → R (List D)} {et eu : List Sl → Hs → R Bool}
theorem f_lst (ha : PAr X g W es ets) : PFr X g W (.List es pos) fun ρ S => (ets ρ S).bind fun ds S => if ds.length ≤ 16777216 then .ok (.list ds) S else .bad := by
  refine pe_le (pe_lst ha) ?_
  rintro σ H Q ⟨w, ρ, S, st, po⟩
  refine ⟨w, ρ, S, st, PoF.seq po fun x S' v w' H' _ _ st' r po' => ?_⟩
  have r : Reps X.K w'.f w'.ι x v := r
  by_cases hz : x.length ≤ 16777216
  · rw [if_pos hz] at po'
    exact ⟨by rw [← r.length, sz_eq]; exact hz, fun p hp => po'.newL st' r hp⟩
  · rw [if_neg hz] at po'; exact False.elim po'
/-- what gives a list only -/
theorem f_slc {lo hi : Option Expr} {p2 : Pos} {el eh : List Sl → Hs → R (Option Int)} (ha : PEr X g W a ea) (hl : POr X g W lo el) (hh : POr X g W hi eh) :
    PFr X g W (.Subscript a (.Slice lo hi none p2) pos) fun ρ S => ((ea ρ S).bind fun x S => (el ρ S).bind fun l S => (eh ρ S).bind fun h S => lift (slD x l h) S).bind fun d S => if isLst d = true then .ok d S else .bad := by
  refine pe_le (pe_slice sl_list ha hl hh) ?_
  rintro σ H Q ⟨w, ρ, S, st, po⟩
  dsimp only at po
  rw [R.bind_assoc] at po
  refine ⟨w, ρ, S, st, PoF.seq po fun x S' v w' H' _ _ st' r po' => ?_⟩
  rw [R.bind_assoc] at po'
  refine ⟨w', ρ, S', st', PoF.seq po' fun l S2 l' w2 H2 _ x2 st2 e2 po2 => ?_⟩
  rw [R.bind_assoc] at po2
  refine ⟨w2, ρ, S2, st2, PoF.seq po2 fun h S3 h' w3 H3 _ x3 st3 e3 po3 => ?_⟩
  cases (show l = l' from e2)
  cases (show h = h' from e3)
  have r : Rep X.K w3.f w3.ι x v := x3.rep (x2.rep r)
  cases r with
  | lst s1 q1 => exact ⟨_, _, rfl, st3.sf.seq s1, fun p hp => PoF.newL (show PoF X.K g.xv W (.ok (.list (cutL _ l h)) S3) w3 H3 ρ σ Q from po3) st3 (cutL_reps l h q1) hp⟩
  | str z =>
    simp only [slD] at po3
    split at po3 <;> exact False.elim po3
  | _ => exact False.elim po3
theorem f_add (ha : PEr X g W a ea) (hb : PEr X g W b eb) : PFr X g W (.BinOp a .Add b pos) fun ρ S => ((ea ρ S).bind fun x S => (eb ρ S).bind fun y S => lift (binD .add x y) S).bind fun d S => if isLst d = true then .ok d S else .bad := by
  refine pe_le (pe_op op_catG ha hb) ?_
  rintro σ H Q ⟨w, ρ, S, st, po⟩
  dsimp only at po
  rw [R.bind_assoc] at po
  refine ⟨w, ρ, S, st, PoF.seq po fun x S' v w' H' _ _ st' r po' => ?_⟩
  rw [R.bind_assoc] at po'
  refine ⟨w', ρ, S', st', PoF.seq po' fun y S2 u w2 H2 _ x2 st2 r2 po2 => ?_⟩
  have r : Rep X.K w2.f w2.ι x v := x2.rep r
  have r2 : Rep X.K w2.f w2.ι y u := r2
  obtain ⟨dd, e1, e2⟩ : ∃ dd, binD .add x y = some dd ∧ isLst dd = true := by
    cases e : binD .add x y with
    | none => rw [e] at po2; exact False.elim po2
    | some dd =>
      refine ⟨dd, rfl, ?_⟩
      cases z : isLst dd with
      | true => rfl
      | false =>
        rw [e] at po2
        have po2 : PoF X.K g.xv W (if isLst dd = true then .ok dd S2 else .bad) w2 H2 ρ σ Q := po2
        rw [z] at po2
        exact False.elim po2
  rw [e1] at po2
  have po2 : PoF X.K g.xv W (if isLst dd = true then .ok dd S2 else .bad) w2 H2 ρ σ Q := po2
  rw [if_pos e2] at po2
  cases r with
  | lst s1 q1 =>
    cases r2 with
    | lst s2 q2 =>
      simp only [binD] at e1
      split at e1
      · rename_i hz
        cases e1
        exact ⟨_, _, _, _, rfl, rfl, st2.sf.seq s1, st2.sf.seq s2, by rw [← q1.length, ← q2.length, sz_eq]; exact hz, fun p hp => po2.newL st2 (q1.append q2) hp⟩
      · cases e1
    | _ => simp [binD, insD] at e1
  | int i =>
    cases r2 with
    | int j => cases e1; cases e2
    | _ => simp [binD, insD] at e1
  | str i =>
    cases r2 with
    | str j =>
      simp only [binD] at e1
      split at e1
      · cases e1; cases e2
      · cases e1
    | _ => simp [binD, insD] at e1
  | tup s1 r1 =>
    cases r2 with
    | tup s2 r2 =>
      simp only [binD] at e1
      split at e1
      · cases e1; cases e2
      · cases e1
    | _ => simp [binD, insD] at e1
  | _ => simp [binD, insD] at e1
theorem f_mul (ha : PEr X g W a ea) (hb : PEr X g W b eb) : PFr X g W (.BinOp a .Mult b pos) fun ρ S => ((ea ρ S).bind fun x S => (eb ρ S).bind fun y S => lift (binD .mul x y) S).bind fun d S => if isLst d = true then .ok d S else .bad := by
  refine pe_le (pe_op op_repG ha hb) ?_
  rintro σ H Q ⟨w, ρ, S, st, po⟩
  dsimp only at po
  rw [R.bind_assoc] at po
  refine ⟨w, ρ, S, st, PoF.seq po fun x S' v w' H' _ _ st' r po' => ?_⟩
  rw [R.bind_assoc] at po'
  refine ⟨w', ρ, S', st', PoF.seq po' fun y S2 u w2 H2 _ x2 st2 r2 po2 => ?_⟩
  have r : Rep X.K w2.f w2.ι x v := x2.rep r
  have r2 : Rep X.K w2.f w2.ι y u := r2
  cases r with
  | lst s1 r1 =>
    cases r2 with
    | int j =>
      simp only [binD] at po2
      split at po2
      · rename_i hz
        exact ⟨_, j, _, rfl, rfl, st2.sf.seq s1, by omega, by omega, by rw [← r1.length, sz_eq]; exact hz.2.2, fun p hp => PoF.newL (show PoF X.K g.xv W (.ok (.list _) S2) w2 H2 ρ σ Q from po2) st2 (r1.rep j.toNat) hp⟩
      · exact False.elim po2
    | _ => exact False.elim po2
  | int i =>
    cases r2 with
    | int j =>
      simp only [binD] at po2
      split at po2 <;> exact False.elim po2
    | _ => exact False.elim po2
  | _ => cases r2 <;> exact False.elim po2
theorem f_call {x : Str} {fd : Fd} (c : Cok X g k cl lvl W) (hf : findF g.p.fs x = some fd) (hg : k.isGl x = true) (hn : okNm x = true) (ha : PAr X g W (e :: es) ets) (hs : (e :: es).all notStar = true)
    (hl : ∀ ρ S ds S', ets ρ S = .ok ds S' → ds.length = fd.np) : PFr X g W (.Call (.Name x p) (e :: es) [] pos) fun ρ S => (ets ρ S).bind fun ds S => (cl x ds S).bind fun r S => if r.1 = true then .ok r.2 S else .bad := by
  have hs' := hs
  rw [List.all_cons, Bool.and_eq_true] at hs'
  obtain ⟨fa, fdd, ps, h1, h2, h3, h4, h5⟩ := (c.gl.fns x fd hf).ex
  refine pe_le (pe_callS h5 c.rm0 (c.isGl hg) h1 h2 h3 (fun σ => passAt c.tk σ) ha (okNm_of hn).1 (star_one hs'.1) (star_none es _ _ hs'.2)) ?_
  rintro σ H Q ⟨w, ρ, S, st, po⟩
  refine ⟨w, ρ, S, st, PoF.seq po fun ds S' vs w' H' e1 _ st' r po' => ?_⟩
  have r : Reps X.K w'.f w'.ι ds vs := r
  refine ⟨ds, S', w', by rw [← r.length]; exact hl _ _ _ _ e1, r, st'.bare, ?_⟩
  cases e2 : cl x ds S' with
  | ok od S2 =>
    obtain ⟨o, d⟩ := od
    rw [e2] at po'
    cases o with
    | false => exact False.elim po'
    | true => exact fun v w2 H2 x2 st2 _ hT => (show PoF X.K g.xv W (.ok d S2) w' H' ρ σ Q from po') v w2 H2 x2 (st'.carry x2 st2) (hT rfl)
  | exc kk S2 =>
    rw [e2] at po'
    exact fun w2 H2 x2 st2 => po' w2 H2 x2 (st'.carry x2 st2)
  | bad => rw [e2] at po'; exact po'
/-- list(..), sorted(..): new lists -/
theorem call_biF (f : Bf) (hf : f = .list ∨ f = .sorted) (hu : X.A.units + 100 < cLine) : CallR X f.val (fun vs H Q => ∃ ds w d S xv W ρ σ, Stt X.K w ρ S σ H ∧ Reps X.K w.f w.ι ds vs ∧ biD f ds = some d ∧ PoF X.K xv W (.ok d S) w H ρ σ Q) := by
  intro pins s σ H vs us Q I rv h
  obtain ⟨ds, w, d, S, xv, W, ρ, σ', st, rp, e, po⟩ := h
  cases rp with
  | nil => rcases hf with rfl | rfl <;> cases e
  | cons r t => cases t with
    | nil =>
      rcases hf with rfl | rfl
      · cases r with
        | lst s1 q1 =>
          simp only [biD, Option.some.injEq] at e; subst e
          exact call_list_of pins s σ H _ us Q I rv ⟨_, _, rfl, .inl (st.sf.seq s1), fun p hp => po.newL st q1 hp⟩
        | tup s1 q1 =>
          simp only [biD, Option.some.injEq] at e; subst e
          exact call_list_of pins s σ H _ us Q I rv ⟨_, _, rfl, .inr (Same.seqT st.sf s1), fun p hp => po.newL st q1 hp⟩
        | _ => simp [biD, insD] at e
      · cases r with
        | lst s1 q1 =>
          simp only [biD] at e
          split at e
          · rename_i hz
            cases e
            exact call_sorted hu pins s σ H _ us Q I rv ⟨_, _, _, w.f, w.ι, rfl, st.sf.seq s1, st.sf, q1, hz, fun out p h1 h2 => po.newL st h1 h2⟩
          · cases e
        | _ => simp [biD, insD] at e
    | cons _ _ => rename_i d1 _ _ _ _ _ _ _; rcases hf with rfl | rfl <;> (cases d1 <;> cases e)
theorem f_bi (f : Bf) (hf : f = .list ∨ f = .sorted) {x : Str} (c : Cok X g k cl lvl W) (hx : x = f.nm) (hg : k.isGl x = true) (ha : PAr X g W (e :: es) ets) (hs : (e :: es).all notStar = true) : PFr X g W (.Call (.Name x p) (e :: es) [] pos) fun ρ S => ((ets ρ S).bind fun ds S => lift (biD f ds) S).bind fun d S => if isLst d = true then .ok d S else .bad := by
  subst hx
  have hs' := hs
  rw [List.all_cons, Bool.and_eq_true] at hs'
  have hm := c.gl.blt _ (blt_val f).2
  have hb := (blt_val f).1
  have cr := call_biF (X := X) f hf c.un'
  have hl : ∀ ds d, biD f ds = some d → isLst d = true := by
    intro ds d h
    cases ds with
    | nil => rcases hf with rfl | rfl <;> cases h
    | cons a t => cases t with
      | nil => cases a with
        | list xs =>
          rcases hf with rfl | rfl
          · cases h; rfl
          · simp only [biD] at h
            split at h
            · cases h; rfl
            · cases h
        | tuple xs =>
          rcases hf with rfl | rfl
          · cases h; rfl
          · cases h
        | _ => rcases hf with rfl | rfl <;> cases h
      | cons _ _ => rcases hf with rfl | rfl <;> (cases a <;> cases h)
  have key : PE X (.Call (.Name f.nm p) (e :: es) [] pos) (tCB (fun vs H Q => ∃ ds w d S xv W ρ σ, Stt X.K w ρ S σ H ∧ Reps X.K w.f w.ι ds vs ∧ biD f ds = some d ∧ PoF X.K xv W (.ok d S) w H ρ σ Q) (rd X.K g.xv W (relL X.K) ets)) := by
    rcases hf with rfl | rfl
    · exact pe_callTy (by exact cr) (c.isGl hg) hm hb ha (by decide) (by decide) (star_one hs'.1) (star_none es _ _ hs'.2)
    · exact pe_callB (by exact cr) (c.isGl hg) hm hb ha (by decide) (by decide) (star_one hs'.1) (star_none es _ _ hs'.2)
  refine pe_le key ?_
  rintro σ H Q ⟨w, ρ, S, st, po⟩
  dsimp only at po
  rw [R.bind_assoc] at po
  refine ⟨w, ρ, S, st, PoF.seq po fun x S' v w' H' _ _ st' r po' => ?_⟩
  cases e1 : biD f x with
  | none => rw [e1] at po'; exact False.elim po'
  | some dd =>
    rw [e1] at po'
    have po' : PoF X.K g.xv W (if isLst dd = true then .ok dd S' else .bad) w' H' ρ σ Q := po'
    rw [if_pos (hl _ _ e1)] at po'
    exact ⟨x, w', dd, S', g.xv, W, ρ, σ, st', r, e1, po'⟩
end
end FW

namespace FW
open PySem PySem.W PySem.Spec L2

/-! ## what is walked -/
/-- the iterator gives these values, one by one, as long as what is frozen stands -/
def ItOk (J : L2.It) (f : Hp) (vs : List V) : Prop := ∀ H, Same f H → (∀ i x, vs[i]? = some x → J.go i H ∧ ∀ y H', J.yld i H y H' → H' = H ∧ y = x) ∧ J.stop vs.length H
def relIt (K : PySem.W.Frag) (ds : List D) (w : Wd) (J : L2.It) : Prop := ∃ vs, Reps K w.f w.ι ds vs ∧ ItOk J w.f vs
def rdI (K : PySem.W.Frag) (xv : Str → Value) (W : WXs) (ev : List Sl → Hs → R (List D)) : L2.TI := fun σ H Q => rd K xv W (relIt K) ev σ H Q
abbrev PIr (X : Cx) (g : Glo) (W : WXs) (tg it : Expr) (ev : List Sl → Hs → R (List D)) : Prop := PI X tg it (rdI X.K g.xv W ev)
theorem pi_le {X : Cx} {tg it : Expr} {t t' : L2.TI} (h : PI X tg it t) (m : ∀ σ H Q, t' σ H Q → t σ H Q) : PI X tg it t' := ⟨fun pins s σ H Q I q => h.run pins s σ H Q I (m σ H Q q)⟩
theorem pi_or {X : Cx} {tg it : Expr} {t t' : L2.TI} (h : PI X tg it t) (h' : PI X tg it t') : PI X tg it (fun σ H Q => t σ H Q ∨ t' σ H Q) := ⟨fun pins s σ H Q I q => q.elim (fun q => h.run pins s σ H Q I q) fun q => h'.run pins s σ H Q I q⟩
section
variable {X : Cx} {g : Glo} {k : Ck} {cl : Cl} {lvl : Nat} {W : WXs} {a b d e tg : Expr} {pos p : Pos} {ea eb ed : List Sl → Hs → R D} {es : List Expr} {ets : List Sl → Hs → R (List D)} {et eu : List Sl → Hs → R Bool}
theorem itOk_str (x : Str) (f : Hp) : ItOk (Its x) f (x.cps.toList.map fun c => .str ⟨#[c]⟩) := by
  intro H _
  refine ⟨fun i y h => ?_, ?_⟩
  · rw [List.getElem?_map, Option.map_eq_some_iff] at h
    obtain ⟨c, hc, e⟩ := h
    have hc' : x.cps[i]? = some c := by simpa using hc
    have hi : i < x.cps.size := (Array.getElem?_eq_some_iff.mp hc').1
    refine ⟨hi, fun z H' q => ?_⟩
    obtain ⟨q1, c', q2, q3⟩ := q
    rw [hc'] at q2; cases q2
    exact ⟨q1, q3.trans e⟩
  · show x.cps.size ≤ _
    simp
theorem itOk_rng (lo : Int) (n : Nat) (f : Hp) : ItOk (Itr lo n) f ((List.range n).map fun (i : Nat) => .int (lo + i)) := by
  intro H _
  refine ⟨fun i y h => ?_, ?_⟩
  · rw [List.getElem?_map, Option.map_eq_some_iff] at h
    obtain ⟨c, hc, e⟩ := h
    obtain ⟨hi, hc⟩ := List.getElem?_eq_some_iff.mp hc
    rw [List.getElem_range] at hc
    subst hc
    rw [List.length_range] at hi
    exact ⟨hi, fun z H' q => ⟨q.1, q.2.trans e⟩⟩
  · show n ≤ _
    simp
theorem reps_chars {K : PySem.W.Frag} {H : Hp} {ι : List Addr} : ∀ cs : List Nat, Reps K H ι (cs.map fun c => .str ⟨#[c]⟩) (cs.map fun c => .str ⟨#[c]⟩)
  | [] => .nil
  | c :: cs => .cons (.str _) (reps_chars cs)
theorem reps_ints {K : PySem.W.Frag} {H : Hp} {ι : List Addr} (lo : Int) : ∀ cs : List Nat, Reps K H ι (cs.map fun (c : Nat) => .int (lo + c)) (cs.map fun (c : Nat) => .int (lo + c))
  | [] => .nil
  | c :: cs => .cons (.int _) (reps_ints lo cs)
theorem itOk_list {K : PySem.W.Frag} {f : Hp} {l : Addr} {vs : List V} (h : SqL K f l vs) : ItOk (Itl K l) f vs := by
  intro H e
  have h' := e.seq h
  exact ⟨fun i y hy => ⟨⟨vs, y, h', hy⟩, fun z H' q => ⟨q.1, by have := q.2 vs h'; rw [hy] at this; exact (Option.some.inj this).symm⟩⟩, ⟨vs, h', Nat.le_refl _⟩⟩
theorem itOk_tup {K : PySem.W.Frag} {f : Hp} {l : Addr} {vs : List V} (h : SqT K f l vs) : ItOk (Itt K l) f vs := by
  intro H e
  have h' := Same.seqT e h
  exact ⟨fun i y hy => ⟨⟨vs, y, h', hy⟩, fun z H' q => ⟨q.1, by have := q.2 vs h'; rw [hy] at this; exact (Option.some.inj this).symm⟩⟩, ⟨vs, h', Nat.le_refl _⟩⟩
theorem PoR.okI {K : PySem.W.Frag} {xv : Str → Value} {dd : List D} {J : L2.It} {w : Wd} {H : Hp} {ρ : List Sl} {σ : SV} {S : Hs} {Q : L2.It → Hp → Prop} {vs : List V} (po : PoR K xv W (relIt K) (.ok dd S) w H ρ σ Q) (st : Stt K w ρ S σ H) (r : Reps K w.f w.ι dd vs) (i : ItOk J w.f vs) : Q J H := po J w H Ext.refl st ⟨vs, r, i⟩
theorem s_seq (ha : PEr X g W a ea) : PIr X g W tg a fun ρ S => (ea ρ S).bind fun d S => lift (itemsD d) S := by
  refine pi_le (pi_or (pi_list ha) (pi_or (pi_tup ha) (pi_str ha))) ?_
  rintro σ H Q ⟨w, ρ, S, st, po⟩
  dsimp only at po
  cases e : ea ρ S with
  | bad => rw [e] at po; exact False.elim po
  | exc c S' => rw [e] at po; left; exact ⟨w, ρ, S, st, by rw [e]; exact po⟩
  | ok d S' =>
    have mk : ∀ {Q' : VK}, (∀ v w' H', Ext w H w' H' → Stt X.K w' ρ S' σ H' → Rep X.K w'.f w'.ι d v → PoR X.K g.xv W (relIt X.K) (lift (itemsD d) S') w' H' ρ σ Q → Q' v H') → rd X.K g.xv W (relE X.K) ea σ H Q' := fun {Q'} h => by
      refine ⟨w, ρ, S, st, ?_⟩
      rw [e]
      rw [e] at po
      exact fun v w' H' x st' r => h v w' H' x st' r (PoR.shift x po)
    cases d with
    | list xs =>
      left
      refine mk fun v w' H' x st' r po' => ?_
      cases r with
      | lst s1 q1 => exact ⟨_, rfl, ⟨_, st'.sf.seq s1⟩, PoR.okI (show PoR X.K g.xv W (relIt X.K) (.ok xs S') w' H' ρ σ Q from po') st' q1 (itOk_list s1)⟩
    | tuple xs =>
      right; left
      refine mk fun v w' H' x st' r po' => ?_
      cases r with
      | tup s1 q1 => exact ⟨_, rfl, ⟨_, Same.seqT st'.sf s1⟩, PoR.okI (show PoR X.K g.xv W (relIt X.K) (.ok xs S') w' H' ρ σ Q from po') st' q1 (itOk_tup s1)⟩
    | str x =>
      right; right
      refine mk fun v w' H' y st' r po' => ?_
      cases r with
      | str _ => exact ⟨x, rfl, PoR.okI (show PoR X.K g.xv W (relIt X.K) (.ok (x.cps.toList.map fun c => .str ⟨#[c]⟩) S') w' H' ρ σ Q from po') st' (reps_chars _) (itOk_str x _)⟩
    | _ => rw [e] at po; exact False.elim po
theorem rangeD_of {a b : Int} {ds : List D} (h : rangeD a b = some ds) : (-(2 ^ 62) ≤ a ∧ a < 2 ^ 62 ∧ -(2 ^ 62) ≤ b ∧ b < 2 ^ 62) ∧ ds = (List.range (b - a).toNat).map fun (k : Nat) => .int (a + k) := by
  unfold rangeD at h
  split at h
  · rename_i hz; cases h; exact ⟨by omega, rfl⟩
  · cases h
theorem s_rg1 {x : Str} (c : Cok X g k cl lvl W) (hx : x = "range") (hg : k.isGl x = true) (ha : PAr X g W [a] ets) (hs : notStar a = true) (hev : ∀ ρ S, ets ρ S = (ea ρ S).bind fun d S => .ok [d] S) :
    PIr X g W tg (.Call (.Name x p) [a] [] pos) fun ρ S => (ea ρ S).bind fun d S => match d with | .int j => lift (rangeD 0 j) S | _ => .bad := by
  subst hx
  refine pi_le (pi_range1 (c.isGl hg) (c.gl.blt _ (by decide +kernel)) ha (star_one hs)) ?_
  rintro σ H Q ⟨w, ρ, S, st, po⟩
  dsimp only at po
  refine ⟨w, ρ, S, st, ?_⟩
  rw [hev]
  cases e : ea ρ S with
  | bad => rw [e] at po; exact False.elim po
  | exc cc S' => rw [e] at po; exact po
  | ok d S' =>
    rw [e] at po
    intro vs w' H' x st' r
    have r : Reps X.K w'.f w'.ι [d] vs := r
    cases r with
    | cons r1 t => cases t; cases r1 with
      | int j =>
        have po' := PoR.shift x po
        obtain ⟨ds, e1, po'⟩ := PoR.lift (show PoR X.K g.xv W (relIt X.K) (lift (rangeD 0 j) S') w' H' ρ σ Q from po')
        obtain ⟨hz, rfl⟩ := rangeD_of e1
        refine ⟨j, rfl, hz.2.2.1, hz.2.2.2, ?_⟩
        rw [Int.sub_zero] at po'
        exact po'.okI st' (reps_ints 0 _) (itOk_rng 0 j.toNat _)
      | _ => exact False.elim po
theorem s_rg2 {x : Str} (c : Cok X g k cl lvl W) (hx : x = "range") (hg : k.isGl x = true) (ha : PAr X g W [a, b] ets) (hs : notStar a = true) (hs2 : notStar b = true) (hev : ∀ ρ S, ets ρ S = (ea ρ S).bind fun d S => (eb ρ S).bind fun e S => .ok [d, e] S) :
    PIr X g W tg (.Call (.Name x p) [a, b] [] pos) fun ρ S => (ea ρ S).bind fun d S => (eb ρ S).bind fun e S => match d, e with | .int i, .int j => lift (rangeD i j) S | _, _ => .bad := by
  subst hx
  refine pi_le (pi_range2 (c.isGl hg) (c.gl.blt _ (by decide +kernel)) ha (by rw [star_one hs, star_one hs2]; rfl) (star_one hs2)) ?_
  rintro σ H Q ⟨w, ρ, S, st, po⟩
  dsimp only at po
  refine ⟨w, ρ, S, st, ?_⟩
  rw [hev]
  cases e : ea ρ S with
  | bad => rw [e] at po; exact False.elim po
  | exc cc S' => rw [e] at po; exact po
  | ok d S' =>
    rw [e] at po
    have po : PoR X.K g.xv W (relIt X.K) ((eb ρ S').bind fun y S => match (generalizing := false) d, y with | .int i, .int j => lift (rangeD i j) S | _, _ => .bad) w H ρ σ Q := po
    show PoR X.K g.xv W (relL X.K) ((eb ρ S').bind fun e S => .ok [d, e] S) w H ρ σ _
    cases e2 : eb ρ S' with
    | bad => rw [e2] at po; exact False.elim po
    | exc cc S2 => rw [e2] at po; exact po
    | ok d2 S2 =>
      rw [e2] at po
      intro vs w' H' x st' r
      have r : Reps X.K w'.f w'.ι [d, d2] vs := r
      have po' := PoR.shift x po
      cases r with
      | cons r1 t => cases t with
        | cons r2 t => cases t; cases r1 with
          | int i => cases r2 with
            | int j =>
              obtain ⟨ds, e1, po'⟩ := PoR.lift (show PoR X.K g.xv W (relIt X.K) (lift (rangeD i j) S2) w' H' ρ σ Q from po')
              obtain ⟨hz, rfl⟩ := rangeD_of e1
              exact ⟨i, j, rfl, hz, po'.okI st' (reps_ints i _) (itOk_rng i (j - i).toNat _)⟩
            | _ => exact False.elim po'
          | _ => cases r2 <;> exact False.elim po'
end
/-! ## targets -/
section
variable {K : PySem.W.Frag} {w : Wd} {H : Hp} {ρ : List Sl} {σ : SV} {S : Hs}
theorem Stt.setFz (s : Stt K w ρ S σ H) {d : D} {v : V} (r : Rep K w.f w.ι d v) (i : Nat) : Stt K w (ρ.set i (.fz d)) S (σ.set i (some v)) H where
  sf := s.sf
  sg := s.sg
  dj := s.dj
  ob := s.ob
  len := by simp [s.len]
  sl := fun j e h => by
    by_cases z : i = j
    · subst z
      by_cases hl : i < ρ.length
      · rw [List.getElem?_set_self hl] at h
        cases h
        exact ⟨v, by rw [List.getElem?_set_self (by rw [← s.len]; exact hl)], r⟩
      · rw [List.getElem?_eq_none (by simpa using hl)] at h; cases h
    · rw [List.getElem?_set_ne z] at h ⊢
      exact s.sl j e h
  ow := fun j e h => by
    by_cases z : i = j
    · subst z
      by_cases hl : i < ρ.length
      · rw [List.getElem?_set_self hl] at h; cases h
      · rw [List.getElem?_eq_none (by simpa using hl)] at h; cases h
    · rw [List.getElem?_set_ne z] at h ⊢
      exact s.ow j e h
  inj := fun j l e f a h1 h2 h3 h4 => by
    have out : ∀ {m : Nat} {e : D}, (ρ.set i (.fz d))[m]? = some (Sl.own e) → i ≠ m ∧ ρ[m]? = some (Sl.own e) := fun {m e} h => by
      by_cases z : i = m
      · subst z
        by_cases hl : i < ρ.length
        · rw [List.getElem?_set_self hl] at h; cases h
        · rw [List.getElem?_eq_none (by simpa using hl)] at h; cases h
      · rw [List.getElem?_set_ne z] at h; exact ⟨z, h⟩
    obtain ⟨n1, h1⟩ := out h1
    obtain ⟨n2, h2⟩ := out h2
    rw [List.getElem?_set_ne n1] at h3
    rw [List.getElem?_set_ne n2] at h4
    exact s.inj j l e f a h1 h2 h3 h4
theorem wipe1_own {ρ : List Sl} {i j : Nat} {s : Sl} (h : (ρ.set i .no)[j]? = some s) (hs : s ≠ .no) : ρ[j]? = some s := by
  by_cases z : i = j
  · subst z
    by_cases hl : i < ρ.length
    · rw [List.getElem?_set_self hl] at h; cases h; exact absurd rfl hs
    · rw [List.getElem?_eq_none (by simpa using hl)] at h; cases h
  · rw [List.getElem?_set_ne z] at h; exact h
theorem Stt.wipe1 (s : Stt K w ρ S σ H) (i : Nat) : Stt K w (ρ.set i .no) S σ H :=
  ⟨s.sf, s.sg, s.dj, s.ob, by simp [s.len], fun j d h => s.sl j d (wipe1_own h (by simp)), fun j d h => s.ow j d (wipe1_own h (by simp)), fun j l d e a h1 h2 => s.inj j l d e a (wipe1_own h1 (by simp)) (wipe1_own h2 (by simp))⟩
theorem Stt.wipeL (is : List Nat) : ∀ {ρ : List Sl}, Stt K w ρ S σ H → Stt K w (wipeL is ρ) S σ H := by
  induction is with
  | nil => intro ρ s; exact s
  | cons i is ih => intro ρ s; exact ih (s.wipe1 i)
theorem wipeL_own : ∀ (is : List Nat) {ρ : List Sl} {j : Nat} {s : Sl}, (FW.wipeL is ρ)[j]? = some s → s ≠ .no → ρ[j]? = some s
  | [], _, _, _, h, _ => h
  | i :: is, _, _, _, h, hs => wipe1_own (wipeL_own is (ρ := List.set _ i .no) h hs) hs
/-- slots given one after another, from the left -/
def setV : List Nat → List V → SV → SV
  | i :: is, v :: vs, σ => setV is vs (σ.set i (some v))
  | _, _, σ => σ
theorem Stt.setL (is : List Nat) : ∀ {ds : List D} {vs : List V} {ρ : List Sl} {σ : SV}, Stt K w ρ S σ H → Reps K w.f w.ι ds vs → Stt K w (setL is ds ρ) S (setV is vs σ) H := by
  induction is with
  | nil => intro ds vs ρ σ s r; cases ds <;> cases vs <;> exact s
  | cons i is ih =>
    intro ds vs ρ σ s r
    cases r with
    | nil => exact s
    | cons r t => exact ih (s.setFz r i) t
end
section
variable {X : Cx} {g : Glo} {k : Ck} {cl : Cl} {lvl : Nat} {W : WXs}
/-- the names of a target, as expressions -/
def ckNames (k : Ck) : List Expr → List Nat → Bool
  | [], [] => true
  | .Name x _ :: es, i :: is => decide (k.N[i]? = some x) && k.loc x && ckNames k es is
  | _, _ => false
def gSets : List Nat → TGs
  | [] => gNil
  | i :: is => gCons (gName i) (gSets is)
theorem pgs_names (c : Cok X g k cl lvl W) : ∀ (es : List Expr) (is : List Nat), ckNames k es is = true → PGs X es (gSets is) ∧ (assignEach es X.env).length = is.length ∧ (assignEach es X.env).findIdx? (·.1) = none
  | [], [], _ => ⟨pgs_nil, rfl, rfl⟩
  | .Name x p :: es, i :: is, h => by
    simp only [ckNames, Bool.and_eq_true, decide_eq_true_eq] at h
    obtain ⟨⟨h1, h2⟩, h3⟩ := h
    obtain ⟨a1, a2, a3⟩ := pgs_names c es is h3
    obtain ⟨l1, l2⟩ := c.loc h2
    refine ⟨pgs_cons (pg_name c.nd (by rw [c.N]; exact h1) l1 l2) a1 rfl, ?_, ?_⟩
    · show (_ :: assignEach es X.env).length = _
      rw [List.length_cons, List.length_cons, a2]
    · show List.findIdx? (·.1) ((false, _) :: assignEach es X.env) = none
      rw [List.findIdx?_cons]
      simp [a3]
  | [], _ :: _, h => by simp [ckNames] at h
  | e :: _, [], h => by cases e <;> simp [ckNames] at h
theorem gSets_of (is : List Nat) : ∀ {vs : List V} {σ : SV} {H : Hp} {Q : SV → Hp → Prop}, vs.length = is.length → Q (setV is vs σ) H → gSets is vs σ H Q := by
  induction is with
  | nil => intro vs σ H Q hl q; cases vs with
    | nil => exact ⟨rfl, q⟩
    | cons _ _ => cases hl
  | cons i is ih => intro vs σ H Q hl q; cases vs with
    | nil => cases hl
    | cons v vs => exact ⟨v, vs, rfl, ih (by simpa using hl) q⟩
def ckTg (k : Ck) : Tg → Expr → Bool
  | .one i, .Name x _ => decide (k.N[i]? = some x) && k.loc x
  | .many is, .Tuple es _ _ => ckNames k es is
  | _, _ => false
/-- a target's reading -/
def gTg (K : PySem.W.Frag) (tg : Tg) : L2.TG := fun v σ H Q => ∃ w d ρ S, Stt K w ρ S σ H ∧ Rep K w.f w.ι d v ∧ ∃ ρ', bindTg tg d ρ = some ρ' ∧ ∀ σ', Stt K w ρ' S σ' H → (∀ vs, (σ' = setV tg.ix vs σ)  → Q σ' H)
theorem pg_le {e : Expr} {t t' : L2.TG} (h : PG X e t) (m : ∀ v σ H Q, t' v σ H Q → t v σ H Q) : PG X e t' := ⟨fun pins s σ H v u Q I r q => h.run pins s σ H v u Q I r (m v σ H Q q)⟩
theorem pg_or {e : Expr} {t t' : L2.TG} (h : PG X e t) (h' : PG X e t') : PG X e (fun v σ H Q => t v σ H Q ∨ t' v σ H Q) := ⟨fun pins s σ H v u Q I r q => q.elim (fun q => h.run pins s σ H v u Q I r q) fun q => h'.run pins s σ H v u Q I r q⟩
theorem s_tg (c : Cok X g k cl lvl W) (tg : Tg) (e : Expr) (h : ckTg k tg e = true) : PG X e (gTg X.K tg) := by
  cases tg with
  | one i =>
    cases e with
    | Name x p =>
      simp only [ckTg, Bool.and_eq_true, decide_eq_true_eq] at h
      obtain ⟨l1, l2⟩ := c.loc h.2
      refine pg_le (pg_name c.nd (by rw [c.N]; exact h.1) l1 l2) ?_
      rintro v σ H Q ⟨w, d, ρ, S, st, r, ρ', e, q⟩
      cases e
      exact q _ (st.setFz r i) [v] rfl
    | _ => simp [ckTg] at h
  | many is =>
    cases e with
    | Tuple es kk p =>
      obtain ⟨a1, a2, a3⟩ := pgs_names c es is h
      refine pg_le (pg_or (pg_tup c.calm a1 a2 a3) (pg_lst c.calm a1 a2 a3)) ?_
      rintro v σ H Q ⟨w, d, ρ, S, st, r, ρ', e, q⟩
      cases r with
      | lst s1 q1 =>
        simp only [bindTg] at e
        split at e
        · rename_i hl
          cases e
          exact .inr ⟨_, _, rfl, st.sf.seq s1, by rw [← q1.length]; exact hl, gSets_of is (by rw [← q1.length]; exact hl) (q _ (st.setL is q1) _ rfl)⟩
        · cases e
      | tup s1 q1 =>
        simp only [bindTg] at e
        split at e
        · rename_i hl
          cases e
          exact .inl ⟨_, _, rfl, Same.seqT st.sf s1, by rw [← q1.length]; exact hl, gSets_of is (by rw [← q1.length]; exact hl) (q _ (st.setL is q1) _ rfl)⟩
        · cases e
      | _ => simp [bindTg, insD] at e
    | _ => simp [ckTg] at h
end
end FW

namespace FW
open PySem PySem.W PySem.Spec L2

/-! ## statements -/
structure Sok (K : PySem.W.Frag) (w0 : Wd) (H0 : Hp) (w : Wd) (ρ : List Sl) (S : Hs) (σ : SV) (H : Hp) : Prop where
  st : Stt K w ρ S σ H
  x : Ext w0 H0 w H
  o : ∀ (i : Nat) (d : D) (a : Addr), ρ[i]? = some (Sl.own d) → σ[i]? = some (some (V.ref a)) → H0 a = none
def PoS (K : PySem.W.Frag) (xv : Str → Value) (W : WXs) (w0 : Wd) (H0 : Hp) (r : RS) (D : Ends) : Prop := match r with
  | .nx ρ' S' => ∀ w' σ' H', Sok K w0 H0 w' ρ' S' σ' H' → D.nx σ' H'
  | .bk ρ' S' => ∀ w' σ' H', Sok K w0 H0 w' ρ' S' σ' H' → D.bk σ' H'
  | .ct ρ' S' => ∀ w' σ' H', Sok K w0 H0 w' ρ' S' σ' H' → D.ct σ' H'
  | .ex k ρ' S' => ∀ w' σ' H', Sok K w0 H0 w' ρ' S' σ' H' → W (xv k) none σ' H'
  | .rt o d S' => ∀ v w' H', Ext w0 H0 w' H' → Stt K w' [] S' [] H' → (o = false → Rep K w'.f w'.ι d v) → (o = true → OwnV K w' H0 H' d v) → D.rt v H'
  | .bad => False
def rdS (K : PySem.W.Frag) (xv : Str → Value) (W : WXs) (ev : List Sl → Hs → RS) : L2.TS := fun D σ H => ∃ w0 H0 w ρ S, Sok K w0 H0 w ρ S σ H ∧ PoS K xv W w0 H0 (ev ρ S) D
abbrev PSr (X : Cx) (g : Glo) (W : WXs) (s : Stmt) (ev : List Sl → Hs → RS) : Prop := PS X s (rdS X.K g.xv W ev)
abbrev PSsr (X : Cx) (g : Glo) (W : WXs) (s : List Stmt) (ev : List Sl → Hs → RS) : Prop := PSs X s (rdS X.K g.xv W ev)
theorem ps_le {X : Cx} {s : Stmt} {t t' : L2.TS} (h : PS X s t) (m : ∀ D σ H, t' D σ H → t D σ H) : PS X s t' := ⟨fun pins s σ H D I q => h.run pins s σ H D I (m D σ H q)⟩
theorem pss_le {X : Cx} {s : List Stmt} {t t' : L2.TS} (h : PSs X s t) (m : ∀ D σ H, t' D σ H → t D σ H) : PSs X s t' := ⟨fun pins s σ H D I q => h.run pins s σ H D I (m D σ H q)⟩
section
variable {K : PySem.W.Frag} {xv : Str → Value} {W : WXs} {w0 w w' : Wd} {H0 H H' : Hp} {ρ : List Sl} {σ : SV} {S S' : Hs} {D : Ends}
theorem Sok.carry (s : Sok K w0 H0 w ρ S σ H) (x : Ext w H w' H') (st : Stt K w' ρ S' σ H') : Sok K w0 H0 w' ρ S' σ H' := ⟨st, s.x.trans x, s.o⟩
theorem toRS_po {r : R FW.D} {kk : FW.D → Hs → RS} {Q : VK} (s : Sok K w0 H0 w ρ S σ H) (po : PoS K xv W w0 H0 (toRS r ρ kk) D)
    (h : ∀ d S' v w' H', Sok K w0 H0 w' ρ S' σ H' → Rep K w'.f w'.ι d v → PoS K xv W w0 H0 (kk d S') D → Q v H') : PoR K xv W (relE K) r w H ρ σ Q := by
  cases r with
  | ok d S' => exact fun v w' H' x st r => h d S' v w' H' (s.carry x st) r po
  | exc k S' => exact fun w' H' x st => po w' σ H' (s.carry x st)
  | bad => exact po
theorem toRS_pf {r : R FW.D} {kk : FW.D → Hs → RS} {Q : VK} (s : Sok K w0 H0 w ρ S σ H) (po : PoS K xv W w0 H0 (toRS r ρ kk) D)
    (h : ∀ d S' v w' H', Ext w H w' H' → Sok K w0 H0 w' ρ S' σ H' → OwnV K w' H H' d v → PoS K xv W w0 H0 (kk d S') D → Q v H') : PoF K xv W r w H ρ σ Q := by
  cases r with
  | ok d S' => exact fun v w' H' x st r => h d S' v w' H' x (s.carry x st) r po
  | exc k S' => exact fun w' H' x st => po w' σ H' (s.carry x st)
  | bad => exact po
theorem set_own {ρ : List Sl} {i j : Nat} {s : Sl} {d : FW.D} (h : (ρ.set i s)[j]? = some (Sl.own d)) : (i ≠ j ∧ ρ[j]? = some (.own d)) ∨ (i = j ∧ s = .own d ∧ i < ρ.length) := by
  by_cases z : i = j
  · subst z
    by_cases hl : i < ρ.length
    · rw [List.getElem?_set_self hl] at h; cases h; exact .inr ⟨rfl, rfl, hl⟩
    · rw [List.getElem?_eq_none (by simpa using hl)] at h; cases h
  · rw [List.getElem?_set_ne z] at h; exact .inl ⟨z, h⟩
theorem set_fz {ρ : List Sl} {i j : Nat} {s : Sl} {d : FW.D} (h : (ρ.set i s)[j]? = some (Sl.fz d)) : (i ≠ j ∧ ρ[j]? = some (.fz d)) ∨ (i = j ∧ s = .fz d ∧ i < ρ.length) := by
  by_cases z : i = j
  · subst z
    by_cases hl : i < ρ.length
    · rw [List.getElem?_set_self hl] at h; cases h; exact .inr ⟨rfl, rfl, hl⟩
    · rw [List.getElem?_eq_none (by simpa using hl)] at h; cases h
  · rw [List.getElem?_set_ne z] at h; exact .inl ⟨z, h⟩
theorem Sok.setFz (s : Sok K w0 H0 w ρ S σ H) {d : FW.D} {v : V} (r : Rep K w.f w.ι d v) (i : Nat) : Sok K w0 H0 w (ρ.set i (.fz d)) S (σ.set i (some v)) H := by
  refine ⟨s.st.setFz r i, s.x, fun j e a h1 h2 => ?_⟩
  rcases set_own h1 with ⟨z, h1⟩ | ⟨_, q, _⟩
  · rw [List.getElem?_set_ne z] at h2; exact s.o j e a h1 h2
  · cases q
theorem setL_own {K : PySem.W.Frag} (is : List Nat) : ∀ {ds : List FW.D} {vs : List V} {ρ : List Sl} {σ : SV} {w : Wd}, Sok K w0 H0 w ρ S σ H → Reps K w.f w.ι ds vs → Sok K w0 H0 w (setL is ds ρ) S (setV is vs σ) H := by
  induction is with
  | nil => intro ds vs ρ σ w s r; cases ds <;> cases vs <;> exact s
  | cons i is ih =>
    intro ds vs ρ σ w s r
    cases r with
    | nil => exact s
    | cons r t => exact ih (s.setFz r i) t
theorem Sok.wipeL (s : Sok K w0 H0 w ρ S σ H) (is : List Nat) : Sok K w0 H0 w (FW.wipeL is ρ) S σ H :=
  ⟨s.st.wipeL is, s.x, fun i d a h => s.o i d a (wipeL_own is h (by simp))⟩
/-- a slot takes a cell that nobody else holds -/
theorem Sok.setOwn {d : FW.D} {v : V} (s : Sok K w0 H0 w ρ S σ H) (x : Ext w H w' H') (s' : Sok K w0 H0 w' ρ S' σ H') (ho : OwnV K w' H H' d v) (i : Nat) : Sok K w0 H0 w' (ρ.set i (.own d)) S' (σ.set i (some v)) H' := by
  obtain ⟨a, rfl, h0, hf, hg, c⟩ := ho
  have old : ∀ {j : Nat} {e : FW.D} {b : Addr}, ρ[j]? = some (Sl.own e) → σ[j]? = some (some (V.ref b)) → b ≠ a := fun {j e b} h1 h2 z => by
    subst z
    obtain ⟨b', e1, _, _, xs, vs, _, e2, _⟩ := s.st.ow j e h1
    rw [h2] at e1; cases e1
    rw [h0] at e2; cases e2
  have new : ∀ {e : FW.D} {b : Addr}, i < ρ.length → (σ.set i (some (V.ref a)))[i]? = some (some (V.ref b)) → b = a := fun {e b} hl h => by
    rw [List.getElem?_set_self (by rw [← s.st.len]; exact hl)] at h; cases h; rfl
  refine ⟨⟨s'.st.sf, s'.st.sg, s'.st.dj, s'.st.ob, by simp [s'.st.len], fun j e h => ?_, fun j e h => ?_, fun j l e f b h1 h2 h3 h4 => ?_⟩, s'.x, fun j e b h1 h2 => ?_⟩
  · rcases set_fz h with ⟨z, h⟩ | ⟨_, q, _⟩
    · rw [List.getElem?_set_ne z]; exact s'.st.sl j e h
    · cases q
  · rcases set_own h with ⟨z, h⟩ | ⟨z, q, hl⟩
    · rw [List.getElem?_set_ne z]; exact s'.st.ow j e h
    · subst z; cases q
      exact ⟨a, by rw [List.getElem?_set_self (by rw [← s.st.len]; exact hl)], hf, hg, c⟩
  · rcases set_own h1 with ⟨z1, h1⟩ | ⟨z1, q1, hl1⟩
    · rw [List.getElem?_set_ne z1] at h3
      rcases set_own h2 with ⟨z2, h2⟩ | ⟨z2, q2, hl2⟩
      · rw [List.getElem?_set_ne z2] at h4; exact s'.st.inj j l e f b h1 h2 h3 h4
      · subst z2
        exact absurd (new (e := e) hl2 h4) (old h1 h3)
    · subst z1
      have := new (e := e) hl1 h3
      subst this
      rcases set_own h2 with ⟨z2, h2⟩ | ⟨z2, q2, hl2⟩
      · rw [List.getElem?_set_ne z2] at h4; exact absurd rfl (old h2 h4)
      · exact z2
  · rcases set_own h1 with ⟨z1, h1⟩ | ⟨z1, q1, hl1⟩
    · rw [List.getElem?_set_ne z1] at h2; exact s'.o j e b h1 h2
    · subst z1
      have := new (e := e) hl1 h2
      subst this
      cases z : H0 b with
      | none => rfl
      | some o => exact absurd h0 (s.x.t b (by rw [z]; simp))
/-- what an own slot's cell holds is changed -/
theorem Sok.upd (s : Sok K w0 H0 w ρ S σ H) {i : Nat} {xs xs' : List FW.D} {vs' : List V} {a : Addr} (hi : ρ[i]? = some (.own (.list xs))) (ha : σ[i]? = some (some (V.ref a))) (r : Reps K w.f w.ι xs' vs') : Sok K w0 H0 w (ρ.set i (.own (.list xs'))) S σ (L2.upd H a (.lst vs')) := by
  have h0 := s.o i _ a hi ha
  obtain ⟨a', e1, hf, hg, _⟩ := s.st.ow i _ hi
  rw [ha] at e1; cases e1
  have other : ∀ {j : Nat} {e : FW.D} {b : Addr}, i ≠ j → ρ[j]? = some (Sl.own e) → σ[j]? = some (some (V.ref b)) → b ≠ a := fun {j e b} z h1 h2 q => by
    subst q; exact z (s.st.inj i j _ e b hi h1 ha h2)
  refine ⟨⟨fun b u e => ?_, fun b u e => ?_, s.st.dj, s.st.ob, by simp [s.st.len], fun j e h => ?_, fun j e h => ?_, fun j l e f b h1 h2 h3 h4 => ?_⟩, ⟨s.x.f, s.x.i, fun b e => ?_, fun b u e g => ?_, s.x.n, s.x.q, s.x.m⟩, fun j e b h1 h2 => ?_⟩
  · rw [upd_ne (fun z => by subst z; rw [hf] at e; cases e)]; exact s.st.sf b u e
  · rw [upd_ne (fun z => by subst z; rw [hg] at e; cases e)]; exact s.st.sg b u e
  · rcases set_fz h with ⟨z, h⟩ | ⟨_, q, _⟩
    · exact s.st.sl j e h
    · cases q
  · rcases set_own h with ⟨z, h⟩ | ⟨z, q, hl⟩
    · obtain ⟨b, e1, f1, g1, c⟩ := s.st.ow j e h
      refine ⟨b, e1, f1, g1, ?_⟩
      rw [upd_ne (other z h e1)]; exact c
    · subst z; cases q
      exact ⟨a, ha, hf, hg, xs', vs', rfl, upd_same, r⟩
  · have back : ∀ {m : Nat} {e : FW.D}, (ρ.set i (.own (.list xs')))[m]? = some (Sl.own e) → ∃ e', ρ[m]? = some (Sl.own e') := fun {m e} h => by
      rcases set_own h with ⟨z, h⟩ | ⟨z, q, hl⟩
      · exact ⟨_, h⟩
      · subst z; exact ⟨_, hi⟩
    obtain ⟨e', h1⟩ := back h1
    obtain ⟨f', h2⟩ := back h2
    exact s.st.inj j l e' f' b h1 h2 h3 h4
  · by_cases z : b = a
    · subst z; rw [upd_same]; simp
    · rw [upd_ne z]; exact s.x.t b e
  · rw [upd_ne (fun z => by subst z; rw [h0] at e; cases e)]; exact s.x.k b u e g
  · rcases set_own h1 with ⟨z, h⟩ | ⟨z, q, hl⟩
    · exact s.o j e b h h2
    · subst z; exact s.o i _ b hi h2
theorem Sok.frz (s : Sok K w0 H0 w ρ S σ H) (is : List Nat) : ∃ w1, Sok K w0 H0 w1 (frzL is ρ) S σ H := by
  obtain ⟨w1, s1, m1, g1, i1, o1⟩ := s.st.frzM is
  have fo : ∀ (is : List Nat) {ρ : List Sl} {j : Nat} {d : FW.D}, (frzL is ρ)[j]? = some (Sl.own d) → ρ[j]? = some (Sl.own d) := fun is => by
    induction is with
    | nil => intro ρ j d h; exact h
    | cons i is ih => intro ρ j d h; exact (frz1_own (ih h)).1
  refine ⟨w1, s1, ⟨fun a u e => m1 _ _ (s.x.f _ _ e), fun n a e => by rw [i1]; exact s.x.i n a e, s.x.t, s.x.k, fun a h g f => ?_, fun a e => by rw [g1] at e; exact s.x.q a e, fun a e => by rw [g1]; exact s.x.m a e⟩, fun i d a h1 h2 => s.o i d a (fo is h1) h2⟩
  obtain ⟨f1, g2⟩ := s.x.n a h g f
  refine ⟨?_, by rw [g1]; exact g2⟩
  cases z : w1.f a with
  | none => rfl
  | some u =>
    rcases o1 a (by rw [z]; simp) with q | ⟨i, d, h1, h2⟩
    · exact absurd f1 q
    · exact absurd (s.o i d a h1 h2) h
end
section
variable {X : Cx} {g : Glo} {k : Ck} {cl : Cl} {lvl : Nat} {W : WXs} {a b d e tg : Expr} {pos p : Pos} {ea eb ed : List Sl → Hs → R FW.D} {et : List Sl → Hs → R Bool} {s1 : Stmt} {ss sa sb : List Stmt} {v1 v2 va vb : List Sl → Hs → RS}
theorem t_nil : PSsr X g W [] fun ρ S => .nx ρ S := by
  refine pss_le pss_nil ?_
  rintro D σ H ⟨w0, H0, w, ρ, S, s, po⟩
  exact po w σ H s
theorem t_cons (h1 : PSr X g W s1 v1) (h2 : PSsr X g W ss v2) : PSsr X g W (s1 :: ss) fun ρ S => match v1 ρ S with | .nx ρ' S' => v2 ρ' S' | r => r := by
  refine pss_le (pss_cons h1 h2) ?_
  rintro D σ H ⟨w0, H0, w, ρ, S, s, po⟩
  refine ⟨w0, H0, w, ρ, S, s, ?_⟩
  dsimp only at po
  cases e : v1 ρ S with
  | nx ρ' S' =>
    rw [e] at po
    exact fun w' σ' H' s' => ⟨w0, H0, w', ρ', S', s', po⟩
  | _ => rw [e] at po; exact po
theorem t_wipe (is : List Nat) (h : PSsr X g W ss v2) : PSsr X g W ss fun ρ S => v2 (wipeL is ρ) S := by
  refine pss_le h ?_
  rintro D σ H ⟨w0, H0, w, ρ, S, s, po⟩
  exact ⟨w0, H0, w, wipeL is ρ, S, s.wipeL is, po⟩
theorem t_frz (is : List Nat) (h : PSsr X g W ss v2) : PSsr X g W ss fun ρ S => v2 (frzL is ρ) S := by
  refine pss_le h ?_
  rintro D σ H ⟨w0, H0, w, ρ, S, s, po⟩
  obtain ⟨w1, s1⟩ := s.frz is
  exact ⟨w0, H0, w1, frzL is ρ, S, s1, po⟩
theorem t_pass : PSr X g W (.Pass pos) fun ρ S => .nx ρ S := by
  refine ps_le ps_pass ?_
  rintro D σ H ⟨w0, H0, w, ρ, S, s, po⟩
  exact po w σ H s
theorem t_brk : PSr X g W (.Break pos) fun ρ S => .bk ρ S := by
  refine ps_le ps_break ?_
  rintro D σ H ⟨w0, H0, w, ρ, S, s, po⟩
  exact po w σ H s
theorem t_cnt : PSr X g W (.Continue pos) fun ρ S => .ct ρ S := by
  refine ps_le ps_continue ?_
  rintro D σ H ⟨w0, H0, w, ρ, S, s, po⟩
  exact po w σ H s
/-- no comprehension -/
def noComp : Expr → Bool
  | .ListComp .. => false
  | .SetComp .. => false
  | .DictComp .. => false
  | _ => true
theorem swaps_no {e : Expr} {t : Option Expr} {l : Nat} {env : Env} (h : noComp e = true) : swapsWith e t l env = pure false := by
  cases e <;> first | rfl | cases h
theorem swaps_tup {e t : Expr} {l : Nat} {env : Env} (h : match t with | .Name .. => false | _ => true) : swapsWith e (some t) l env = pure false := by
  cases e <;> first | rfl | (cases t <;> first | rfl | cases h)
def notTup : Expr → Bool
  | .Tuple .. => false
  | _ => true
theorem swapped_no {e t : Expr} {env : Env} (h : notTup e = true) : swappedStores [t] e env = pure none := by
  cases e <;> first | (cases t <;> rfl) | cases h
theorem t_asg {i : Nat} {x : Str} {p2 : Pos} (c : Cok X g k cl lvl W) (hi : k.N[i]? = some x) (hx : k.loc x = true) (hc : noComp e = true) (he : PEr X g W e ea) : PSr X g W (.Assign [.Name x p2] e pos) fun ρ S => toRS (ea ρ S) ρ fun d S => .nx (ρ.set i (.fz d)) S := by
  obtain ⟨l1, l2⟩ := c.loc hx
  refine ps_le (ps_set c.nd (by rw [c.N]; exact hi) l1 he (swaps_no hc) l2) ?_
  rintro D σ H ⟨w0, H0, w, ρ, S, s, po⟩
  exact ⟨w, ρ, S, s.st, toRS_po s po fun d S' v w' H' s' r po' => po' w' _ H' (s'.setFz r i)⟩
theorem t_asgO {i : Nat} {x : Str} {p2 : Pos} (c : Cok X g k cl lvl W) (hi : k.N[i]? = some x) (hx : k.loc x = true) (hc : noComp e = true) (he : PFr X g W e ea) : PSr X g W (.Assign [.Name x p2] e pos) fun ρ S => toRS (ea ρ S) ρ fun d S => .nx (ρ.set i (.own d)) S := by
  obtain ⟨l1, l2⟩ := c.loc hx
  refine ps_le (ps_set c.nd (by rw [c.N]; exact hi) l1 he (swaps_no hc) l2) ?_
  rintro D σ H ⟨w0, H0, w, ρ, S, s, po⟩
  exact ⟨w, ρ, S, s.st, toRS_pf s po fun d S' v w' H' x s' r po' => po' w' _ H' (s.setOwn x s' r i)⟩
theorem t_asgT {is : List Nat} (c : Cok X g k cl lvl W) (ht : ckTg k (.many is) tg = true) (hn : notTup e = true) (he : PEr X g W e ea) : PSr X g W (.Assign [tg] e pos) fun ρ S => toRS (ea ρ S) ρ fun d S => match bindTg (.many is) d ρ with | some ρ' => .nx ρ' S | none => .bad := by
  have hh := s_tg c (.many is) tg ht
  cases tg with
  | Tuple es kk p2 =>
    obtain ⟨a1, a2, a3⟩ := pgs_names c es is ht
    refine ps_le (ps_asg he (pg_or (pg_tup c.calm a1 a2 a3) (pg_lst c.calm a1 a2 a3)) (by unfold swapsWithSole; exact swaps_tup (t := .Tuple es kk p2) rfl) (swapped_no hn) rfl) ?_
    rintro D σ H ⟨w0, H0, w, ρ, S, s, po⟩
    refine ⟨w, ρ, S, s.st, toRS_po s po fun d S' v w' H' s' r po' => ?_⟩
    cases r with
    | @lst _ ds _ s1 q1 =>
      by_cases hl : ds.length = is.length
      · simp only [bindTg, if_pos hl] at po'
        exact .inr ⟨_, _, rfl, s'.st.sf.seq s1, by rw [← q1.length]; exact hl, gSets_of is (by rw [← q1.length]; exact hl) (po' w' _ H' (setL_own is s' q1))⟩
      · simp only [bindTg, if_neg hl] at po'; exact False.elim po'
    | @tup _ ds _ s1 q1 =>
      by_cases hl : ds.length = is.length
      · simp only [bindTg, if_pos hl] at po'
        exact .inl ⟨_, _, rfl, Same.seqT s'.st.sf s1, by rw [← q1.length]; exact hl, gSets_of is (by rw [← q1.length]; exact hl) (po' w' _ H' (setL_own is s' q1))⟩
      · simp only [bindTg, if_neg hl] at po'; exact False.elim po'
    | _ => exact False.elim po'
  | _ => simp [ckTg] at ht
theorem t_aug {i : Nat} {x : Str} {p2 : Pos} (op : Op2) (hop : op = .add ∨ op = .sub) (c : Cok X g k cl lvl W) (hi : k.N[i]? = some x) (hx : k.loc x = true) (he : PEr X g W e ea) :
    PSr X g W (.AugAssign (.Name x p2) op.op e pos) fun ρ S => match rdSl ρ i with
      | some a => toRS (ea ρ S) ρ fun d S => match augD op a d with | some z => .nx (ρ.set i (.fz z)) S | none => .bad
      | none => .bad := by
  obtain ⟨l1, l2⟩ := c.loc hx
  have key : ∀ {f : Int → Int → Int} {op : Op2}, PIp X op.op (ipI f) → (∀ a b, augD op a b = match a, b with | .int i, .int j => some (.int (f i j)) | _, _ => none) → PSr X g W (.AugAssign (.Name x p2) op.op e pos) fun ρ S => match rdSl ρ i with
      | some a => toRS (ea ρ S) ρ fun d S => match augD op a d with | some z => .nx (ρ.set i (.fz z)) S | none => .bad
      | none => .bad := by
    intro f op hp hd
    refine ps_le (ps_aug c.nd (by rw [c.N]; exact hi) l1 he hp l2) ?_
    rintro D σ H ⟨w0, H0, w, ρ, S, s, po⟩
    dsimp only at po
    cases e1 : rdSl ρ i with
    | none => rw [e1] at po; exact False.elim po
    | some a0 =>
      rw [e1] at po
      have po : PoS X.K g.xv W w0 H0 (toRS (ea ρ S) ρ fun d S => match augD op a0 d with | some z => .nx (ρ.set i (.fz z)) S | none => .bad) D := po
      have h : ρ[i]? = some (Sl.fz a0) := by
        unfold rdSl at e1
        split at e1
        · rename_i e'; cases e1; exact e'
        · cases e1
      obtain ⟨v, hv, r⟩ := s.st.sl i a0 h
      refine ⟨v, hv, w, ρ, S, s.st, ?_⟩
      cases e2 : ea ρ S with
      | bad => rw [e2] at po; exact False.elim po
      | exc cc S' => rw [e2] at po; exact fun w' H' x st => po w' σ H' (s.carry x st)
      | ok d S' =>
        rw [e2] at po
        intro u w' H' x' st' r2
        have po' : PoS X.K g.xv W w0 H0 (match augD op a0 d with | some z => .nx (ρ.set i (.fz z)) S' | none => .bad) D := po
        rw [hd] at po'
        have r' := x'.rep r
        cases r' with
        | int n => cases r2 with
          | int m => exact ⟨n, m, rfl, rfl, po' w' _ H' ((s.carry x' st').setFz (.int _) i)⟩
          | _ => exact False.elim po'
        | _ => cases r2 <;> exact False.elim po'
  rcases hop with rfl | rfl
  · exact key ip_add fun a b => by cases a <;> cases b <;> rfl
  · exact key ip_sub fun a b => by cases a <;> cases b <;> rfl
theorem t_expr (hc : noComp e = true) (he : PEr X g W e ea) : PSr X g W (.Expr e pos) fun ρ S => toRS (ea ρ S) ρ fun _ S => .nx ρ S := by
  refine ps_le (ps_expr he (swaps_no hc)) ?_
  rintro D σ H ⟨w0, H0, w, ρ, S, s, po⟩
  exact ⟨w, ρ, S, s.st, toRS_po s po fun d S' v w' H' s' r po' => po' w' _ H' s'⟩
theorem t_ret (he : PEr X g W e ea) : PSr X g W (.Return (some e) pos) fun ρ S => toRS (ea ρ S) ρ fun d S => .rt false d S := by
  refine ps_le (ps_ret he) ?_
  rintro D σ H ⟨w0, H0, w, ρ, S, s, po⟩
  exact ⟨w, ρ, S, s.st, toRS_po s po fun d S' v w' H' s' r po' => po' v w' H' s'.x s'.st.bare (fun _ => r) fun z => nomatch z⟩
theorem t_retF (he : PFr X g W e ea) : PSr X g W (.Return (some e) pos) fun ρ S => toRS (ea ρ S) ρ fun d S => .rt true d S := by
  refine ps_le (ps_ret he) ?_
  rintro D σ H ⟨w0, H0, w, ρ, S, s, po⟩
  exact ⟨w, ρ, S, s.st, toRS_pf s po fun d S' v w' H' x s' r po' => po' v w' H' s'.x s'.st.bare (fun z => nomatch z) fun _ => r.back s.x.t⟩
theorem t_retN : PSr X g W (.Return none pos) fun ρ S => .rt false .none S := by
  refine ps_le ps_retN ?_
  rintro D σ H ⟨w0, H0, w, ρ, S, s, po⟩
  exact po .non w H s.x s.st.bare (fun _ => .non) fun z => nomatch z
theorem t_retO {i : Nat} {x : Str} {p2 : Pos} (c : Cok X g k cl lvl W) (hi : k.N[i]? = some x) (hv : k.vis x = true) (hn : okNm x = true) : PSr X g W (.Return (some (.Name x p2)) pos) fun ρ S => match ρ[i]? with
    | some (.own d) => .rt true d S
    | _ => .bad := by
  have ⟨n1, n2, n3⟩ := okNm_of hn
  refine ps_le (ps_ret (pe_var (X := X) (i := i) (by rw [c.N]; exact hi) (c.vis hv) n1 n2)) ?_
  rintro D σ H ⟨w0, H0, w, ρ, S, s, po⟩
  dsimp only at po
  split at po
  · rename_i d e1
    obtain ⟨l, e, hf, hg, cc⟩ := s.st.ow i d e1
    exact ⟨_, e, po _ w H s.x s.st.bare (fun z => nomatch z) fun _ => ⟨l, rfl, s.o i d l e1 e, hf, hg, cc⟩⟩
  · exact False.elim po
theorem t_if (hc : PTr X g W a et) (ha : PSsr X g W sa va) (hb : PSsr X g W sb vb) : PSr X g W (.If a sa sb pos) fun ρ S => match et ρ S with
    | .ok k S => if k = true then va ρ S else vb ρ S
    | .exc y S => .ex y ρ S
    | .bad => .bad := by
  refine ps_le (ps_if hc ha hb) ?_
  rintro D σ H ⟨w0, H0, w, ρ, S, s, po⟩
  refine ⟨w, ρ, S, s.st, ?_⟩
  dsimp only at po
  cases e : et ρ S with
  | ok kk S' =>
    rw [e] at po
    intro b w' H' x st r
    cases (show kk = b from r)
    have po : PoS X.K g.xv W w0 H0 (if kk = true then va ρ S' else vb ρ S') D := po
    cases kk with
    | true => rw [if_pos rfl] at po ⊢; exact ⟨w0, H0, w', ρ, S', s.carry x st, po⟩
    | false => rw [if_neg Bool.false_ne_true] at po ⊢; exact ⟨w0, H0, w', ρ, S', s.carry x st, po⟩
  | exc cc S' => rw [e] at po; exact fun w' H' x st => po w' σ H' (s.carry x st)
  | bad => rw [e] at po; exact po
end
end FW

namespace FW
open PySem PySem.W PySem.Spec L2

section
variable {K : PySem.W.Frag} {xv : Str → Value} {W : WXs} {w0 w w' : Wd} {H0 H H' : Hp} {ρ : List Sl} {σ : SV} {S S' : Hs} {D : Ends}
/-- the ground is raised: what is frozen now stays so -/
theorem Sok.up (s : Sok K w0 H0 w ρ S σ H) : Sok K w H0 w ρ S σ H :=
  ⟨s.st, ⟨fun _ _ h => h, fun _ _ h => h, s.x.t, fun a o h g => s.x.k a o h (by
    cases z : w0.g a with
    | none => rfl
    | some u => exact absurd g (s.x.m a (by rw [z]; simp))), fun a _ g f => ⟨f, g⟩, fun a h => .inl h, fun a h => h⟩, s.o⟩
theorem Ext.low (x : Ext w0 H0 w H) (y : Ext w H0 w' H') : Ext w0 H0 w' H' where
  f := fun _ _ h => y.f _ _ (x.f _ _ h)
  i := fun _ _ h => y.i _ _ (x.i _ _ h)
  t := y.t
  k := fun a o h g => y.k a o h (by
    cases z : w.g a with
    | none => rfl
    | some u =>
      rcases x.q a (by rw [z]; simp) with q | q
      · exact absurd g q
      · rw [h] at q; cases q)
  n := fun a h g f => let z := x.n a h g f; y.n a h z.2 z.1
  q := fun a h => (y.q a h).elim (fun z => x.q a z) .inr
  m := fun a h => y.m a (x.m a h)
theorem Sok.low (s : Sok K w0 H0 w ρ S σ H) {w2 : Wd} {ρ2 : List Sl} {S2 : Hs} {σ2 : SV} {H2 : Hp} (t : Sok K w H0 w2 ρ2 S2 σ2 H2) : Sok K w0 H0 w2 ρ2 S2 σ2 H2 := ⟨t.st, Ext.low s.x t.x, t.o⟩
end
section
variable {X : Cx} {g : Glo} {k : Ck} {cl : Cl} {lvl : Nat} {W : WXs} {a b d e tg : Expr} {pos p : Pos} {ea eb ed : List Sl → Hs → R FW.D} {ei : List Sl → Hs → R (List FW.D)} {et : List Sl → Hs → R Bool} {s1 : Stmt} {ss sa sb : List Stmt} {v1 v2 va vb : List Sl → Hs → RS}
/-- a target in a statement -/
def gTgS (K : PySem.W.Frag) (tg : Tg) : L2.TG := fun v σ H Q => ∃ w0 H0 w d ρ S, Sok K w0 H0 w ρ S σ H ∧ Rep K w.f w.ι d v ∧ ∃ ρ', bindTg tg d ρ = some ρ' ∧ ∀ σ', Sok K w0 H0 w ρ' S σ' H → Q σ' H
theorem s_tgS (c : Cok X g k cl lvl W) (tg : Tg) (e : Expr) (h : ckTg k tg e = true) : PG X e (gTgS X.K tg) := by
  cases tg with
  | one i =>
    cases e with
    | Name x p =>
      simp only [ckTg, Bool.and_eq_true, decide_eq_true_eq] at h
      obtain ⟨l1, l2⟩ := c.loc h.2
      refine pg_le (pg_name c.nd (by rw [c.N]; exact h.1) l1 l2) ?_
      rintro v σ H Q ⟨w0, H0, w, d, ρ, S, st, r, ρ', e, q⟩
      cases e
      exact q _ (st.setFz r i)
    | _ => simp [ckTg] at h
  | many is =>
    cases e with
    | Tuple es kk p =>
      obtain ⟨a1, a2, a3⟩ := pgs_names c es is h
      refine pg_le (pg_or (pg_tup c.calm a1 a2 a3) (pg_lst c.calm a1 a2 a3)) ?_
      rintro v σ H Q ⟨w0, H0, w, d, ρ, S, st, r, ρ', e, q⟩
      cases r with
      | @lst _ ds _ s1 q1 =>
        simp only [bindTg] at e
        split at e
        · rename_i hl
          cases e
          exact .inr ⟨_, _, rfl, st.st.sf.seq s1, by rw [← q1.length]; exact hl, gSets_of is (by rw [← q1.length]; exact hl) (q _ (setL_own is st q1))⟩
        · cases e
      | @tup _ ds _ s1 q1 =>
        simp only [bindTg] at e
        split at e
        · rename_i hl
          cases e
          exact .inl ⟨_, _, rfl, Same.seqT st.st.sf s1, by rw [← q1.length]; exact hl, gSets_of is (by rw [← q1.length]; exact hl) (q _ (setL_own is st q1))⟩
        · cases e
      | _ => simp [bindTg, insD] at e
    | _ => simp [ckTg] at h
def notSet : Expr → Bool
  | .Set .. => false
  | _ => true
theorem folded_no {e : Expr} {env : Env} (h : notSet e = true) (x : Value) : foldedSetIterable e env x = pure x := by
  cases e <;> first | rfl | cases h
theorem t_for {iter : Expr} {body : List Stmt} (tt : Tg) (wl : List Nat) (c : Cok X g k cl lvl W) (hi : PIr X g W tg iter ei) (ht : ckTg k tt tg = true) (hb : PSsr X g W body vb) (hs : notSet iter = true) : PSr X g W (.For tg iter body [] pos) fun ρ S => match ei ρ S with
    | .ok xs S => forLoop wl (fun d ρ S => match bindTg tt d ρ with | some ρ' => vb ρ' S | none => .bad) xs ρ S
    | .exc y S => .ex y ρ S
    | .bad => .bad := by
  refine ps_le (ps_for c.ps c.calm hi (s_tgS c tt tg ht) hb (folded_no hs)) ?_
  rintro D σ H ⟨w0, H0, w, ρ, S, s, po⟩
  dsimp only at po
  refine ⟨w, ρ, S, s.st, ?_⟩
  cases e : ei ρ S with
  | bad => rw [e] at po; exact po
  | exc cc S' => rw [e] at po; exact fun w' H' x st => po w' σ H' (s.carry x st)
  | ok ds S' =>
    rw [e] at po
    rintro J w1 H1 x1 st1 ⟨vs, rv, it⟩
    have po : PoS X.K g.xv W w0 H0 (forLoop wl (fun d ρ S => match bindTg tt d ρ with | some ρ' => vb ρ' S | none => .bad) ds ρ S') D := po
    refine ⟨fun i m σ H => m = vs.length - i ∧ i ≤ vs.length ∧ ∃ w2 ρ S, Same w1.f w2.f ∧ Pre w1.ι w2.ι ∧ Sok X.K w0 H0 w2 ρ S σ H ∧ PoS X.K g.xv W w0 H0 (forLoop wl (fun d ρ S => match bindTg tt d ρ with | some ρ' => vb ρ' S | none => .bad) (ds.drop i) ρ S) D, ⟨vs.length, by simp, Nat.zero_le _, w1, ρ, S', fun _ _ h => h, fun _ _ h => h, s.carry x1 st1, po⟩, ?_⟩
    rintro i m σ2 H2 ⟨rfl, hi, w2, ρ2, S2, m2, p2, s2, po2⟩
    have hl := rv.length
    obtain ⟨i1, i2⟩ := it H2 (fun b u z => s2.st.sf _ _ (m2 _ _ z))
    by_cases hlt : i < vs.length
    · right
      obtain ⟨x, hx⟩ : ∃ x, vs[i]? = some x := ⟨_, List.getElem?_eq_getElem hlt⟩
      obtain ⟨dx, hdx⟩ : ∃ x, ds[i]? = some x := ⟨_, List.getElem?_eq_getElem (by omega)⟩
      obtain ⟨x', hx', rx⟩ := rv.get hdx
      rw [hx] at hx'; cases hx'
      obtain ⟨g1, g2⟩ := i1 i x hx
      have hd : ds.drop i = dx :: ds.drop (i + 1) := by
        obtain ⟨hh, e1⟩ := List.getElem?_eq_some_iff.mp hdx
        rw [← e1]; exact List.drop_eq_getElem_cons hh
      rw [hd] at po2
      refine ⟨g1, fun σ' H' => ∃ w3 ρ S, Same w1.f w3.f ∧ Pre w1.ι w3.ι ∧ Sok X.K w0 H0 w3 ρ S σ' H' ∧ PoS X.K g.xv W w0 H0 (forLoop wl (fun d ρ S => match bindTg tt d ρ with | some ρ' => vb ρ' S | none => .bad) (ds.drop (i + 1)) ρ S) D, fun σ' H' h => ⟨vs.length - (i + 1), by omega, rfl, by omega, h⟩, fun y H' hy => ?_⟩
      obtain ⟨rfl, rfl⟩ := g2 y H' hy
      have po2 : PoS X.K g.xv W w0 H0 (match (match bindTg tt dx (wipeL wl ρ2) with | some ρ' => vb ρ' S2 | none => .bad) with
        | .nx ρ' S' => forLoop wl (fun d ρ S => match bindTg tt d ρ with | some ρ' => vb ρ' S | none => .bad) (ds.drop (i + 1)) ρ' S'
        | .ct ρ' S' => forLoop wl (fun d ρ S => match bindTg tt d ρ with | some ρ' => vb ρ' S | none => .bad) (ds.drop (i + 1)) ρ' S'
        | .bk ρ' S' => .nx (wipeL wl ρ') S'
        | r => r) D := po2
      cases e3 : bindTg tt dx (wipeL wl ρ2) with
      | none => rw [e3] at po2; exact False.elim po2
      | some ρ3 =>
        rw [e3] at po2
        have po2 : PoS X.K g.xv W w0 H0 (match vb ρ3 S2 with
          | .nx ρ' S' => forLoop wl (fun d ρ S => match bindTg tt d ρ with | some ρ' => vb ρ' S | none => .bad) (ds.drop (i + 1)) ρ' S'
          | .ct ρ' S' => forLoop wl (fun d ρ S => match bindTg tt d ρ with | some ρ' => vb ρ' S | none => .bad) (ds.drop (i + 1)) ρ' S'
          | .bk ρ' S' => .nx (wipeL wl ρ') S'
          | r => r) D := po2
        refine ⟨w0, H0, w2, dx, wipeL wl ρ2, S2, s2.wipeL wl, Rep.mono m2 p2 rx, ρ3, e3, fun σ3 s3 => ⟨w2, H0, w2, ρ3, S2, s3.up, ?_⟩⟩
        cases e4 : vb ρ3 S2 with
        | nx ρ' S' => rw [e4] at po2; exact fun w' σ' H' t => ⟨w', ρ', S', fun _ _ h => t.x.f _ _ (m2 _ _ h), fun _ _ h => t.x.i _ _ (p2 _ _ h), s2.low t, po2⟩
        | ct ρ' S' => rw [e4] at po2; exact fun w' σ' H' t => ⟨w', ρ', S', fun _ _ h => t.x.f _ _ (m2 _ _ h), fun _ _ h => t.x.i _ _ (p2 _ _ h), s2.low t, po2⟩
        | bk ρ' S' => rw [e4] at po2; exact fun w' σ' H' t => po2 w' σ' H' ((s2.low t).wipeL wl)
        | ex kk ρ' S' => rw [e4] at po2; exact fun w' σ' H' t => po2 w' σ' H' (s2.low t)
        | rt o dd S' => rw [e4] at po2; exact fun v w' H' x st hF hT => po2 v w' H' (Ext.low s2.x x) st hF hT
        | bad => rw [e4] at po2; exact po2
    · left
      have : i = vs.length := by omega
      subst this
      refine ⟨i2, ?_⟩
      rw [List.drop_eq_nil_of_le (by omega)] at po2
      exact po2 w2 σ2 H2 (s2.wipeL wl)
theorem t_whl {body : List Stmt} (wl : List Nat) (L : Nat) (c : Cok X g k cl lvl W) (ht : PTr X g W a et) (hb : PSsr X g W body vb) : PSr X g W (.While a body [] pos) fun ρ S => whLoop wl et vb L ρ S := by
  refine ps_le (ps_while c.ps ht hb) ?_
  rintro D σ H ⟨w0, H0, w, ρ, S, s, po⟩
  refine ⟨fun m σ H => ∃ w ρ S, Sok X.K w0 H0 w ρ S σ H ∧ PoS X.K g.xv W w0 H0 (whLoop wl et vb m ρ S) D, ⟨L, w, ρ, S, s, po⟩, ?_⟩
  rintro m σ2 H2 ⟨w2, ρ2, S2, s2, po2⟩
  cases m with
  | zero => exact False.elim po2
  | succ n =>
    refine ⟨w2, wipeL wl ρ2, S2, (s2.wipeL wl).st, ?_⟩
    unfold whLoop at po2
    cases e : et (wipeL wl ρ2) S2 with
    | bad => rw [e] at po2; exact po2
    | exc cc S' => rw [e] at po2; exact fun w' H' x st => po2 w' σ2 H' ((s2.wipeL wl).carry x st)
    | ok kk S' =>
      rw [e] at po2
      intro b w' H' x st r
      cases (show kk = b from r)
      have s3 := (s2.wipeL wl).carry x st
      cases kk with
      | false => rw [if_neg Bool.false_ne_true]; exact po2 w' σ2 H' s3
      | true =>
        rw [if_pos rfl]
        refine ⟨fun σ' H' => ∃ w ρ S, Sok X.K w0 H0 w ρ S σ' H' ∧ PoS X.K g.xv W w0 H0 (whLoop wl et vb n ρ S) D, fun σ' H' h => ⟨n, Nat.lt_succ_self _, h⟩, w0, H0, w', wipeL wl ρ2, S', s3, ?_⟩
        have po2 : PoS X.K g.xv W w0 H0 (match vb (wipeL wl ρ2) S' with
          | .nx ρ' S' => whLoop wl et vb n ρ' S'
          | .ct ρ' S' => whLoop wl et vb n ρ' S'
          | .bk ρ' S' => .nx (wipeL wl ρ') S'
          | r => r) D := po2
        cases e4 : vb (wipeL wl ρ2) S' with
        | nx ρ' S' => rw [e4] at po2; exact fun w' σ' H' t => ⟨w', ρ', S', t, po2⟩
        | ct ρ' S' => rw [e4] at po2; exact fun w' σ' H' t => ⟨w', ρ', S', t, po2⟩
        | bk ρ' S' => rw [e4] at po2; exact fun w' σ' H' t => po2 w' σ' H' (t.wipeL wl)
        | ex _ _ _ => rw [e4] at po2; exact po2
        | rt _ _ _ => rw [e4] at po2; exact po2
        | bad => rw [e4] at po2; exact po2
/-! ## a list that is held alone is changed -/
theorem t_app {i : Nat} {x y : Str} {px apos cpos : Pos} (c : Cok X g k cl lvl W) (hi : k.N[i]? = some x) (hv : k.vis x = true) (hn : okNm x = true) (hy : y = "append") (he : PAr X g W [e] fun ρ S => (ea ρ S).bind fun d S => .ok [d] S) (hs : notStar e = true) (hl : (apos.endLine == cpos.line) = true) :
    PSr X g W (.Expr (.Call (.Attribute (.Name x px) y apos) [e] [] cpos) pos) fun ρ S => match ρ[i]? with
      | some (.own (.list xs)) => toRS (ea ρ S) ρ fun d S => if xs.length < 16777216 then .nx (ρ.set i (.own (.list (xs ++ [d])))) S else .bad
      | _ => .bad := by
  subst hy
  have ⟨n1, n2, n3⟩ := okNm_of hn
  have few : ((backTo cpos (starEach [e] X.env)).all (fun x => !x.1) && (backToKw cpos (keywordEach [] X.env)).all (fun x => x.1.isSome) && decide ([e].length + ([] : List Keyword).length + (if ([] : List Keyword).isEmpty then 0 else 1) < 30)) = true := by
    rw [star_all [e] X.env cpos (by rw [List.all_cons, hs]; rfl)]; rfl
  refine ps_le (ps_expr (pe_bm PySem.F.plainAttrs_list PySem.F.slot_list_append PySem.F.type_list_append mt_append (pe_var (X := X) (i := i) (by rw [c.N]; exact hi) (c.vis hv) n1 n2) he rfl few hl (star_one hs) rfl) rfl) ?_
  rintro D σ H ⟨w0, H0, w, ρ, S, s, po⟩
  dsimp only at po
  split at po
  · rename_i xs e1
    obtain ⟨l, e2, hf, hg, ys, vs, q1, q2, rp⟩ := s.st.ow i _ e1
    cases q1
    refine ⟨_, e2, .inl ⟨rfl, vs, SqL.of q2⟩, w, ρ, S, s.st, ?_⟩
    show PoR X.K g.xv W (relL X.K) ((ea ρ S).bind fun d S => .ok [d] S) w H ρ σ _
    cases e3 : ea ρ S with
    | bad => rw [e3] at po; exact po
    | exc cc S' => rw [e3] at po; exact fun w' H' x st => po w' σ H' (s.carry x st)
    | ok d S' =>
      rw [e3] at po
      intro us w' H' x st r
      have po : PoS X.K g.xv W w0 H0 (if xs.length < 16777216 then .nx (ρ.set i (.own (.list (xs ++ [d])))) S' else .bad) D := po
      have r : Reps X.K w'.f w'.ι [d] us := r
      have s' := s.carry x st
      cases r with
      | cons r1 t =>
        cases t
        by_cases hz : xs.length < 16777216
        · rw [if_pos hz] at po
          refine ⟨l, vs, _, rfl, rfl, x.k _ _ q2 hg, by rw [← rp.length, sz_eq]; exact hz, po w' σ _ (s'.upd e1 e2 ((x.reps rp).append (.cons r1 .nil)))⟩
        · rw [if_neg hz] at po; exact False.elim po
  · exact False.elim po
theorem t_seti {i : Nat} {x : Str} {px p2 : Pos} (c : Cok X g k cl lvl W) (hi : k.N[i]? = some x) (hv : k.vis x = true) (hn : okNm x = true) (hk : PlainIx b) (hsl : match b with | .Slice .. => False | _ => True) (ha : PEr X g W e ea) (hb : PEr X g W b eb) :
    PSr X g W (.Assign [.Subscript (.Name x px) b p2] e pos) fun ρ S => match ρ[i]? with
      | some (.own (.list xs)) => toRS (ea ρ S) ρ fun d S => toRS (eb ρ S) ρ fun kd S => match kd with
        | .int z => match L2.ixN xs.length z with
          | some j => .nx (ρ.set i (.own (.list (xs.set j d)))) S
          | none => .bad
        | _ => .bad
      | _ => .bad := by
  have ⟨n1, n2, n3⟩ := okNm_of hn
  refine ps_le (ps_asg ha (pg_sub (pe_var (X := X) (i := i) (by rw [c.N]; exact hi) (c.vis hv) n1 n2) hb set_list (by intro v; cases b <;> first | rfl | exact False.elim hsl)) (by unfold swapsWithSole; exact swaps_tup (t := .Subscript (.Name x px) b p2) rfl) (by cases e <;> rfl) rfl) ?_
  rintro D σ H ⟨w0, H0, w, ρ, S, s, po⟩
  dsimp only at po
  split at po
  · rename_i xs e1
    refine ⟨w, ρ, S, s.st, toRS_po s po fun d S' v w' H' s' r po' => ?_⟩
    obtain ⟨l, e2, hf, hg, ys, vs, q1, q2, rp⟩ := s'.st.ow i _ e1
    cases q1
    refine ⟨_, e2, w', ρ, S', s'.st, ?_⟩
    cases e3 : eb ρ S' with
    | bad => rw [e3] at po'; exact po'
    | exc cc S2 => rw [e3] at po'; exact fun w' H' x st => po' w' σ H' (s'.carry x st)
    | ok kd S2 =>
      rw [e3] at po'
      intro u w2 H2 x st r2
      have s2 := s'.carry x st
      have po' : PoS X.K g.xv W w0 H0 (match (generalizing := false) kd with
          | .int z => match L2.ixN xs.length z with
            | some j => .nx (ρ.set i (.own (.list (xs.set j d)))) S2
            | none => .bad
          | _ => .bad) D := po'
      cases r2 with
      | int z =>
        dsimp only at po'
        cases e4 : L2.ixN xs.length z with
        | none => rw [e4] at po'; exact False.elim po'
        | some j =>
          rw [e4] at po'
          exact ⟨l, vs, z, j, rfl, rfl, x.k _ _ q2 hg, by rw [← rp.length]; exact e4, po' w2 σ _ (s2.upd e1 e2 ((x.reps rp).set (x.rep r) j))⟩
      | _ => exact False.elim po'
  · exact False.elim po
end
end FW

namespace FW
open PySem PySem.W PySem.Spec L2

/-! ## comprehensions -/
section
variable {K : PySem.W.Frag} {w w' w1 : Wd} {H H' H1 : Hp} {ρ : List Sl} {σ : SV} {S S' : Hs}
theorem Ext.updN {D : Addr} {o : HO} (x : Ext w1 H1 w H) (h : H1 D = none) : Ext w1 H1 w (L2.upd H D o) where
  f := x.f
  i := x.i
  t := fun a e => by
    by_cases z : a = D
    · subst z; rw [upd_same]; simp
    · rw [upd_ne z]; exact x.t a e
  k := fun a u e g => by rw [upd_ne (fun z => by subst z; rw [h] at e; cases e)]; exact x.k a u e g
  n := x.n
  q := x.q
  m := x.m
theorem Stt.updD (s : Stt K w ρ S σ H) {D : Addr} {o : HO} (hf : w.f D = none) (hg : w.g D = none) (hno : ∀ (i : Nat) (d : FW.D), ρ[i]? = some (Sl.own d) → σ[i]? = some (some (V.ref D)) → False) : Stt K w ρ S σ (L2.upd H D o) where
  sf := fun b u e => by rw [upd_ne (fun z => by subst z; rw [hf] at e; cases e)]; exact s.sf b u e
  sg := fun b u e => by rw [upd_ne (fun z => by subst z; rw [hg] at e; cases e)]; exact s.sg b u e
  dj := s.dj
  ob := s.ob
  len := s.len
  sl := s.sl
  ow := fun i d h => by
    obtain ⟨a, e, f1, g1, c⟩ := s.ow i d h
    refine ⟨a, e, f1, g1, ?_⟩
    rw [upd_ne (fun z => by subst z; exact hno i d h e)]; exact c
  inj := s.inj
theorem wipe_at : ∀ (is : List Nat) (σ : SV) (j : Nat), (wipe σ is)[j]? = if j ∈ is ∧ j < σ.length then some none else σ[j]?
  | [], σ, j => by simp [wipe]
  | i :: is, σ, j => by
    unfold wipe
    by_cases z : i = j
    · subst z
      by_cases hl : i < σ.length
      · rw [List.getElem?_set_self (by rw [wipe_length]; exact hl), if_pos ⟨List.mem_cons_self, hl⟩]
      · rw [List.getElem?_eq_none (by rw [List.length_set, wipe_length]; omega), if_neg (fun q => hl q.2), List.getElem?_eq_none (by omega)]
    · rw [List.getElem?_set_ne z, wipe_at is σ j]
      by_cases h : j ∈ is
      · simp [h]
      · simp [h, Ne.symm z]
theorem wipeL_at : ∀ (is : List Nat) {ρ : List Sl} {j : Nat} {s : Sl}, (FW.wipeL is ρ)[j]? = some s → s ≠ .no → j ∉ is ∧ ρ[j]? = some s
  | [], _, _, _, h, _ => ⟨by simp, h⟩
  | i :: is, ρ, j, s, h, hs => by
    obtain ⟨h1, h2⟩ := wipeL_at is (ρ := ρ.set i .no) h hs
    refine ⟨?_, wipe1_own h2 hs⟩
    intro m
    rcases List.mem_cons.mp m with e | m
    · subst e
      by_cases hl : j < ρ.length
      · rw [List.getElem?_set_self hl] at h2; cases h2; exact hs rfl
      · rw [List.getElem?_eq_none (by simpa using hl)] at h2; cases h2
    · exact h1 m
theorem wipeL_len : ∀ (is : List Nat) (ρ : List Sl), (FW.wipeL is ρ).length = ρ.length
  | [], _ => rfl
  | i :: is, ρ => by
    show (FW.wipeL is (ρ.set i .no)).length = _
    rw [wipeL_len is, List.length_set]
/-- the block's own names forgotten on both sides -/
theorem Stt.wiped (s : Stt K w ρ S σ H) (is : List Nat) : Stt K w (FW.wipeL is ρ) S (wipe σ is) H := by
  have at_ : ∀ {j : Nat}, j ∉ is → (wipe σ is)[j]? = σ[j]? := fun {j} h => by rw [wipe_at, if_neg (fun q => h q.1)]
  refine ⟨s.sf, s.sg, s.dj, s.ob, by rw [wipeL_len, wipe_length]; exact s.len, fun j d h => ?_, fun j d h => ?_, fun j l d e a h1 h2 h3 h4 => ?_⟩
  · obtain ⟨n, h⟩ := wipeL_at is h (by simp)
    rw [at_ n]; exact s.sl j d h
  · obtain ⟨n, h⟩ := wipeL_at is h (by simp)
    rw [at_ n]; exact s.ow j d h
  · obtain ⟨n1, h1⟩ := wipeL_at is h1 (by simp)
    obtain ⟨n2, h2⟩ := wipeL_at is h2 (by simp)
    rw [at_ n1] at h3
    rw [at_ n2] at h4
    exact s.inj j l d e a h1 h2 h3 h4
theorem setV_len : ∀ (is : List Nat) (vs : List V) (σ : SV), (setV is vs σ).length = σ.length
  | [], vs, σ => by cases vs <;> rfl
  | i :: is, [], σ => rfl
  | i :: is, v :: vs, σ => by
    show (setV is vs (σ.set i (some v))).length = _
    rw [setV_len is, List.length_set]
theorem setV_at : ∀ (is : List Nat) (vs : List V) (σ : SV) {j : Nat}, j ∉ is → (setV is vs σ)[j]? = σ[j]?
  | [], vs, σ, j, _ => by cases vs <;> rfl
  | i :: is, [], σ, j, _ => rfl
  | i :: is, v :: vs, σ, j, h => by
    show (setV is vs (σ.set i (some v)))[j]? = _
    rw [setV_at is vs _ (fun m => h (List.mem_cons_of_mem _ m)), List.getElem?_set_ne (fun z => h (by rw [z]; exact List.mem_cons_self))]
theorem wipe_setV (is : List Nat) (vs : List V) (σ : SV) : wipe (setV is vs (wipe σ is)) is = wipe σ is := by
  apply List.ext_getElem?
  intro j
  rw [wipe_at, setV_len, wipe_length, wipe_at]
  by_cases h : j ∈ is ∧ j < σ.length
  · rw [if_pos h, if_pos h]
  · rw [if_neg h, if_neg h]
    by_cases m : j ∈ is
    · have : ¬ j < σ.length := fun q => h ⟨m, q⟩
      rw [List.getElem?_eq_none (by rw [setV_len, wipe_length]; omega), List.getElem?_eq_none (by omega)]
    · rw [setV_at is vs _ m, wipe_at, if_neg (fun q => m q.1)]
end
abbrev W0 : WXs := fun _ _ _ _ => False
theorem rel_look {env : Env} {x : Str} : ∀ {names : List (Str × NameKind)} {k : NameKind}, names.lookup x = some k →
    (names.map fun (n, k) => if (k == NameKind.free && env.scope.kind == .function && env.kindOf n == some .cell) then (n, NameKind.cell) else (n, k)).lookup x = some k ∨
    (k = .free ∧ (names.map fun (n, k) => if (k == NameKind.free && env.scope.kind == .function && env.kindOf n == some .cell) then (n, NameKind.cell) else (n, k)).lookup x = some .cell)
  | [], k, h => by simp at h
  | (n, kk) :: r, k, h => by
    rw [List.map_cons]
    dsimp only
    rw [List.lookup_cons] at h
    by_cases hc : (kk == NameKind.free && env.scope.kind == .function && env.kindOf n == some .cell) = true
    · rw [if_pos hc, List.lookup_cons]
      cases hx : x == n with
      | true =>
        rw [hx] at h
        cases h
        simp only [Bool.and_eq_true, beq_iff_eq] at hc
        exact .inr ⟨hc.1.1, rfl⟩
      | false => rw [hx] at h; exact rel_look h
    · rw [if_neg hc, List.lookup_cons]
      cases hx : x == n with
      | true => rw [hx] at h; cases h; exact .inl rfl
      | false => rw [hx] at h; exact rel_look h
section
variable {X : Cx} {g : Glo} {k : Ck} {cl : Cl} {lvl : Nat} {W : WXs}
theorem Cok.blk (c : Cok X g k cl lvl W) (scope : Scope) (hk : scope.kind = .function) (s : Shared) (H : Hp) (C : Addr) (cs : List (Str × Addr)) (fp : List Addr) : Cok (X.blk s H scope (compEnvC scope cs C X.env) fp) g ⟨k.N, scope⟩ cl lvl W0 where
  gl := c.gl
  calm := c.calm
  nd := c.nd
  N := c.N
  sc := by
    refine ⟨fun x h => ?_, fun x h => ?_, fun x h => ?_, fun x h => ?_⟩
    · exact (rel_look (env := X.env) h).elim id fun z => by cases z.1
    · exact ⟨(rel_look (env := X.env) h).elim id fun z => z.2, by simpa using h⟩
    · exact (rel_look (env := X.env) h).elim .inl fun z => .inr z.2
    · exact (rel_look (env := X.env) h).elim id fun z => by cases z.1
  tk := takes0
  ps := PassesOwn.never
  rm := c.rm
  fk := hk
theorem Cok.blkOk (c : Cok X g k cl lvl W) {scope : Scope} {own : List (Str × Nat)} (h : blkC k.N k.sc scope own = true) : BlkOk X.N X.env.scope scope own := by
  have b := blkOk_by h
  rw [c.N]
  exact ⟨b.kind, b.uniq, b.ix, fun y hy e => (b.free y hy e).elim (fun z => .inl (c.sc.cel _ z).1) fun z => (c.sc.fre _ z).elim .inr .inl, b.own⟩
/-- the tests of a comprehension -/
theorem s_ifs0 : PTs X [] (rd X.K g.xv W relB fun _ S => .ok true S) := ⟨fun pins s σ H Q I ⟨w, ρ, S, st, po⟩ => pts_nil.run pins s σ H Q I (PoR.ok po st rfl)⟩
theorem s_ifs1 {a : Expr} {et : List Sl → Hs → R Bool} (h : PTr X g W a et) : PTs X [a] (rd X.K g.xv W relB fun ρ S => (et ρ S).bind fun k S => if k = true then .ok true S else .ok false S) := by
  refine ⟨fun pins s σ H Q I ⟨w, ρ, S, st, po⟩ => (pts_one h).run pins s σ H Q I ⟨w, ρ, S, st, PoR.seq po fun x S' v w' H' _ _ st' r po' => ?_⟩⟩
  cases (show x = v from r)
  cases x <;> exact PoR.ok po' st' rfl
theorem lc_read {K : PySem.W.Frag} {xv : Str → Value} {W : WXs} {tg : Tg} {ei : List Sl → Hs → R (List FW.D)} {et : List Sl → Hs → R Bool} {ee : List Sl → Hs → R FW.D} (σ : SV) (H : Hp) (Q : VK) :
    rdF K xv W (fun ρ S => (ei ρ S).bind fun xs S => lcLoop (fun x S => match bindTg tg x (wipeL tg.ix ρ) with
        | some ρ1 => (et ρ1 S).bind fun k S => if k = true then (ee ρ1 S).bind fun d S => .ok (some d) S else .ok none S
        | none => .bad) xs S []) σ H Q → tLc (rdI K xv W ei) (gTg K tg) (rd K xv W0 relB et) (rd K xv W0 (relE K) ee) tg.ix σ H Q := by
  rintro ⟨w, ρ, S, st, po⟩
  refine ⟨w, ρ, S, st, PoF.seq po fun ds S1 J w1 H1 _ x1 st1 rel po1 => ?_⟩
  obtain ⟨vs, rv, it⟩ := rel
  intro D hD
  have hDf := st1.free_f hD
  have hno : ∀ (i : Nat) (d : FW.D), ρ[i]? = some (Sl.own d) → σ[i]? = some (some (V.ref D)) → False := fun i d h1 h2 => by
    obtain ⟨a, e1, _, _, xs, us, _, e2, _⟩ := st1.ow i d h1
    rw [h2] at e1; cases e1
    rw [hD] at e2; cases e2
  generalize hf : (fun (x : FW.D) (S : Hs) => match bindTg tg x (wipeL tg.ix ρ) with
        | some ρ1 => (et ρ1 S).bind fun k S => if k = true then (ee ρ1 S).bind fun d S => .ok (some d) S else .ok none S
        | none => (.bad : R (Option FW.D))) = f at po1
  refine ⟨fun i m H => m = vs.length - i ∧ i ≤ vs.length ∧ ∃ w2 S2 acc us, Ext w1 H1 w2 H ∧ Stt K w2 ρ S2 σ H ∧ H D = some (.lst us) ∧ w2.f D = none ∧ w2.g D = none ∧ Reps K w2.f w2.ι acc us ∧ PoF K xv W (lcLoop f (ds.drop i) S2 acc) w1 H1 ρ σ Q,
    ⟨vs.length, by simp, Nat.zero_le _, w1, S1, [], [], Ext.refl.updN hD, st1.updD hDf.1 hDf.2 hno, upd_same, hDf.1, hDf.2, .nil, po1⟩, ?_⟩
  rintro i m H2 ⟨rfl, hi, w2, S2, acc, us, x2, st2, c2, f2, g2, ra, po2⟩
  have hl := rv.length
  obtain ⟨i1, i2⟩ := it H2 (fun b u z => st2.sf _ _ (x2.f _ _ z))
  by_cases hlt : i < vs.length
  · right
    obtain ⟨x, hx⟩ : ∃ x, vs[i]? = some x := ⟨_, List.getElem?_eq_getElem hlt⟩
    obtain ⟨dx, hdx⟩ : ∃ x, ds[i]? = some x := ⟨_, List.getElem?_eq_getElem (by omega)⟩
    obtain ⟨x', hx', rx⟩ := rv.get hdx
    rw [hx] at hx'; cases hx'
    obtain ⟨q1, q2⟩ := i1 i x hx
    have hd : ds.drop i = dx :: ds.drop (i + 1) := by
      obtain ⟨hh, e1⟩ := List.getElem?_eq_some_iff.mp hdx
      rw [← e1]; exact List.drop_eq_getElem_cons hh
    rw [hd] at po2
    have po2 : PoF K xv W (match f dx S2 with
      | .ok (some y) S1 => if acc.length < 16777216 then lcLoop f (ds.drop (i + 1)) S1 (acc ++ [y]) else .bad
      | .ok none S1 => lcLoop f (ds.drop (i + 1)) S1 acc
      | _ => .bad) w1 H1 ρ σ Q := po2
    have fe : f dx S2 = match bindTg tg dx (wipeL tg.ix ρ) with
        | some ρ1 => (et ρ1 S2).bind fun k S => if k = true then (ee ρ1 S).bind fun d S => .ok (some d) S else .ok none S
        | none => (.bad : R (Option FW.D)) := by rw [← hf]
    rw [fe] at po2
    refine ⟨q1, fun H' => ∃ w2 S2 acc us, Ext w1 H1 w2 H' ∧ Stt K w2 ρ S2 σ H' ∧ H' D = some (.lst us) ∧ w2.f D = none ∧ w2.g D = none ∧ Reps K w2.f w2.ι acc us ∧ PoF K xv W (lcLoop f (ds.drop (i + 1)) S2 acc) w1 H1 ρ σ Q,
      fun H' h => ⟨vs.length - (i + 1), by omega, rfl, by omega, h⟩, fun y H' hy => ?_⟩
    obtain ⟨rfl, rfl⟩ := q2 y H' hy
    have hDH : H' D ≠ none := by rw [c2]; simp
    cases e3 : bindTg tg dx (wipeL tg.ix ρ) with
    | none => rw [e3] at po2; exact False.elim po2
    | some ρ1 =>
      rw [e3] at po2
      refine ⟨w2, dx, wipeL tg.ix ρ, S2, st2.wiped tg.ix, x2.rep rx, ρ1, e3, fun σ2 st3 us2 e4 => ⟨by rw [e4]; exact wipe_setV tg.ix us2 σ, w2, ρ1, S2, st3, ?_⟩⟩
      have po2 : PoF K xv W (match (et ρ1 S2).bind fun k S => if k = true then (ee ρ1 S).bind fun d S => .ok (some d) S else .ok none S with
        | .ok (some y) S1 => if acc.length < 16777216 then lcLoop f (ds.drop (i + 1)) S1 (acc ++ [y]) else .bad
        | .ok none S1 => lcLoop f (ds.drop (i + 1)) S1 acc
        | _ => .bad) w1 H1 ρ σ Q := po2
      cases e5 : et ρ1 S2 with
      | bad => rw [e5] at po2; exact False.elim po2
      | exc cc S3 => rw [e5] at po2; exact False.elim po2
      | ok kk S3 =>
        rw [e5] at po2
        intro b w3 H3 x3 st4 rb
        cases (show kk = b from rb)
        have po2 : PoF K xv W (match if kk = true then (ee ρ1 S3).bind fun d S => .ok (some d) S else .ok none S3 with
          | .ok (some y) S1 => if acc.length < 16777216 then lcLoop f (ds.drop (i + 1)) S1 (acc ++ [y]) else .bad
          | .ok none S1 => lcLoop f (ds.drop (i + 1)) S1 acc
          | _ => .bad) w1 H1 ρ σ Q := po2
        obtain ⟨f3, g3⟩ := x3.n D hDH g2 f2
        have c3 := x3.k D _ c2 g2
        cases kk with
        | false =>
          rw [if_neg Bool.false_ne_true] at po2 ⊢
          exact ⟨w3, S3, acc, us, x2.trans x3, st2.carry x3 st4, c3, f3, g3, x3.reps ra, po2⟩
        | true =>
          rw [if_pos rfl] at po2 ⊢
          refine ⟨w3, ρ1, S3, st4, ?_⟩
          cases e6 : ee ρ1 S3 with
          | bad => rw [e6] at po2; exact False.elim po2
          | exc cc S4 => rw [e6] at po2; exact False.elim po2
          | ok d S4 =>
            rw [e6] at po2
            have po2 : PoF K xv W (if acc.length < 16777216 then lcLoop f (ds.drop (i + 1)) S4 (acc ++ [d]) else .bad) w1 H1 ρ σ Q := po2
            intro v w4 H4 x4 st5 rd4
            have hz : acc.length < 16777216 := by
              by_cases hz : acc.length < 16777216
              · exact hz
              · rw [if_neg hz] at po2; exact False.elim po2
            rw [if_pos hz] at po2
            have hDH3 : H3 D ≠ none := by rw [c3]; simp
            obtain ⟨f4, g4⟩ := x4.n D hDH3 g3 f3
            have c4 := x4.k D _ c3 g3
            exact ⟨us, c4, by rw [← ra.length, sz_eq]; exact hz, w4, S4, acc ++ [d], us ++ [v], (x2.trans (x3.trans x4)).updN hD, (st2.carry (x3.trans x4) st5).updD f4 g4 hno, upd_same, f4, g4, (x4.reps (x3.reps ra)).append (.cons rd4 .nil), po2⟩
  · left
    have : i = vs.length := by omega
    subst this
    refine ⟨i2, ?_⟩
    rw [List.drop_eq_nil_of_le (by omega)] at po2
    exact po2 (.ref D) w2 H2 x2 st2 ⟨D, rfl, hD, f2, g2, acc, us, rfl, c2, ra⟩
theorem s_lc {tgE iter elt : Expr} {ifs : List Expr} {scope : Scope} {own : List (Str × Nat)} {pos : Pos} {tg : Tg} {ei : List Sl → Hs → R (List FW.D)} {et : List Sl → Hs → R Bool} {ee : List Sl → Hs → R FW.D} (c : Cok X g k cl lvl W) (hi : PIr X g W tgE iter ei) (ok : BlkOk X.N X.env.scope scope own) (ho : own.map (·.2) = tg.ix)
    (hg : ∀ s H C cs fp, PG (X.blk s H scope (compEnvC scope cs C X.env) fp) tgE (gTg X.K tg)) (ht : ∀ s H C cs fp, PTs (X.blk s H scope (compEnvC scope cs C X.env) fp) ifs (rd X.K g.xv W0 relB et))
    (he : ∀ s H C cs fp, PE (X.blk s H scope (compEnvC scope cs C X.env) fp) elt (rd X.K g.xv W0 (relE X.K) ee)) (hs : notSet iter = true) :
    PFr X g W (.ListComp elt [⟨tgE, iter, ifs, 0⟩] scope pos) fun ρ S => (ei ρ S).bind fun xs S => lcLoop (fun x S => match bindTg tg x (wipeL tg.ix ρ) with
        | some ρ1 => (et ρ1 S).bind fun k S => if k = true then (ee ρ1 S).bind fun d S => .ok (some d) S else .ok none S
        | none => .bad) xs S [] := by
  have q := pe_lc (pos := pos) c.calm c.nd hi ok hg ht he (folded_no hs)
  rw [ho] at q
  exact pe_le q fun σ H Q h => lc_read σ H Q h
/-- held alone or given up -/
theorem pf_pe {a : Expr} {ea : List Sl → Hs → R FW.D} (h : PFr X g W a ea) : PEr X g W a ea := by
  refine pe_le h ?_
  rintro σ H Q ⟨w, ρ, S, st, po⟩
  exact ⟨w, ρ, S, st, po.toF st⟩
/-- x = [..] on one line, x a plain local -/
def swB (k : Ck) (x : Str) (p2 : Pos) (scope : Scope) (pos : Pos) : Bool := decide (k.kind x = some .local) && (p2.line == pos.line) && !(scope.names.any fun (n, k) => n == x && (k == .local || k == .cell))
theorem sw_false {elt : Expr} {gs : List Comprehension} {scope : Scope} {pos p2 : Pos} {x : Str} {l : Nat} (c : Cok X g k cl lvl W) (hx : k.loc x = true) (h : swB k x p2 scope pos = false) : swapsWith (.ListComp elt gs scope pos) (some (.Name x p2)) l X.env = pure false := by
  have e : (X.env.blockKind == .function && X.env.kindOf x == some .local && p2.line == pos.line && !(scope.names.any fun (n, k) => n == x && (k == .local || k == .cell))) = false := by
    unfold swB at h
    cases hk : decide (k.kind x = some .local) with
    | true =>
      rw [hk, Bool.true_and] at h
      rw [Bool.and_assoc, h, Bool.and_false]
    | false =>
      have hk := of_decide_eq_false hk
      have : X.env.kindOf x = some .cell := by
        unfold Ck.loc at hx
        split at hx
        · rename_i e; exact absurd e hk
        · rename_i e; exact (c.sc.cel x e).1
        · cases hx
      rw [this]; simp
  have : swapsWith (.ListComp elt gs scope pos) (some (.Name x p2)) l X.env = pure (X.env.blockKind == .function && X.env.kindOf x == some .local && p2.line == pos.line && !(scope.names.any fun (n, k) => n == x && (k == .local || k == .cell))) := rfl
  rw [this, e]
theorem t_lcGen {tgE iter elt : Expr} {ifs : List Expr} {scope : Scope} {own : List (Str × Nat)} {pos spos p2 : Pos} {tg : Tg} {ei : List Sl → Hs → R (List FW.D)} {et : List Sl → Hs → R Bool} {ee : List Sl → Hs → R FW.D} {i : Nat} {x : Str} {t : L2.TS} (c : Cok X g k cl lvl W) (hi : k.N[i]? = some x) (hx : k.loc x = true) (hI : PIr X g W tgE iter ei) (ok : BlkOk X.N X.env.scope scope own) (ho : own.map (·.2) = tg.ix)
    (hg : ∀ s H C cs fp, PG (X.blk s H scope (compEnvC scope cs C X.env) fp) tgE (gTg X.K tg)) (ht : ∀ s H C cs fp, PTs (X.blk s H scope (compEnvC scope cs C X.env) fp) ifs (rd X.K g.xv W0 relB et))
    (he : ∀ s H C cs fp, PE (X.blk s H scope (compEnvC scope cs C X.env) fp) elt (rd X.K g.xv W0 (relE X.K) ee)) (hs : notSet iter = true)
    (h : ∀ D σ H, t D σ H → rdF X.K g.xv W (fun ρ S => (ei ρ S).bind fun xs S => lcLoop (fun x S => match bindTg tg x (wipeL tg.ix ρ) with
        | some ρ1 => (et ρ1 S).bind fun k S => if k = true then (ee ρ1 S).bind fun d S => .ok (some d) S else .ok none S
        | none => .bad) xs S []) σ H fun v H1 => D.nx (σ.set i (some v)) H1) : PS X (.Assign [.Name x p2] (.ListComp elt [⟨tgE, iter, ifs, 0⟩] scope pos) spos) t := by
  obtain ⟨l1, l2⟩ := c.loc hx
  cases hb : swB k x p2 scope pos with
  | true =>
    unfold swB at hb
    simp only [Bool.and_eq_true, decide_eq_true_eq, Bool.not_eq_true'] at hb
    have hl := c.sc.loc x hb.1.1
    have q := ps_setLc (spos := spos) (pos := pos) c.calm c.nd (by rw [c.N]; exact hi) hl (sw_true c.fk hl hb.1.2 hb.2) hI ok hg ht he (folded_no hs)
    rw [ho] at q
    exact ps_le q fun D σ H z => lc_read σ H _ (h D σ H z)
  | false =>
    have q := pe_lc (pos := pos) c.calm c.nd hI ok hg ht he (folded_no hs)
    rw [ho] at q
    exact ps_le (ps_set c.nd (by rw [c.N]; exact hi) l1 q (sw_false c hx hb) l2) fun D σ H z => lc_read σ H _ (h D σ H z)
end
/-! ## exceptions -/
theorem pmk_own0 {X : Cx} {C : Addr} {bmB : List Value} {B newId initId : String} {x : Str} {p pos : Pos} (F : ExcBaseFacts B newId initId bmB) (q : PySem.W.excIn X.K C bmB newId = true) (gC : X.mg x = some (.ref C)) (kC : PySem.W.keepIn X.K (.ref C) = true) (r : Raises X (.ref C)) (hg : Gl X x)
    (hdb : (x == ("__debug__" : Str)) = false) : PMk X (.Call (.Name x p) [] [] pos) (fun _ H Q => Q (.ref C) none H) := by
  intro pins s σ H Q I h
  obtain ⟨bm, N, nm, qn, bs, hdct, sn, sub, ab, col, dd, k0, k1, k2, k3, k5, mN, hC, hN, hni, tl⟩ := exc_obj I.kIn q
  refine wpAny_Call_Name_kw (ld_glob I hg gC (PySem.W.callWith_K0 I.kIn kC ?_) hdb)
  exact wpAny_call_exc_subT (rest := []) F tl hC hN hni (fun h' e hm => mk_of I hm r h (I.hok.gone hm.new)) (Nat.zero_le _)
section
variable {X : Cx} {g : Glo} {k : Ck} {cl : Cl} {lvl : Nat} {W : WXs}
theorem t_raise {x : Str} {p pos pos2 : Pos} (c : Cok X g k cl lvl W) (hx : x ∈ g.p.xc.xs) (hg : k.isGl x = true) (hn : okNm x = true) : PSr X g W (.Raise (some (.Call (.Name x p) [] [] pos2)) none pos) fun ρ S => .ex x ρ S := by
  obtain ⟨C, e1, e2, e3, e4, e5, e6, _⟩ := (c.gl.exc x hx).ex
  refine ps_le (ps_raise c.calm c.tk (pmk_own0 PySem.F.excBase_ValueError e3 e2 e4 (raises_own e5 e6) (c.isGl hg) (okNm_of hn).1)) ?_
  rintro D σ H ⟨w0, H0, w, ρ, S, s, po⟩
  have q := po w σ H s
  rw [e1] at q
  exact q
/-- a scalar as a value -/
def scV : FW.D → V
  | .bool b => .bl b
  | .int i => .int i
  | .str x => .str x
  | _ => .non
theorem scV_rep {K : PySem.W.Frag} {H : Hp} {ι : List Addr} {d : FW.D} (h : scalar d = true) : Rep K H ι d (scV d) := by
  cases d <;> first | exact .non | exact .bl _ | exact .int _ | exact .str _ | cases h
def heOk : He → Bool
  | .cst d => scalar d
  | .isE _ => true
  | .ite _ d e => scalar d && scalar e
theorem heOk_val {x : Xc} {h : He} {y : Str} (q : heOk h = true) : scalar (Hd.val x h y) = true := by
  cases h with
  | cst d => exact q
  | isE t => rfl
  | ite t d e =>
    simp only [heOk, Bool.and_eq_true] at q
    show scalar (if x.sub y t then d else e) = true
    split
    · exact q.1
    · exact q.2
/-- what a handler's suite is to reach -/
def hdR (x : Xc) (h : Hd) (y : Str) (D : Ends) (σ : SV) (H : Hp) : Prop := match h with
  | .ret v => D.rt (scV (Hd.val x v y)) H
  | .cnt => D.ct σ H
  | .brk => D.bk σ H
  | .pass => D.nx σ H
  | .asg _ _ => False
def tsHd (g : Glo) (h : Hd) (as : Option Nat) : Addr → Value → Option Addr → L2.TS := fun a cls d D σ H => ∃ y, cls = g.xv y ∧ d = none ∧ y ∈ g.p.xc.xs ∧ (∀ i, as = some i → ∃ σ0 : SV, σ = σ0.set i (some (V.ref a))) ∧ hdR g.p.xc h y D σ H
/-- the handler's text -/
def ckHe (k : Ck) (p : Pr) (as : Option Nat) : He → Expr → Bool
  | .cst d => fun z => match z with | .Constant c _ _ => (match d, c with | .none, .none => true | .bool a, .bool b => decide (a = b) | .int a, .int b => decide (a = b) | .str a, .str b => decide (a = b) | _, _ => false) | _ => false
  | .isE t => fun z => match z with | .Call (.Name f _) [.Name n _, .Name u _] [] _ => decide (f = ("isinstance" : Str)) && k.isGl f && decide (u = t) && k.isGl u && okNm u && decide (t ∈ p.xc.xs) && (match as with | some i => decide (k.N[i]? = some n) && k.vis n && okNm n | none => false) | _ => false
  | .ite t d e => fun z => match z with
    | .IfExp (.Call (.Name f _) [.Name n _, .Name u _] [] _) (.Constant c1 _ _) (.Constant c2 _ _) _ => decide (f = ("isinstance" : Str)) && k.isGl f && decide (u = t) && k.isGl u && okNm u && decide (t ∈ p.xc.xs) && (match as with | some i => decide (k.N[i]? = some n) && k.vis n && okNm n | none => false) &&
      (match d, c1 with | .none, .none => true | .bool a, .bool b => decide (a = b) | .int a, .int b => decide (a = b) | .str a, .str b => decide (a = b) | _, _ => false) && (match e, c2 with | .none, .none => true | .bool a, .bool b => decide (a = b) | .int a, .int b => decide (a = b) | .str a, .str b => decide (a = b) | _, _ => false)
    | _ => false
def ckHd (k : Ck) (p : Pr) (as : Option Nat) : Hd → List Stmt → Bool
  | .ret h => fun z => match z with | [.Return (some a) _] => ckHe k p as h a && heOk h | [.Return none _] => (match h with | .cst .none => true | _ => false) | _ => false
  | .cnt => fun z => match z with | [.Continue _] => true | _ => false
  | .brk => fun z => match z with | [.Break _] => true | _ => false
  | .pass => fun z => match z with | [.Pass _] => true | _ => false
  | .asg _ _ => fun _ => false
theorem cst_pe {X : Cx} {d : FW.D} {c : Const} {j : Nat} {pos : Pos} (h : (match d, c with | .none, .none => true | .bool a, .bool b => decide (a = b) | .int a, .int b => decide (a = b) | .str a, .str b => decide (a = b) | _, _ => false) = true) : PE X (.Constant c j pos) (tC (scV d)) := by
  cases d with
  | none => cases c with
    | none => exact pe_non
    | _ => cases h
  | bool a => cases c with
    | bool b => cases (of_decide_eq_true h : a = b); exact pe_bl
    | _ => cases h
  | int a => cases c with
    | int b => cases (of_decide_eq_true h : a = b); exact pe_int
    | _ => cases h
  | str a => cases c with
    | str b => cases (of_decide_eq_true h : a = b); exact pe_str
    | _ => cases h
  | _ => cases c <;> cases h
/-- isinstance(e, C) in a suite, by truth and as a value -/
theorem isE_pe (c : Cok X g k cl lvl W) {a : Addr} {oe : Obj} {cls : Value} {d : Option Addr} {pn : List (Addr × Obj)} (hz : Zc cls d oe) (hf : ∃ vs, oe.data = .fields vs) {f n u : Str} {p1 p2 p3 pos : Pos} {i : Nat} (h1 : f = "isinstance") (h2 : k.isGl f = true) (h4 : k.isGl u = true) (h5 : okNm u = true) (h6 : u ∈ g.p.xc.xs)
    (h7 : k.N[i]? = some n) (h8 : k.vis n = true) (h9 : okNm n = true) : PE (X.suite a ((a, oe) :: pn)) (.Call (.Name f p1) [.Name n p2, .Name u p3] [] pos) fun σ H Q => ∃ y, cls = g.xv y ∧ d = none ∧ y ∈ g.p.xc.xs ∧ (∃ σ0 : SV, σ = σ0.set i (some (V.ref a))) ∧ Q (.bl (g.p.xc.sub y u)) H := by
  subst h1
  refine ⟨fun pins s σ H Q I ⟨y, e1, e2, e3, ⟨σ0, e4⟩, q⟩ => ?_⟩
  have e4 : σ[i]? = some (some (V.ref a)) := by
    have hl : σ.length = X.N.length := I.len
    have hi : i < X.N.length := by rw [c.N]; exact (List.getElem?_eq_some_iff.mp h7).1
    rw [e4] at hl ⊢
    rw [List.length_set] at hl
    rw [List.getElem?_set_self (by omega)]
  obtain ⟨C, b1, b2, b3, b4, b5, b6, b7⟩ := (c.gl.exc y e3).ex
  obtain ⟨C', c1, c2, _⟩ := (c.gl.exc u h6).ex
  subst e1 e2
  rw [b1] at hz
  have ⟨n1, n2, n3⟩ := okNm_of h9
  have pn' : PE (X.suite a ((a, oe) :: pn)) (.Name n p2) (tVar i) := pe_var (by show X.N[i]? = _; rw [c.N]; exact h7) (c.vis h8) n1 n2
  have pu : PE (X.suite a ((a, oe) :: pn)) (.Name u p3) (tC (.ref C')) := pe_glob (X := X.suite a ((a, oe) :: pn)) (c.isGl h4) c2 rfl (okNm_of h5).1
  refine (pe_callB (call_isE b7 hz hf) (c.isGl (X := X) h2) (c.gl.blt _ (by decide +kernel)) (by decide +kernel) (pa_cons pn' (pa_cons pu pa_nil))).run pins s σ H Q I ?_
  refine ⟨_, e4, .ref C', .ref C', _, rfl, fun u r => r, ?_, q⟩
  have := ((c.gl.exc y e3).su u h6).2
  rw [b1, c1] at this
  exact this
theorem t_hd (c : Cok X g k cl lvl W) {a : Addr} {oe : Obj} {cls : Value} {d : Option Addr} {pn : List (Addr × Obj)} (hz : Zc cls d oe) (hf : ∃ vs, oe.data = .fields vs) (h : Hd) (as : Option Nat) (ss : List Stmt) (ck : ckHd k g.p as h ss = true) : PSs (X.suite a ((a, oe) :: pn)) ss (tsHd g h as a cls d) := by
  cases h with
  | ret v =>
    simp only [ckHd] at ck
    split at ck
    · rename_i e pos
      simp only [Bool.and_eq_true] at ck
      obtain ⟨ck, hok⟩ := ck
      cases v with
      | cst dd =>
        simp only [ckHe] at ck
        split at ck
        · refine pss_le (pss_one (ps_ret (cst_pe ck))) ?_
          rintro D σ H ⟨y, _, _, _, _, q⟩
          exact q
        · cases ck
      | isE t =>
        simp only [ckHe] at ck
        split at ck
        · simp only [Bool.and_eq_true, decide_eq_true_eq] at ck
          obtain ⟨⟨⟨⟨⟨⟨h1, h2⟩, h3⟩, h4⟩, h5⟩, h6⟩, h7⟩ := ck
          cases as with
          | none => cases h7
          | some i =>
            simp only [Bool.and_eq_true, decide_eq_true_eq] at h7
            subst h3
            refine pss_le (pss_one (ps_ret (isE_pe c hz hf h1 h2 h4 h5 h6 h7.1.1 h7.1.2 h7.2))) ?_
            rintro D σ H ⟨y, e1, e2, e3, e4, q⟩
            exact ⟨y, e1, e2, e3, e4 i rfl, q⟩
        · cases ck
      | ite t d1 d2 =>
        simp only [ckHe] at ck
        split at ck
        · simp only [Bool.and_eq_true, decide_eq_true_eq] at ck
          obtain ⟨⟨⟨⟨⟨⟨⟨⟨h1, h2⟩, h3⟩, h4⟩, h5⟩, h6⟩, h7⟩, h8⟩, h9⟩ := ck
          cases as with
          | none => cases h7
          | some i =>
            simp only [Bool.and_eq_true, decide_eq_true_eq] at h7
            subst h3
            refine pss_le (pss_one (ps_ret (pe_ifExp (pt_truth (isE_pe c hz hf h1 h2 h4 h5 h6 h7.1.1 h7.1.2 h7.2) (fun _ => rfl)) (cst_pe h8) (cst_pe h9)))) ?_
            rintro D σ H ⟨y, e1, e2, e3, e4, q⟩
            refine ⟨y, e1, e2, e3, e4 i rfl, g.p.xc.sub y _, rfl, ?_⟩
            have q : D.rt (scV (if g.p.xc.sub y _ = true then d1 else d2)) H := q
            cases z : g.p.xc.sub y _ with
            | true => rw [z, if_pos rfl] at q; exact q
            | false => rw [z, if_neg Bool.false_ne_true] at q; exact q
        · cases ck
    · split at ck
      · refine pss_le (pss_one ps_retN) ?_
        rintro D σ H ⟨y, _, _, _, _, q⟩
        exact q
      · cases ck
    · cases ck
  | cnt =>
    simp only [ckHd] at ck
    split at ck
    · refine pss_le (pss_one ps_continue) ?_
      rintro D σ H ⟨y, _, _, _, _, q⟩
      exact q
    · cases ck
  | brk =>
    simp only [ckHd] at ck
    split at ck
    · refine pss_le (pss_one ps_break) ?_
      rintro D σ H ⟨y, _, _, _, _, q⟩
      exact q
    · cases ck
  | pass =>
    simp only [ckHd] at ck
    split at ck
    · refine pss_le (pss_one ps_pass) ?_
      rintro D σ H ⟨y, _, _, _, _, q⟩
      exact q
    · cases ck
  | asg _ _ => simp [ckHd] at ck
theorem Cok.tr (c : Cok X g k cl lvl W) {W' : WXs} {pn : List (Addr × Obj)} {xe : Value → Shared → Prop} (tk : Takes (X.tr pn xe) W') (ps : PassesOwn (model X.prog X.w) X.A X.env xe) : Cok (X.tr pn xe) g k cl lvl W' where
  gl := c.gl
  calm := c.calm
  nd := c.nd
  N := c.N
  sc := ⟨c.sc.loc, c.sc.cel, c.sc.fre, c.sc.gim⟩
  tk := tk
  ps := ps
  rm := c.rm
  fk := c.fk
theorem Sok.setNo {K : PySem.W.Frag} {w0 w : Wd} {H0 H : Hp} {ρ : List Sl} {S : Hs} {σ : SV} (s : Sok K w0 H0 w ρ S σ H) (i : Nat) : Sok K w0 H0 w (ρ.set i .no) S (σ.set i none) H := by
  have := s.st.wiped [i]
  refine ⟨this, s.x, fun j d a h1 h2 => ?_⟩
  obtain ⟨n, h1⟩ := wipeL_at [i] (ρ := ρ) h1 (by simp)
  have n : i ≠ j := fun z => n (by simp [z])
  rw [List.getElem?_set_ne n] at h2
  exact s.o j d a h1 h2
def hdOk : Hd → Prop
  | .ret v => heOk v = true
  | .asg _ _ => False
  | _ => True
theorem kit_ref {K : PySem.W.Frag} {a C : Addr} {b : Bool} (ht : PySem.W.typeIn K (.ref C) = some (.type "type")) (hd : PySem.W.hasDictIn K C = true) (h : PySem.W.subIn K (.ref a) (.ref C) = some b) (h2 : PySem.W.subIn K (.ref a) (.ref a) = some true) : PySem.W.kitOne K (.ref a) (.ref C) = some b := by
  obtain ⟨cd, hc, _⟩ := any_some hd
  have e2 : ((PySem.W.clsIn K C).isSome && PySem.W.typeIn K (.ref C) == some (.type "type")) = true := by rw [hc, ht]; rfl
  unfold PySem.W.kitOne
  by_cases z : (Value.ref a == Value.ref C) = true
  · rw [if_pos z]
    have z : a = C := Value.ref.inj (beq_iff_eq.mp z)
    subst z
    rw [h2] at h
    cases h; rfl
  · rw [if_neg z]
    show (if ((PySem.W.clsIn K C).isSome && PySem.W.typeIn K (.ref C) == some (.type "type")) = true then PySem.W.subIn K (.ref a) (.ref C) else none) = some b
    rw [if_pos e2, h]
/-- what the evaluator's handler says, as its suite wants it -/
theorem hd_of {K : PySem.W.Frag} {g : Glo} {W : WXs} {w0 w : Wd} {H0 H : Hp} {ρ : List Sl} {S : Hs} {σ : SV} {D : Ends} {h : Hd} {y : Str} (s : Sok K w0 H0 w ρ S σ H) (hok : hdOk h) (po : PoS K g.xv W w0 H0 (runHd g.p.xc h none y ρ S) D) : hdR g.p.xc h y D σ H := by
  cases h with
  | ret v => exact (show PoS K g.xv W w0 H0 (.rt false (Hd.val g.p.xc v y) S) D from po) _ w H s.x s.st.bare (fun _ => scV_rep (heOk_val hok)) fun z => nomatch z
  | cnt => exact (show PoS K g.xv W w0 H0 (.ct ρ S) D from po) w σ H s
  | brk => exact (show PoS K g.xv W w0 H0 (.bk ρ S) D from po) w σ H s
  | pass => exact (show PoS K g.xv W w0 H0 (.nx ρ S) D from po) w σ H s
  | asg _ _ => exact False.elim hok
theorem hd_ofAs {K : PySem.W.Frag} {g : Glo} {W : WXs} {w0 w : Wd} {H0 H : Hp} {ρ : List Sl} {S : Hs} {σ : SV} {D : Ends} {h : Hd} {y : Str} {i : Nat} {a : Addr} (s : Sok K w0 H0 w ρ S σ H) (hok : hdOk h) (po : PoS K g.xv W w0 H0 (runHd g.p.xc h (some i) y ρ S) D) :
    hdR g.p.xc h y { nx := fun σ' H' => D.nx (σ'.set i none) H', rt := D.rt, bk := fun σ' H' => D.bk (σ'.set i none) H', ct := fun σ' H' => D.ct (σ'.set i none) H' } (σ.set i (some (.ref a))) H := by
  have e : (σ.set i (some (V.ref a))).set i none = σ.set i none := List.set_set ..
  cases h with
  | ret v => exact (show PoS K g.xv W w0 H0 (.rt false (Hd.val g.p.xc v y) S) D from po) _ w H s.x s.st.bare (fun _ => scV_rep (heOk_val hok)) fun z => nomatch z
  | cnt => show D.ct ((σ.set i (some (V.ref a))).set i none) H; rw [e]; exact (show PoS K g.xv W w0 H0 (.ct (ρ.set i .no) S) D from po) w _ H (s.setNo i)
  | brk => show D.bk ((σ.set i (some (V.ref a))).set i none) H; rw [e]; exact (show PoS K g.xv W w0 H0 (.bk (ρ.set i .no) S) D from po) w _ H (s.setNo i)
  | pass => show D.nx ((σ.set i (some (V.ref a))).set i none) H; rw [e]; exact (show PoS K g.xv W w0 H0 (.nx (ρ.set i .no) S) D from po) w _ H (s.setNo i)
  | asg _ _ => exact False.elim hok
theorem ckHd_ok {as : Option Nat} {h : Hd} {p : Pr} {ss : List Stmt} (ck : ckHd k p as h ss = true) : hdOk h ∧ ss ≠ [] := by
  cases h with
  | ret v =>
    simp only [ckHd] at ck
    split at ck
    · simp only [Bool.and_eq_true] at ck; exact ⟨(ck.2 : heOk v = true), by simp⟩
    · split at ck
      · exact ⟨(rfl : heOk (.cst .none) = true), by simp⟩
      · cases ck
    · cases ck
  | asg _ _ => simp [ckHd] at ck
  | _ =>
    simp only [ckHd] at ck
    split at ck
    · exact ⟨trivial, by simp⟩
    · cases ck
structure Cos (X : Cx) (g : Glo) (k : Ck) (cl : Cl) (lvl : Nat) (W : WXs) : Prop where
  c : Cok X g k cl lvl W
  hs : X.stack = X.env :: X.outer
  hf : X.env.frame = some X.env.locals
theorem names_of (c : Cok X g k cl lvl W) {x : Str} (hx : x ∈ g.p.xc.xs) (hg : k.isGl x = true) (hn : okNm x = true) : Names X x (g.xv x) := by
  obtain ⟨C, e1, e2, _⟩ := (c.gl.exc x hx).ex
  rw [e1]
  exact ⟨c.isGl hg, (okNm_of hn).1, .inl e2⟩
theorem t_try {x : Str} {body ss : List Stmt} {np pos pos' : Pos} {vb : List Sl → Hs → RS} {h : Hd} (c : Cos X g k cl lvl W) (hx : x ∈ g.p.xc.xs) (hg : k.isGl x = true) (hn : okNm x = true) (hb : ∀ (W' : WXs) (pn : List (Addr × Obj)) (xe : Value → Shared → Prop), Cos (X.tr pn xe) g k cl lvl W' → PSs (X.tr pn xe) body (rdS X.K g.xv W' vb)) (ck : ckHd k g.p none h ss = true) :
    PSr X g W (.Try body [.ExceptHandler (some (.Name x np)) none ss pos'] [] [] pos) fun ρ S => match vb ρ S with
      | .ex y ρ' S' => if g.p.xc.xs.contains y = true then (if g.p.xc.sub y x = true then runHd g.p.xc h none y ρ' S' else .ex y ρ' S') else .bad
      | r => r := by
  obtain ⟨hok, hne⟩ := ckHd_ok ck
  cases ss with
  | nil => exact absurd rfl hne
  | cons b0 suite =>
    refine ps_le (ps_try_only (Wout := W) (tb := fun W' => rdS X.K g.xv W' vb) (ts := tsHd g h none) c.hs c.hf (names_of c.c hx hg hn) c.c.tk (fun W' pn xe tk ps => hb W' pn xe ⟨c.c.tr tk ps, c.hs, c.hf⟩) (fun a oe cls d pn hz hf => t_hd c.c hz hf h none _ ck)) ?_
    rintro D σ H ⟨w0, H0, w, ρ, S, s, po⟩
    refine ⟨w0, H0, w, ρ, S, s, ?_⟩
    dsimp only at po
    cases e : vb ρ S with
    | ex y ρ' S' =>
      rw [e] at po
      have po : PoS X.K g.xv W w0 H0 (if g.p.xc.xs.contains y = true then (if g.p.xc.sub y x = true then runHd g.p.xc h none y ρ' S' else .ex y ρ' S') else .bad) D := po
      by_cases hy : g.p.xc.xs.contains y = true
      · rw [if_pos hy] at po
        have hy' : y ∈ g.p.xc.xs := by simpa using hy
        intro w' σ' H' s'
        refine ⟨g.p.xc.sub y x, ((c.c.gl.exc y hy').su x hx).1, fun z a na => ?_, fun z => ?_⟩
        · rw [if_pos z] at po
          exact ⟨y, rfl, rfl, hy', (fun i z => by cases z), hd_of s' hok po⟩
        · rw [if_neg (by rw [z]; decide)] at po
          exact po w' σ' H' s'
      · rw [if_neg hy] at po; exact False.elim po
    | nx _ _ => rw [e] at po; exact po
    | bk _ _ => rw [e] at po; exact po
    | ct _ _ => rw [e] at po; exact po
    | rt _ _ _ => rw [e] at po; exact po
    | bad => rw [e] at po; exact po
theorem t_tryAs {x n : Str} {i : Nat} {body ss : List Stmt} {np pos pos' : Pos} {vb : List Sl → Hs → RS} {h : Hd} (c : Cos X g k cl lvl W) (hx : x ∈ g.p.xc.xs) (hg : k.isGl x = true) (hn : okNm x = true) (hi : k.N[i]? = some n) (hl : k.kind n = some .local) (hb : ∀ (W' : WXs) (pn : List (Addr × Obj)) (xe : Value → Shared → Prop), Cos (X.tr pn xe) g k cl lvl W' → PSs (X.tr pn xe) body (rdS X.K g.xv W' vb)) (ck : ckHd k g.p (some i) h ss = true) :
    PSr X g W (.Try body [.ExceptHandler (some (.Name x np)) (some n) ss pos'] [] [] pos) fun ρ S => match vb ρ S with
      | .ex y ρ' S' => if g.p.xc.xs.contains y = true then (if g.p.xc.sub y x = true then runHd g.p.xc h (some i) y ρ' S' else .ex y ρ' S') else .bad
      | r => r := by
  obtain ⟨hok, hne⟩ := ckHd_ok ck
  cases ss with
  | nil => exact absurd rfl hne
  | cons b0 suite =>
    have hil : i < k.N.length := (List.getElem?_eq_some_iff.mp hi).1
    refine ps_le (ps_try_as (Wout := W) (tb := fun W' => rdS X.K g.xv W' vb) (ts := tsHd g h (some i)) c.hs c.hf c.c.nd (by rw [c.c.N]; exact hi) (c.c.sc.loc n hl) (names_of c.c hx hg hn) c.c.tk (fun W' pn xe tk ps => hb W' pn xe ⟨c.c.tr tk ps, c.hs, c.hf⟩) (fun a oe cls d pn hz hf => t_hd c.c hz hf h (some i) _ ck)) ?_
    rintro D σ H ⟨w0, H0, w, ρ, S, s, po⟩
    refine ⟨w0, H0, w, ρ, S, s, ?_⟩
    dsimp only at po
    cases e : vb ρ S with
    | ex y ρ' S' =>
      rw [e] at po
      have po : PoS X.K g.xv W w0 H0 (if g.p.xc.xs.contains y = true then (if g.p.xc.sub y x = true then runHd g.p.xc h (some i) y ρ' S' else .ex y ρ' S') else .bad) D := po
      by_cases hy : g.p.xc.xs.contains y = true
      · rw [if_pos hy] at po
        have hy' : y ∈ g.p.xc.xs := by simpa using hy
        intro w' σ' H' s'
        refine ⟨g.p.xc.sub y x, ((c.c.gl.exc y hy').su x hx).1, fun z a na => ?_, fun z => ?_⟩
        · rw [if_pos z] at po
          exact ⟨y, rfl, rfl, hy', (fun j z => by cases z; exact ⟨σ', rfl⟩), hd_ofAs s' hok po⟩
        · rw [if_neg (by rw [z]; decide)] at po
          exact po w' σ' H' s'
      · rw [if_neg hy] at po; exact False.elim po
    | nx _ _ => rw [e] at po; exact po
    | bk _ _ => rw [e] at po; exact po
    | ct _ _ => rw [e] at po; exact po
    | rt _ _ _ => rw [e] at po; exact po
    | bad => rw [e] at po; exact po
end
end FW

namespace FW
open PySem PySem.W PySem.Spec L2

/-! ## the text is what the evaluator runs: looked up -/
def ckCst : FW.D → Const → Bool
  | .none, .none => true
  | .bool a, .bool b => decide (a = b)
  | .int a, .int b => decide (a = b)
  | .str a, .str b => decide (a = b)
  | _, _ => false
def notSlice : Expr → Bool
  | .Slice .. => false
  | _ => true
def Es.len : Es → Nat
  | .nil => 0
  | .cons _ es => es.len + 1
def plainTr : Expr → Bool
  | .UnaryOp .Not _ _ => false
  | .BoolOp .. => false
  | .IfExp .. => false
  | .Compare .. => false
  | _ => true
def ownOf : Expr → Tg → List (Str × Nat)
  | .Name x _, .one i => [(x, i)]
  | .Tuple es _ _, .many is => (es.filterMap fun e => match e with | .Name x _ => some x | _ => none).zip is
  | _, _ => []
mutual
def ckE (k : Ck) (p : Pr) : E → Expr → Bool
  | .var i => fun a => match a with | .Name x _ => decide (k.N[i]? = some x) && k.vis x && okNm x | _ => false
  | .cst d => fun a => match a with | .Constant c _ _ => ckCst d c | _ => false
  | .glo x => fun a => match a with | .Name y _ => decide (x = y) && k.isGl y && okNm y && (p.gl.lookup y).isSome | _ => false
  | .neg a => fun z => match z with | .UnaryOp .USub e _ => ckE k p a e | _ => false
  | .bin op a b => fun z => match z with | .BinOp x o y _ => decide (o = op.op) && ckE k p a x && ckE k p b y | _ => false
  | .cmp op a b => fun z => match z with | .Compare x [o] [y] _ => decide (o = op.op) && ckE k p a x && ckE k p b y && !behindInMarks o y | _ => false
  | .isN a => fun z => match z with | .Compare x [.Is] [.Constant .none _ _] _ => ckE k p a x | _ => false
  | .notN a => fun z => match z with | .Compare x [.IsNot] [.Constant .none _ _] _ => ckE k p a x | _ => false
  | .isB a v => fun z => match z with | .Compare x [.Is] [.Constant (.bool u) _ _] _ => decide (u = v) && ckE k p a x | _ => false
  | .ntB a v => fun z => match z with | .Compare x [.IsNot] [.Constant (.bool u) _ _] _ => decide (u = v) && ckE k p a x | _ => false
  | .chain o1 o2 a b d => fun w => match w with | .Compare x [p1, p2] [y, z] _ => decide (p1 = o1.op) && decide (p2 = o2.op) && ckE k p a x && ckE k p b y && ckE k p d z && !lastMarks [p1, p2] [y, z] | _ => false
  | .and es => fun z => match z with | .BoolOp .And xs _ => ckL k p es xs && !xs.isEmpty | _ => false
  | .or es => fun z => match z with | .BoolOp .Or xs _ => ckL k p es xs && !xs.isEmpty | _ => false
  | .not a => fun z => match z with | .UnaryOp .Not e _ => ckE k p a e | _ => false
  | .ite t a b => fun z => match z with | .IfExp c x y _ => ckT k p t c && ckE k p a x && ckE k p b y | _ => false
  | .tup es => fun z => match z with | .Tuple xs _ _ => ckL k p es xs && xs.all notStar | _ => false
  | .lst es => fun z => match z with | .List xs _ => ckL k p es xs && xs.all notStar | _ => false
  | .idx a b => fun z => match z with | .Subscript x y _ => notSlice y && ckE k p a x && ckE k p b y | _ => false
  | .slc a lo hi => fun z => match z with | .Subscript x (.Slice l h .none _) _ => ckE k p a x && ckO k p lo l && ckO k p hi h | _ => false
  | .call f es => fun z => match z with | .Call (.Name y _) xs [] _ => decide (f = y) && k.isGl y && okNm y && (match findF p.fs f with | some d => decide (d.np = es.len) | none => false) && ckL k p es xs && xs.all notStar | _ => false
  | .bi f es => fun z => match z with | .Call (.Name y _) xs [] _ => decide (y = f.nm) && k.isGl y && ckL k p es xs && xs.all notStar && !xs.isEmpty | _ => false
  | .mt m o es => fun z => match z with
    | .Call (.Attribute x y ap) [z] [] cp => isTx m && decide (y = m.nm) && ckE k p o x && ckL k p es [z] && notStar z && okBase x && (ap.endLine == cp.line)
    | .Call (.Attribute x y ap) [] [] cp => decide (m = .isdigit) && decide (y = Mf.isdigit.nm) && ckE k p o x && ckL k p es [] && okBase x && (ap.endLine == cp.line)
    | _ => false
  | .isi a t => fun z => match z with | .Call (.Name x _) [e, .Name y _] [] _ => okTy t && decide (x = ("isinstance" : Str)) && decide (y = tyNm t) && k.isGl x && k.isGl y && ckE k p a e && notStar e | _ => false
  | .bw _ e => fun z => ckE k p e z
  | .lc tg it ts e => fun z => match z with
    | .ListComp elt [⟨t, i, ifs, 0⟩] scope _ => ckI k p it i && notSet i && blkC k.N k.sc scope (ownOf t tg) && decide ((ownOf t tg).map (·.2) = tg.ix) && ckTg ⟨k.N, scope⟩ tg t && (match ifs with
        | [] => ckTs ⟨k.N, scope⟩ p ts []
        | [c] => ckTs ⟨k.N, scope⟩ p ts [c]
        | _ => false) && ckE ⟨k.N, scope⟩ p e elt
    | _ => false
  | _ => fun _ => false
def ckT (k : Ck) (p : Pr) : T → Expr → Bool
  | .tru (.cmp op a b) => fun z => match z with | .Compare x [o] [y] _ => decide (o = op.op) && ckE k p a x && ckE k p b y && !behindInMarks o y | _ => false
  | .tru (.isN a) => fun z => match z with | .Compare x [.Is] [.Constant .none _ _] _ => ckE k p a x | _ => false
  | .tru (.notN a) => fun z => match z with | .Compare x [.IsNot] [.Constant .none _ _] _ => ckE k p a x | _ => false
  | .tru (.isB a v) => fun z => match z with | .Compare x [.Is] [.Constant (.bool u) _ _] _ => decide (u = v) && ckE k p a x | _ => false
  | .tru (.ntB a v) => fun z => match z with | .Compare x [.IsNot] [.Constant (.bool u) _ _] _ => decide (u = v) && ckE k p a x | _ => false
  | .tru (.chain o1 o2 a b d) => fun w => match w with | .Compare x [p1, p2] [y, z] _ => decide (p1 = o1.op) && decide (p2 = o2.op) && ckE k p a x && ckE k p b y && ckE k p d z && !lastMarks [p1, p2] [y, z] | _ => false
  | .tru e => fun a => plainTr a && ckE k p e a
  | .and ts => fun z => match z with | .BoolOp .And xs _ => ckTs k p ts xs && !xs.isEmpty | _ => false
  | .or ts => fun z => match z with | .BoolOp .Or xs _ => ckTs k p ts xs && !xs.isEmpty | _ => false
  | .not t => fun z => match z with | .UnaryOp .Not e _ => ckT k p t e | _ => false
  | .bw _ t => fun z => ckT k p t z
def ckI (k : Ck) (p : Pr) : It → Expr → Bool
  | .seq e => fun a => ckE k p e a && notSet a
  | .rg1 a => fun z => match z with | .Call (.Name x _) [e] [] _ => decide (x = ("range" : Str)) && k.isGl x && ckE k p a e && notStar e | _ => false
  | .rg2 a b => fun z => match z with | .Call (.Name x _) [e, f] [] _ => decide (x = ("range" : Str)) && k.isGl x && ckE k p a e && ckE k p b f && notStar e && notStar f | _ => false
def ckL (k : Ck) (p : Pr) : Es → List Expr → Bool
  | .nil => fun z => match z with | [] => true | _ => false
  | .cons e es => fun z => match z with | a :: as => ckE k p e a && ckL k p es as | _ => false
def ckO (k : Ck) (p : Pr) : Es → Option Expr → Bool
  | .nil => fun z => match z with | none => true | _ => false
  | .cons e .nil => fun z => match z with | some a => ckE k p e a | _ => false
  | .cons _ (.cons _ _) => fun _ => false
def ckTs (k : Ck) (p : Pr) : Ts → List Expr → Bool
  | .nil => fun z => match z with | [] => true | _ => false
  | .cons t ts => fun z => match z with | a :: as => ckT k p t a && ckTs k p ts as | _ => false
end
/-- an expression that makes a new list -/
def ckF (k : Ck) (p : Pr) : E → Expr → Bool
  | .call f es => fun z => match z with | .Call (.Name y _) xs [] _ => decide (f = y) && k.isGl y && okNm y && (match findF p.fs f with | some d => decide (d.np = es.len) | none => false) && ckL k p es xs && xs.all notStar | _ => false
  | .lst es => fun z => match z with | .List xs _ => ckL k p es xs && xs.all notStar | _ => false
  | .slc a lo hi => fun z => match z with | .Subscript x (.Slice l h .none _) _ => ckE k p a x && ckO k p lo l && ckO k p hi h | _ => false
  | .bin op a b => fun z => match z with | .BoolOp .. => false | .BinOp x o y _ => (op == .add || op == .mul) && decide (o = op.op) && ckE k p a x && ckE k p b y | _ => false
  | .lc tg it ts e => fun z => ckE k p (.lc tg it ts e) z
  | .bi f es => fun z => match z with | .Call (.Name y _) xs [] _ => (f == .list || f == .sorted) && decide (y = f.nm) && k.isGl y && ckL k p es xs && xs.all notStar && !xs.isEmpty | _ => false
  | _ => fun _ => false
def isLc : E → Bool
  | .lc .. => true
  | _ => false
mutual
def ckS (k : Ck) (p : Pr) : S → Stmt → Bool
  | .asg i e => fun z => match z with | .Assign [.Name x _] a _ => decide (k.N[i]? = some x) && k.loc x && (noComp a || isLc e) && ckE k p e a | _ => false
  | .asgO i e => fun z => match z with | .Assign [.Name x _] a _ => decide (k.N[i]? = some x) && k.loc x && (noComp a || isLc e) && ckF k p e a | _ => false
  | .asgT is e => fun z => match z with | .Assign [t] a _ => ckTg k (.many is) t && notTup a && ckE k p e a | _ => false
  | .aug i op e => fun z => match z with | .AugAssign (.Name x _) o a _ => (op == .add || op == .sub) && decide (o = op.op) && decide (k.N[i]? = some x) && k.loc x && ckE k p e a | _ => false
  | .expr e => fun z => match z with | .Expr a _ => noComp a && ckE k p e a | _ => false
  | .app i e => fun z => match z with | .Expr (.Call (.Attribute (.Name x _) y ap) [a] [] cp) _ => decide (k.N[i]? = some x) && k.vis x && okNm x && decide (y = ("append" : Str)) && ckE k p e a && notStar a && (ap.endLine == cp.line) | _ => false
  | .ext _ _ => fun _ => false
  | .seti i b e => fun z => match z with | .Assign [.Subscript (.Name x _) c _] a _ => decide (k.N[i]? = some x) && k.vis x && okNm x && notSlice c && ckE k p e a && ckE k p b c | _ => false
  | .ret e => fun z => match z with | .Return (some a) _ => ckE k p e a | _ => false
  | .retO i => fun z => match z with | .Return (some (.Name x _)) _ => decide (k.N[i]? = some x) && k.vis x && okNm x | _ => false
  | .retF e => fun z => match z with | .Return (some a) _ => ckF k p e a | _ => false
  | .retN => fun z => match z with | .Return none _ => true | _ => false
  | .ifS t a b => fun z => match z with | .If c x y _ => ckT k p t c && ckSs k p a x && ckSs k p b y | _ => false
  | .whl t b _ => fun z => match z with | .While c x [] _ => ckT k p t c && ckSs k p b x | _ => false
  | .forS tg it b _ => fun z => match z with | .For t i x [] _ => ckTg k tg t && ckI k p it i && notSet i && ckSs k p b x | _ => false
  | .brk => fun z => match z with | .Break _ => true | _ => false
  | .cnt => fun z => match z with | .Continue _ => true | _ => false
  | .pass => fun z => match z with | .Pass _ => true | _ => false
  | .raise y => fun z => match z with | .Raise (some (.Call (.Name x _) [] [] _)) none _ => decide (x = y) && decide (y ∈ p.xc.xs) && k.isGl x && okNm x | _ => false
  | .tryS b y as h => fun z => match z with
    | .Try body [.ExceptHandler (some (.Name x _)) n ss _] [] [] _ => decide (x = y) && decide (y ∈ p.xc.xs) && k.isGl x && okNm x && ckSs k p b body && ckHd k p as h ss && (match as, n with | none, none => true | some i, some nm => decide (k.N[i]? = some nm) && decide (k.kind nm = some .local) | _, _ => false)
    | _ => false
  | .frz _ => fun _ => false
  | .wipe _ => fun _ => false
def ckSs (k : Ck) (p : Pr) : Ss → List Stmt → Bool
  | .nil => fun z => match z with | [] => true | _ => false
  | .cons (.frz _) ss => fun as => ckSs k p ss as
  | .cons (.wipe _) ss => fun as => ckSs k p ss as
  | .cons s ss => fun z => match z with | a :: as => ckS k p s a && ckSs k p ss as | _ => false
end
end FW

namespace FW
open PySem PySem.W PySem.Spec L2

theorem evEs_len (c : Env1) : ∀ (es : Es) {ρ : List Sl} {S : Hs} {ds : List FW.D} {S' : Hs}, evEs c es ρ S = .ok ds S' → ds.length = es.len
  | .nil, ρ, S, ds, S', h => by cases h; rfl
  | .cons e es, ρ, S, ds, S', h => by
    have h : ((evE c e ρ S).bind fun d S => (evEs c es ρ S).bind fun ds S => .ok (d :: ds) S) = .ok ds S' := h
    cases e1 : evE c e ρ S with
    | ok d S1 =>
      rw [e1] at h
      have h : ((evEs c es ρ S1).bind fun ds S => .ok (d :: ds) S) = .ok ds S' := h
      cases e2 : evEs c es ρ S1 with
      | ok r S2 =>
        rw [e2] at h
        have h : R.ok (d :: r) S2 = .ok ds S' := h
        cases h
        rw [List.length_cons, evEs_len c es e2]; rfl
      | exc _ _ => rw [e2] at h; cases h
      | bad => rw [e2] at h; cases h
    | exc _ _ => rw [e1] at h; cases h
    | bad => rw [e1] at h; cases h
theorem cst_ok {X : Cx} {g : Glo} {W : WXs} {d : FW.D} {c : Const} {j : Nat} {pos : Pos} (h : ckCst d c = true) : PEr X g W (.Constant c j pos) fun _ S => .ok d S := by
  cases d with
  | none => cases c with
    | none => exact s_const pe_non fun _ _ => .non
    | _ => cases h
  | bool a => cases c with
    | bool b => cases (of_decide_eq_true h : a = b); exact s_const pe_bl fun _ _ => .bl a
    | _ => cases h
  | int a => cases c with
    | int b => cases (of_decide_eq_true h : a = b); exact s_const pe_int fun _ _ => .int a
    | _ => cases h
  | str a => cases c with
    | str b => cases (of_decide_eq_true h : a = b); exact s_const pe_str fun _ _ => .str a
    | _ => cases h
  | _ => cases c <;> cases h
section
variable {g : Glo} {cl : Cl} {lvl : Nat}
theorem plainIx_of {X : Cx} {y : Expr} (h : notSlice y = true) : PlainIx y := by
  intro o i
  cases y <;> first | rfl | cases h
theorem tru_plain {X : Cx} {a : Expr} (h : plainTr a = true) : ∀ whole, isTrue a X.env whole = (do let v ← whole; standAt a.pos; holding [v] (truthy v)) := by
  intro w
  cases a with
  | UnaryOp op e p => cases op <;> first | rfl | cases h
  | _ => first | rfl | cases h
theorem one_and {X : Cx} {W : WXs} {a : Expr} {pos : Pos} {ev : List Sl → Hs → R FW.D} (op : BoolOp) (h : PEr X g W a ev) : PEr X g W (.BoolOp op [a] pos) ev := pe_one h
mutual
theorem ckE_ok : ∀ (e : E) {k : Ck} {X : Cx} {W : WXs} (c : Cok X g k cl lvl W) (a : Expr), ckE k g.p e a = true → PEr X g W a (evE ⟨cl, g.p.gl⟩ e)
  | .var i, k, X, W, c, a, h => by
    simp only [ckE] at h
    split at h
    · simp only [Bool.and_eq_true, decide_eq_true_eq] at h
      exact s_var c h.1.1 h.1.2 h.2
    · cases h
  | .cst d, k, X, W, c, a, h => by
    simp only [ckE] at h
    split at h
    · exact cst_ok h
    · cases h
  | .glo x, k, X, W, c, a, h => by
    simp only [ckE] at h
    split at h
    · simp only [Bool.and_eq_true, decide_eq_true_eq] at h
      obtain ⟨⟨⟨h1, h2⟩, h3⟩, h4⟩ := h
      subst h1
      exact s_glo c h2 h3 h4
    · cases h
  | .neg e, k, X, W, c, a, h => by
    simp only [ckE] at h
    split at h
    · exact s_neg (ckE_ok e c _ h)
    · cases h
  | .bin op a b, k, X, W, c, z, h => by
    simp only [ckE] at h
    split at h
    · simp only [Bool.and_eq_true, decide_eq_true_eq] at h
      obtain ⟨⟨h1, h2⟩, h3⟩ := h
      subst h1
      exact s_bin op (ckE_ok a c _ h2) (ckE_ok b c _ h3)
    · cases h
  | .cmp op a b, k, X, W, c, z, h => by
    simp only [ckE] at h
    split at h
    · simp only [Bool.and_eq_true, decide_eq_true_eq, Bool.not_eq_true'] at h
      obtain ⟨⟨⟨h1, h2⟩, h3⟩, h4⟩ := h
      subst h1
      exact s_cmp op c (ckE_ok a c _ h2) (ckE_ok b c _ h3) h4
    · cases h
  | .isN a, k, X, W, c, z, h => by
    simp only [ckE] at h
    split at h
    · exact s_isN (ckE_ok a c _ h)
    · cases h
  | .notN a, k, X, W, c, z, h => by
    simp only [ckE] at h
    split at h
    · exact s_notN (ckE_ok a c _ h)
    · cases h
  | .isB a v, k, X, W, c, z, h => by
    simp only [ckE] at h
    split at h
    · simp only [Bool.and_eq_true, decide_eq_true_eq] at h
      obtain ⟨h1, h2⟩ := h
      subst h1
      exact s_isB (ckE_ok a c _ h2)
    · cases h
  | .ntB a v, k, X, W, c, z, h => by
    simp only [ckE] at h
    split at h
    · simp only [Bool.and_eq_true, decide_eq_true_eq] at h
      obtain ⟨h1, h2⟩ := h
      subst h1
      exact s_ntB (ckE_ok a c _ h2)
    · cases h
  | .chain o1 o2 a b d, k, X, W, c, z, h => by
    simp only [ckE] at h
    split at h
    · simp only [Bool.and_eq_true, decide_eq_true_eq, Bool.not_eq_true'] at h
      obtain ⟨⟨⟨⟨⟨h1, h2⟩, h3⟩, h4⟩, h5⟩, h6⟩ := h
      subst h1 h2
      exact s_chain o1 o2 c (ckE_ok a c _ h3) (ckE_ok b c _ h4) (ckE_ok d c _ h5) h6
    · cases h
  | .and es, k, X, W, c, z, h => by
    simp only [ckE] at h
    split at h
    · simp only [Bool.and_eq_true, Bool.not_eq_true'] at h
      exact ckAnd_ok es c _ h.1 h.2
    · cases h
  | .or es, k, X, W, c, z, h => by
    simp only [ckE] at h
    split at h
    · simp only [Bool.and_eq_true, Bool.not_eq_true'] at h
      exact ckOr_ok es c _ h.1 h.2
    · cases h
  | .not a, k, X, W, c, z, h => by
    simp only [ckE] at h
    split at h
    · exact s_not (ckE_ok a c _ h)
    · cases h
  | .ite t a b, k, X, W, c, z, h => by
    simp only [ckE] at h
    split at h
    · simp only [Bool.and_eq_true] at h
      exact s_ite (ckT_ok t c _ h.1.1) (ckE_ok a c _ h.1.2) (ckE_ok b c _ h.2)
    · cases h
  | .tup es, k, X, W, c, z, h => by
    simp only [ckE] at h
    split at h
    · simp only [Bool.and_eq_true] at h
      exact s_tup (ckL_ok es c _ h.1 h.2)
    · cases h
  | .lst es, k, X, W, c, z, h => by
    simp only [ckE] at h
    split at h
    · simp only [Bool.and_eq_true] at h
      exact s_lst (ckL_ok es c _ h.1 h.2)
    · cases h
  | .idx a b, k, X, W, c, z, h => by
    simp only [ckE] at h
    split at h
    · simp only [Bool.and_eq_true] at h
      exact s_idx (plainIx_of (X := X) h.1.1) (ckE_ok a c _ h.1.2) (ckE_ok b c _ h.2)
    · cases h
  | .slc a lo hi, k, X, W, c, z, h => by
    simp only [ckE] at h
    split at h
    · simp only [Bool.and_eq_true] at h
      exact s_slc (ckE_ok a c _ h.1.1) (ckO_ok lo c _ h.1.2) (ckO_ok hi c _ h.2)
    · cases h
  | .call f es, k, X, W, c, z, h => by
    simp only [ckE] at h
    split at h
    · rename_i xs _
      simp only [Bool.and_eq_true, decide_eq_true_eq] at h
      obtain ⟨⟨⟨⟨⟨h1, h2⟩, h3⟩, h4⟩, h5⟩, h6⟩ := h
      subst h1
      split at h4
      · rename_i d hd
        have h4 := of_decide_eq_true h4
        cases xs with
        | nil =>
          cases es with
          | nil => exact s_call0 c hd h2 h3 h4
          | cons _ _ => simp [ckL] at h5
        | cons x xs => exact s_call c hd h2 h3 (ckL_ok es c _ h5 h6) h6 fun ρ S ds S' e => by rw [evEs_len _ es e, h4]
      · cases h4
    · cases h
  | .bi f es, k, X, W, c, z, h => by
    simp only [ckE] at h
    split at h
    · simp only [Bool.and_eq_true, decide_eq_true_eq, Bool.not_eq_true'] at h
      obtain ⟨⟨⟨⟨h1, h2⟩, h3⟩, h4⟩, h5⟩ := h
      rename_i xs _
      cases xs with
      | nil => cases h5
      | cons x xs => exact s_bi f c h1 h2 (ckL_ok es c _ h3 h4) h4
    · cases h
  | .mt m o es, k, X, W, c, z, h => by
    simp only [ckE] at h
    split at h
    · simp only [Bool.and_eq_true, decide_eq_true_eq] at h
      obtain ⟨⟨⟨⟨⟨⟨h1, h2⟩, h3⟩, h4⟩, h5⟩, h6⟩, h7⟩ := h
      exact s_mt1 m h1 h2 (ckE_ok o c _ h3) (ckL_ok es c _ h4 (by simp [h5])) h5 h6 h7
    · simp only [Bool.and_eq_true, decide_eq_true_eq] at h
      obtain ⟨⟨⟨⟨⟨h1, h2⟩, h3⟩, h4⟩, h5⟩, h6⟩ := h
      subst h1
      cases es with
      | nil => exact s_mt0 h2 (ckE_ok o c _ h3) h5 h6
      | cons _ _ => simp [ckL] at h4
    · cases h
  | .isi a t, k, X, W, c, z, h => by
    simp only [ckE] at h
    split at h
    · simp only [Bool.and_eq_true, decide_eq_true_eq] at h
      obtain ⟨⟨⟨⟨⟨⟨h1, h2⟩, h3⟩, h4⟩, h5⟩, h6⟩, h7⟩ := h
      exact s_isi c h1 h2 h3 h4 h5 (ckE_ok a c _ h6) h7
    · cases h
  | .sortK _ _, k, X, W, c, z, h => by simp [ckE] at h
  | .sset _, k, X, W, c, z, h => by simp [ckE] at h
  | .lc tg it ts e, k, X, W, c, z, h => by
    simp only [ckE] at h
    split at h
    · rename_i elt t i ifs scope pos
      simp only [Bool.and_eq_true, decide_eq_true_eq] at h
      obtain ⟨⟨⟨⟨⟨⟨h1, h2⟩, h3⟩, h4⟩, h5⟩, h6⟩, h7⟩ := h
      have ok := c.blkOk h3
      refine pf_pe (s_lc c (ckI_ok it c t i h1) ok h4 (fun s H C cs fp => s_tg (c.blk scope ok.kind s H C cs fp) tg t h5) (fun s H C cs fp => ?_) (fun s H C cs fp => ckE_ok e (c.blk scope ok.kind s H C cs fp) elt h7) h2)
      cases ifs with
      | nil => cases ts with
        | nil => exact s_ifs0
        | cons _ _ => simp [ckTs] at h6
      | cons a as => cases as with
        | nil => cases ts with
          | nil => simp [ckTs] at h6
          | cons t1 ts => cases ts with
            | nil =>
              simp only [ckTs, Bool.and_eq_true] at h6
              exact s_ifs1 (ckT_ok t1 (c.blk scope ok.kind s H C cs fp) a h6.1)
            | cons _ _ => simp [ckTs] at h6
        | cons _ _ => cases h6
    · cases h
  | .dc .., k, X, W, c, z, h => by simp [ckE] at h
  | .bw is e, k, X, W, c, z, h => by
    simp only [ckE] at h
    exact s_bw is (ckE_ok e c _ h)
theorem ckI_ok : ∀ (it : It) {k : Ck} {X : Cx} {W : WXs} (c : Cok X g k cl lvl W) (tg a : Expr), ckI k g.p it a = true → PIr X g W tg a (evIt ⟨cl, g.p.gl⟩ it)
  | .seq e, k, X, W, c, tg, a, h => by
    simp only [ckI, Bool.and_eq_true] at h
    exact s_seq (ckE_ok e c _ h.1)
  | .rg1 e, k, X, W, c, tg, a, h => by
    simp only [ckI] at h
    split at h
    · simp only [Bool.and_eq_true, decide_eq_true_eq] at h
      obtain ⟨⟨⟨h1, h2⟩, h3⟩, h4⟩ := h
      exact s_rg1 c h1 h2 (s_cons (ckE_ok e c _ h3) s_nil (star_one h4)) h4 fun _ _ => rfl
    · cases h
  | .rg2 e f, k, X, W, c, tg, a, h => by
    simp only [ckI] at h
    split at h
    · simp only [Bool.and_eq_true, decide_eq_true_eq] at h
      obtain ⟨⟨⟨⟨⟨h1, h2⟩, h3⟩, h4⟩, h5⟩, h6⟩ := h
      refine s_rg2 c h1 h2 (s_cons (ckE_ok e c _ h3) (s_cons (ckE_ok f c _ h4) s_nil (star_one h6)) (star_one h5)) h5 h6 fun ρ S => ?_
      cases evE ⟨cl, g.p.gl⟩ e ρ S with
      | ok d S' => show ((evE ⟨cl, g.p.gl⟩ f ρ S').bind fun d2 S => .ok [d2] S).bind _ = _; rw [R.bind_assoc]; rfl
      | _ => rfl
    · cases h
theorem ckT_ok : ∀ (t : T) {k : Ck} {X : Cx} {W : WXs} (c : Cok X g k cl lvl W) (a : Expr), ckT k g.p t a = true → PTr X g W a (evT ⟨cl, g.p.gl⟩ t)
  | .tru e, k, X, W, c, z, h => by
    have gen : plainTr z = true → ckE k g.p e z = true → PTr X g W z (evT ⟨cl, g.p.gl⟩ (.tru e)) := fun h1 h2 => s_truth (ckE_ok e c _ h2) (tru_plain (X := X) h1)
    cases e with
    | cmp op a b =>
      simp only [ckT] at h
      split at h
      · simp only [Bool.and_eq_true, decide_eq_true_eq, Bool.not_eq_true'] at h
        obtain ⟨⟨⟨h1, h2⟩, h3⟩, h4⟩ := h
        subst h1
        exact s_tcmp op c (ckE_ok a c _ h2) (ckE_ok b c _ h3) h4
      · cases h
    | isN a =>
      simp only [ckT] at h
      split at h
      · exact s_tisN (ckE_ok a c _ h)
      · cases h
    | notN a =>
      simp only [ckT] at h
      split at h
      · exact s_tnotN (ckE_ok a c _ h)
      · cases h
    | isB a v =>
      simp only [ckT] at h
      split at h
      · simp only [Bool.and_eq_true, decide_eq_true_eq] at h
        obtain ⟨h1, h2⟩ := h
        subst h1
        exact s_tisB (ckE_ok a c _ h2)
      · cases h
    | ntB a v =>
      simp only [ckT] at h
      split at h
      · simp only [Bool.and_eq_true, decide_eq_true_eq] at h
        obtain ⟨h1, h2⟩ := h
        subst h1
        exact s_tntB (ckE_ok a c _ h2)
      · cases h
    | chain o1 o2 a b d =>
      simp only [ckT] at h
      split at h
      · simp only [Bool.and_eq_true, decide_eq_true_eq, Bool.not_eq_true'] at h
        obtain ⟨⟨⟨⟨⟨h1, h2⟩, h3⟩, h4⟩, h5⟩, h6⟩ := h
        subst h1 h2
        exact s_tchain o1 o2 c (ckE_ok a c _ h3) (ckE_ok b c _ h4) (ckE_ok d c _ h5) h6
      · cases h
    | _ =>
      simp only [ckT, Bool.and_eq_true] at h
      exact gen h.1 h.2
  | .and ts, k, X, W, c, z, h => by
    simp only [ckT] at h
    split at h
    · simp only [Bool.and_eq_true, Bool.not_eq_true'] at h
      exact (ckAll_ok ts c _ h.1 h.2).pt
    · cases h
  | .or ts, k, X, W, c, z, h => by
    simp only [ckT] at h
    split at h
    · simp only [Bool.and_eq_true, Bool.not_eq_true'] at h
      exact (ckAny_ok ts c _ h.1 h.2).pt
    · cases h
  | .not t, k, X, W, c, z, h => by
    simp only [ckT] at h
    split at h
    · exact s_tnot (ckT_ok t c _ h)
    · cases h
  | .bw is t, k, X, W, c, z, h => by
    simp only [ckT] at h
    exact s_tbw is (ckT_ok t c _ h)
theorem ckL_ok : ∀ (es : Es) {k : Ck} {X : Cx} {W : WXs} (c : Cok X g k cl lvl W) (xs : List Expr), ckL k g.p es xs = true → xs.all notStar = true → PAr X g W xs (evEs ⟨cl, g.p.gl⟩ es)
  | .nil, k, X, W, c, xs, h, hs => by
    cases xs with
    | nil => exact s_nil
    | cons _ _ => simp [ckL] at h
  | .cons e es, k, X, W, c, xs, h, hs => by
    cases xs with
    | nil => simp [ckL] at h
    | cons x xs =>
      simp only [ckL, Bool.and_eq_true] at h
      rw [List.all_cons, Bool.and_eq_true] at hs
      exact s_cons (ckE_ok e c _ h.1) (ckL_ok es c _ h.2 hs.2) (star_one hs.1)
theorem ckO_ok : ∀ (es : Es) {k : Ck} {X : Cx} {W : WXs} (c : Cok X g k cl lvl W) (x : Option Expr), ckO k g.p es x = true → POr X g W x (evO ⟨cl, g.p.gl⟩ es)
  | .nil, k, X, W, c, x, h => by
    cases x with
    | none => exact s_poN
    | some _ => simp [ckO] at h
  | .cons e .nil, k, X, W, c, x, h => by
    cases x with
    | none => simp [ckO] at h
    | some x =>
      simp only [ckO] at h
      exact s_poS (ckE_ok e c _ h)
  | .cons _ (.cons _ _), k, X, W, c, x, h => by simp [ckO] at h
theorem ckAnd_ok : ∀ (es : Es) {k : Ck} {X : Cx} {W : WXs} (c : Cok X g k cl lvl W) (xs : List Expr) {pos : Pos}, ckL k g.p es xs = true → xs.isEmpty = false → PEr X g W (.BoolOp .And xs pos) (evAnd ⟨cl, g.p.gl⟩ es)
  | .nil, k, X, W, c, xs, pos, h, hs => by
    cases xs with
    | nil => cases hs
    | cons _ _ => simp [ckL] at h
  | .cons e .nil, k, X, W, c, xs, pos, h, hs => by
    cases xs with
    | nil => cases hs
    | cons x xs =>
      simp only [ckL, Bool.and_eq_true] at h
      cases xs with
      | nil => exact one_and .And (ckE_ok e c _ h.1)
      | cons _ _ => simp at h
  | .cons e (.cons e2 es), k, X, W, c, xs, pos, h, hs => by
    cases xs with
    | nil => cases hs
    | cons x xs =>
      rw [ckL] at h
      simp only [Bool.and_eq_true] at h
      cases xs with
      | nil => simp [ckL] at h
      | cons y ys => exact s_and (ckE_ok e c _ h.1) (ckAnd_ok (.cons e2 es) c (y :: ys) h.2 rfl)
theorem ckOr_ok : ∀ (es : Es) {k : Ck} {X : Cx} {W : WXs} (c : Cok X g k cl lvl W) (xs : List Expr) {pos : Pos}, ckL k g.p es xs = true → xs.isEmpty = false → PEr X g W (.BoolOp .Or xs pos) (evOr ⟨cl, g.p.gl⟩ es)
  | .nil, k, X, W, c, xs, pos, h, hs => by
    cases xs with
    | nil => cases hs
    | cons _ _ => simp [ckL] at h
  | .cons e .nil, k, X, W, c, xs, pos, h, hs => by
    cases xs with
    | nil => cases hs
    | cons x xs =>
      simp only [ckL, Bool.and_eq_true] at h
      cases xs with
      | nil => exact one_and .Or (ckE_ok e c _ h.1)
      | cons _ _ => simp at h
  | .cons e (.cons e2 es), k, X, W, c, xs, pos, h, hs => by
    cases xs with
    | nil => cases hs
    | cons x xs =>
      rw [ckL] at h
      simp only [Bool.and_eq_true] at h
      cases xs with
      | nil => simp [ckL] at h
      | cons y ys => exact s_or (ckE_ok e c _ h.1) (ckOr_ok (.cons e2 es) c (y :: ys) h.2 rfl)
theorem ckAll_ok : ∀ (ts : Ts) {k : Ck} {X : Cx} {W : WXs} (c : Cok X g k cl lvl W) (xs : List Expr) {pos : Pos}, ckTs k g.p ts xs = true → xs.isEmpty = false → PWr X g W (.BoolOp .And xs pos) (evAll ⟨cl, g.p.gl⟩ ts)
  | .nil, k, X, W, c, xs, pos, h, hs => by
    cases xs with
    | nil => cases hs
    | cons _ _ => simp [ckTs] at h
  | .cons t .nil, k, X, W, c, xs, pos, h, hs => by
    cases xs with
    | nil => cases hs
    | cons x xs =>
      simp only [ckTs, Bool.and_eq_true] at h
      cases xs with
      | nil => exact s_wand1 (ckT_ok t c _ h.1)
      | cons _ _ => simp at h
  | .cons t (.cons t2 ts), k, X, W, c, xs, pos, h, hs => by
    cases xs with
    | nil => cases hs
    | cons x xs =>
      rw [ckTs] at h
      simp only [Bool.and_eq_true] at h
      cases xs with
      | nil => simp [ckTs] at h
      | cons y ys => exact s_wand (ckT_ok t c _ h.1) (ckAll_ok (.cons t2 ts) c (y :: ys) h.2 rfl)
theorem ckAny_ok : ∀ (ts : Ts) {k : Ck} {X : Cx} {W : WXs} (c : Cok X g k cl lvl W) (xs : List Expr) {pos : Pos}, ckTs k g.p ts xs = true → xs.isEmpty = false → PWr X g W (.BoolOp .Or xs pos) (evAny ⟨cl, g.p.gl⟩ ts)
  | .nil, k, X, W, c, xs, pos, h, hs => by
    cases xs with
    | nil => cases hs
    | cons _ _ => simp [ckTs] at h
  | .cons t .nil, k, X, W, c, xs, pos, h, hs => by
    cases xs with
    | nil => cases hs
    | cons x xs =>
      simp only [ckTs, Bool.and_eq_true] at h
      cases xs with
      | nil => exact s_wor1 (ckT_ok t c _ h.1)
      | cons _ _ => simp at h
  | .cons t (.cons t2 ts), k, X, W, c, xs, pos, h, hs => by
    cases xs with
    | nil => cases hs
    | cons x xs =>
      rw [ckTs] at h
      simp only [Bool.and_eq_true] at h
      cases xs with
      | nil => simp [ckTs] at h
      | cons y ys => exact s_wor (ckT_ok t c _ h.1) (ckAny_ok (.cons t2 ts) c (y :: ys) h.2 rfl)
end
end
end FW

namespace FW
open PySem PySem.W PySem.Spec L2

section
variable {g : Glo} {cl : Cl} {lvl : Nat}
theorem f_call0 {k : Ck} {X : Cx} {W : WXs} {f : Str} {d : Fd} {p pos : Pos} (c : Cok X g k cl lvl W) (hd : findF g.p.fs f = some d) (h2 : k.isGl f = true) (h3 : okNm f = true) (h4 : d.np = 0) : PFr X g W (.Call (.Name f p) [] [] pos) (evFr ⟨cl, g.p.gl⟩ (.call f .nil)) := by
  obtain ⟨fa, fdd, ps, a1, a2, a3, a4, a5⟩ := (c.gl.fns _ _ hd).ex
  refine pe_le (show PE X (.Call (.Name f p) [] [] pos) (tCallS (spC X.K g.xv cl d.np f) (WE W) tNil) from ⟨fun pins s σ H Q I h => wpAny_Call_Name_kw (ld_glob I (c.isGl h2) a1 (PySem.W.callWith_K0 I.kIn a2 (run_fnS a5 c.rm0 a3 (passAt c.tk σ) I (vs := []) .nil h)) (okNm_of h3).1)⟩) ?_
  rintro σ H Q ⟨w, ρ, S, st, po⟩
  refine ⟨[], S, w, by rw [h4]; rfl, .nil, st.bare, ?_⟩
  have po : PoF X.K g.xv W ((cl f [] S).bind fun r S => if r.1 = true then .ok r.2 S else .bad) w H ρ σ Q := po
  cases e2 : cl f [] S with
  | ok od S2 =>
    obtain ⟨o, dd⟩ := od
    rw [e2] at po
    cases o with
    | false => exact False.elim po
    | true => exact fun v w2 H2 x2 st2 _ hT => (show PoF X.K g.xv W (.ok dd S2) w H ρ σ Q from po) v w2 H2 x2 (st.carry x2 st2) (hT rfl)
  | exc kk S2 => rw [e2] at po; exact fun w2 H2 x2 st2 => po w2 H2 x2 (st.carry x2 st2)
  | bad => rw [e2] at po; exact po
theorem PoF.chk {K : PySem.W.Frag} {xv : Str → Value} {W : WXs} {r : R FW.D} {w : Wd} {H : Hp} {ρ : List Sl} {σ : SV} {Q : VK} (po : PoF K xv W (r.bind fun d S => if isLst d = true then .ok d S else .bad) w H ρ σ Q) : PoF K xv W r w H ρ σ Q := by
  cases r with
  | ok d S' =>
    have po : PoF K xv W (if isLst d = true then .ok d S' else .bad) w H ρ σ Q := po
    by_cases h : isLst d = true
    · rw [if_pos h] at po; exact po
    · rw [if_neg h] at po; exact False.elim po
  | exc _ _ => exact po
  | bad => exact po
theorem lc_parts {tg : Tg} {it : It} {ts : Ts} {e : E} {k : Ck} {X : Cx} {W : WXs} (c : Cok X g k cl lvl W) (a : Expr) (h : ckE k g.p (.lc tg it ts e) a = true) : ∃ elt t i ifs scope pos own, a = .ListComp elt [⟨t, i, ifs, 0⟩] scope pos ∧ BlkOk X.N X.env.scope scope own ∧ own.map (·.2) = tg.ix ∧
    PIr X g W t i (evIt ⟨cl, g.p.gl⟩ it) ∧ (∀ s H C cs fp, PG (X.blk s H scope (compEnvC scope cs C X.env) fp) t (gTg X.K tg)) ∧ (∀ s H C cs fp, PTs (X.blk s H scope (compEnvC scope cs C X.env) fp) ifs (rd X.K g.xv W0 relB (evAll ⟨cl, g.p.gl⟩ ts))) ∧
    (∀ s H C cs fp, PE (X.blk s H scope (compEnvC scope cs C X.env) fp) elt (rd X.K g.xv W0 (relE X.K) (evE ⟨cl, g.p.gl⟩ e))) ∧ notSet i = true := by
  simp only [ckE] at h
  split at h
  · rename_i elt t i ifs scope pos
    simp only [Bool.and_eq_true, decide_eq_true_eq] at h
    obtain ⟨⟨⟨⟨⟨⟨h1, h2⟩, h3⟩, h4⟩, h5⟩, h6⟩, h7⟩ := h
    have ok := c.blkOk h3
    refine ⟨elt, t, i, ifs, scope, pos, _, rfl, ok, h4, ckI_ok it c t i h1, fun s H C cs fp => s_tg (c.blk scope ok.kind s H C cs fp) tg t h5, fun s H C cs fp => ?_, fun s H C cs fp => ckE_ok e (c.blk scope ok.kind s H C cs fp) elt h7, h2⟩
    cases ifs with
    | nil => cases ts with
      | nil => exact s_ifs0
      | cons _ _ => simp [ckTs] at h6
    | cons a as => cases as with
      | nil => cases ts with
        | nil => simp [ckTs] at h6
        | cons t1 ts => cases ts with
          | nil =>
            simp only [ckTs, Bool.and_eq_true] at h6
            exact s_ifs1 (ckT_ok t1 (c.blk scope ok.kind s H C cs fp) a h6.1)
          | cons _ _ => simp [ckTs] at h6
      | cons _ _ => cases h6
  · cases h
theorem pf_chk {X : Cx} {W : WXs} {a : Expr} {ev : List Sl → Hs → R FW.D} (h : PFr X g W a ev) : PFr X g W a fun ρ S => (ev ρ S).bind fun d S => if isLst d = true then .ok d S else .bad := by
  refine pe_le h ?_
  rintro σ H Q ⟨w, ρ, S, st, po⟩
  exact ⟨w, ρ, S, st, PoF.chk po⟩
theorem asg_lc {i : Nat} {x : Str} {p2 pos : Pos} {tg : Tg} {it : It} {ts : Ts} {e : E} {k : Ck} {X : Cx} {W : WXs} (c : Cok X g k cl lvl W) (a : Expr) (hi : k.N[i]? = some x) (hx : k.loc x = true) (h : ckE k g.p (.lc tg it ts e) a = true) :
    PSr X g W (.Assign [.Name x p2] a pos) fun ρ S => toRS (evE ⟨cl, g.p.gl⟩ (.lc tg it ts e) ρ S) ρ fun d S => .nx (ρ.set i (.fz d)) S := by
  obtain ⟨elt, t, ie, ifs, scope, lp, own, rfl, h1, h2, h3, h4, h5, h6, h7⟩ := lc_parts c a h
  refine t_lcGen c hi hx h3 h1 h2 h4 h5 h6 h7 ?_
  rintro D σ H ⟨w0, H0, w, ρ, S, s, po⟩
  exact ⟨w, ρ, S, s.st, PoR.toF s.st (toRS_po s po fun d S' v w' H' s' r po' => po' w' _ H' (s'.setFz r i))⟩
theorem asgO_lc {i : Nat} {x : Str} {p2 pos : Pos} {tg : Tg} {it : It} {ts : Ts} {e : E} {k : Ck} {X : Cx} {W : WXs} (c : Cok X g k cl lvl W) (a : Expr) (hi : k.N[i]? = some x) (hx : k.loc x = true) (h : ckE k g.p (.lc tg it ts e) a = true) :
    PSr X g W (.Assign [.Name x p2] a pos) fun ρ S => toRS (evFr ⟨cl, g.p.gl⟩ (.lc tg it ts e) ρ S) ρ fun d S => .nx (ρ.set i (.own d)) S := by
  obtain ⟨elt, t, ie, ifs, scope, lp, own, rfl, h1, h2, h3, h4, h5, h6, h7⟩ := lc_parts c a h
  refine t_lcGen c hi hx h3 h1 h2 h4 h5 h6 h7 ?_
  rintro D σ H ⟨w0, H0, w, ρ, S, s, po⟩
  exact ⟨w, ρ, S, s.st, PoF.chk (toRS_pf s po fun d S' v w' H' x s' r po' => po' w' _ H' (s.setOwn x s' r i))⟩
theorem ckF_ok (e : E) {k : Ck} {X : Cx} {W : WXs} (c : Cok X g k cl lvl W) (a : Expr) (h : ckF k g.p e a = true) : PFr X g W a (evFr ⟨cl, g.p.gl⟩ e) := by
  cases e with
  | call f es =>
    simp only [ckF] at h
    split at h
    · rename_i xs _
      simp only [Bool.and_eq_true, decide_eq_true_eq] at h
      obtain ⟨⟨⟨⟨⟨h1, h2⟩, h3⟩, h4⟩, h5⟩, h6⟩ := h
      subst h1
      split at h4
      · rename_i d hd
        have h4 := of_decide_eq_true h4
        cases xs with
        | nil =>
          cases es with
          | nil => exact f_call0 c hd h2 h3 h4
          | cons _ _ => simp [ckL] at h5
        | cons x xs => exact f_call c hd h2 h3 (ckL_ok es c _ h5 h6) h6 fun ρ S ds S' e => by rw [evEs_len _ es e, h4]
      · cases h4
    · cases h
  | lst es =>
    simp only [ckF] at h
    split at h
    · simp only [Bool.and_eq_true] at h
      have q := f_lst (pos := by assumption) (ckL_ok es c _ h.1 h.2)
      refine pe_le q ?_
      rintro σ H Q ⟨w, ρ, S, st, po⟩
      refine ⟨w, ρ, S, st, ?_⟩
      dsimp only
      have po : PoF X.K g.xv W (((evEs ⟨cl, g.p.gl⟩ es ρ S).bind fun ds S => if ds.length ≤ 16777216 then .ok (.list ds) S else .bad).bind fun d S => if isLst d = true then .ok d S else .bad) w H ρ σ Q := po
      cases e : evEs ⟨cl, g.p.gl⟩ es ρ S with
      | ok ds S' =>
        rw [e] at po
        show PoF X.K g.xv W (if ds.length ≤ 16777216 then .ok (.list ds) S' else .bad) w H ρ σ Q
        have po : PoF X.K g.xv W ((if ds.length ≤ 16777216 then .ok (.list ds) S' else .bad : R FW.D).bind fun d S => if isLst d = true then .ok d S else .bad) w H ρ σ Q := po
        by_cases hz : ds.length ≤ 16777216
        · rw [if_pos hz] at po ⊢; exact po
        · rw [if_neg hz] at po; exact False.elim po
      | exc kk S' => rw [e] at po; exact po
      | bad => rw [e] at po; exact False.elim po
    · cases h
  | slc a lo hi =>
    simp only [ckF] at h
    split at h
    · simp only [Bool.and_eq_true] at h
      exact f_slc (ckE_ok a c _ h.1.1) (ckO_ok lo c _ h.1.2) (ckO_ok hi c _ h.2)
    · cases h
  | bin op a b =>
    simp only [ckF] at h
    split at h
    · cases h
    · simp only [Bool.and_eq_true, decide_eq_true_eq, Bool.or_eq_true, beq_iff_eq] at h
      obtain ⟨⟨⟨h1, h2⟩, h3⟩, h4⟩ := h
      subst h2
      rcases h1 with rfl | rfl
      · exact f_add (ckE_ok a c _ h3) (ckE_ok b c _ h4)
      · exact f_mul (ckE_ok a c _ h3) (ckE_ok b c _ h4)
    · cases h
  | lc tg it ts e =>
    simp only [ckF] at h
    obtain ⟨elt, t, ie, ifs, scope, lp, own, rfl, h1, h2, h3, h4, h5, h6, h7⟩ := lc_parts c a h
    exact pf_chk (s_lc c h3 h1 h2 h4 h5 h6 h7)
  | bi f es =>
    simp only [ckF] at h
    split at h
    · simp only [Bool.and_eq_true, decide_eq_true_eq, Bool.not_eq_true', Bool.or_eq_true, beq_iff_eq] at h
      obtain ⟨⟨⟨⟨⟨h0, h1⟩, h2⟩, h3⟩, h4⟩, h5⟩ := h
      rename_i xs _
      cases xs with
      | nil => cases h5
      | cons x xs =>
        rcases h0 with rfl | rfl
        · exact f_bi .list (.inl rfl) c h1 h2 (ckL_ok es c _ h3 h4) h4
        · exact f_bi .sorted (.inr rfl) c h1 h2 (ckL_ok es c _ h3 h4) h4
    · cases h
  | _ => simp [ckF] at h
variable {L : Nat}
mutual
theorem ckS_ok : ∀ (s : S) {k : Ck} {X : Cx} {W : WXs} (c : Cos X g k cl lvl W) (a : Stmt), ckS k g.p s a = true → PSr X g W a (evS ⟨cl, g.p.gl⟩ g.p.xc L s)
  | .asg i e, k, X, W, c, a, h => by
    simp only [ckS] at h
    split at h
    · simp only [Bool.and_eq_true, decide_eq_true_eq] at h
      obtain ⟨⟨⟨h1, h2⟩, h3⟩, h4⟩ := h
      rcases Bool.or_eq_true_iff.mp h3 with h3 | h3
      · exact t_asg c.c h1 h2 h3 (ckE_ok e c.c _ h4)
      · cases e with
        | lc tg it ts e => exact asg_lc c.c _ h1 h2 h4
        | _ => cases h3
    · cases h
  | .asgO i e, k, X, W, c, a, h => by
    simp only [ckS] at h
    split at h
    · simp only [Bool.and_eq_true, decide_eq_true_eq] at h
      obtain ⟨⟨⟨h1, h2⟩, h3⟩, h4⟩ := h
      rcases Bool.or_eq_true_iff.mp h3 with h3 | h3
      · exact t_asgO c.c h1 h2 h3 (ckF_ok e c.c _ h4)
      · cases e with
        | lc tg it ts e =>
          simp only [ckF] at h4
          exact asgO_lc c.c _ h1 h2 h4
        | _ => cases h3
    · cases h
  | .asgT is e, k, X, W, c, a, h => by
    simp only [ckS] at h
    split at h
    · simp only [Bool.and_eq_true] at h
      exact t_asgT c.c h.1.1 h.1.2 (ckE_ok e c.c _ h.2)
    · cases h
  | .aug i op e, k, X, W, c, a, h => by
    simp only [ckS] at h
    split at h
    · simp only [Bool.and_eq_true, decide_eq_true_eq, Bool.or_eq_true, beq_iff_eq] at h
      obtain ⟨⟨⟨⟨h1, h2⟩, h3⟩, h4⟩, h5⟩ := h
      subst h2
      exact t_aug op h1 c.c h3 h4 (ckE_ok e c.c _ h5)
    · cases h
  | .expr e, k, X, W, c, a, h => by
    simp only [ckS] at h
    split at h
    · simp only [Bool.and_eq_true] at h
      exact t_expr h.1 (ckE_ok e c.c _ h.2)
    · cases h
  | .app i e, k, X, W, c, a, h => by
    simp only [ckS] at h
    split at h
    · simp only [Bool.and_eq_true, decide_eq_true_eq] at h
      obtain ⟨⟨⟨⟨⟨⟨h1, h2⟩, h3⟩, h4⟩, h5⟩, h6⟩, h7⟩ := h
      exact t_app c.c h1 h2 h3 h4 (s_cons (ckE_ok e c.c _ h5) s_nil (star_one h6)) h6 h7
    · cases h
  | .ext _ _, k, X, W, c, a, h => by simp [ckS] at h
  | .seti i b e, k, X, W, c, a, h => by
    simp only [ckS] at h
    split at h
    · simp only [Bool.and_eq_true, decide_eq_true_eq] at h
      obtain ⟨⟨⟨⟨⟨h1, h2⟩, h3⟩, h4⟩, h5⟩, h6⟩ := h
      exact t_seti c.c h1 h2 h3 (plainIx_of (X := X) h4) (by split <;> first | (simp [notSlice] at h4; done) | trivial) (ckE_ok e c.c _ h5) (ckE_ok b c.c _ h6)
    · cases h
  | .ret e, k, X, W, c, a, h => by
    simp only [ckS] at h
    split at h
    · exact t_ret (ckE_ok e c.c _ h)
    · cases h
  | .retO i, k, X, W, c, a, h => by
    simp only [ckS] at h
    split at h
    · simp only [Bool.and_eq_true, decide_eq_true_eq] at h
      exact t_retO c.c h.1.1 h.1.2 h.2
    · cases h
  | .retF e, k, X, W, c, a, h => by
    simp only [ckS] at h
    split at h
    · exact t_retF (ckF_ok e c.c _ h)
    · cases h
  | .retN, k, X, W, c, a, h => by
    simp only [ckS] at h
    split at h
    · exact t_retN
    · cases h
  | .ifS t a b, k, X, W, c, z, h => by
    simp only [ckS] at h
    split at h
    · simp only [Bool.and_eq_true] at h
      exact t_if (ckT_ok t c.c _ h.1.1) (ckSs_ok a c _ h.1.2) (ckSs_ok b c _ h.2)
    · cases h
  | .whl t b wl, k, X, W, c, z, h => by
    simp only [ckS] at h
    split at h
    · simp only [Bool.and_eq_true] at h
      exact t_whl wl L c.c (ckT_ok t c.c _ h.1) (ckSs_ok b c _ h.2)
    · cases h
  | .forS tg it b wl, k, X, W, c, z, h => by
    simp only [ckS] at h
    split at h
    · simp only [Bool.and_eq_true] at h
      exact t_for tg wl c.c (ckI_ok it c.c _ _ h.1.1.2) h.1.1.1 (ckSs_ok b c _ h.2) h.1.2
    · cases h
  | .brk, k, X, W, c, z, h => by
    simp only [ckS] at h
    split at h
    · exact t_brk
    · cases h
  | .cnt, k, X, W, c, z, h => by
    simp only [ckS] at h
    split at h
    · exact t_cnt
    · cases h
  | .pass, k, X, W, c, z, h => by
    simp only [ckS] at h
    split at h
    · exact t_pass
    · cases h
  | .raise y, k, X, W, c, a, h => by
    simp only [ckS] at h
    split at h
    · simp only [Bool.and_eq_true, decide_eq_true_eq] at h
      obtain ⟨⟨⟨h1, h2⟩, h3⟩, h4⟩ := h
      subst h1
      exact t_raise c.c h2 h3 h4
    · cases h
  | .tryS b y as hd, k, X, W, c, a, h => by
    simp only [ckS] at h
    split at h
    · rename_i body x xp n ss hp tp
      simp only [Bool.and_eq_true, decide_eq_true_eq] at h
      obtain ⟨⟨⟨⟨⟨⟨h1, h2⟩, h3⟩, h4⟩, h5⟩, h6⟩, h7⟩ := h
      subst h1
      have hb : ∀ (W' : WXs) (pn : List (Addr × Obj)) (xe : Value → Shared → Prop), Cos (X.tr pn xe) g k cl lvl W' → PSs (X.tr pn xe) body (rdS X.K g.xv W' (evSs ⟨cl, g.p.gl⟩ g.p.xc L b)) := fun W' pn xe c' => ckSs_ok b c' body h5
      split at h7
      · exact t_try c h2 h3 h4 hb h6
      · simp only [Bool.and_eq_true, decide_eq_true_eq] at h7
        exact t_tryAs c h2 h3 h4 h7.1 h7.2 hb h6
      · cases h7
    · cases h
  | .frz _, k, X, W, c, a, h => by simp [ckS] at h
  | .wipe _, k, X, W, c, a, h => by simp [ckS] at h
theorem ckSs_ok : ∀ (ss : Ss) {k : Ck} {X : Cx} {W : WXs} (c : Cos X g k cl lvl W) (as : List Stmt), ckSs k g.p ss as = true → PSsr X g W as (evSs ⟨cl, g.p.gl⟩ g.p.xc L ss)
  | .nil, k, X, W, c, as, h => by
    cases as with
    | nil => exact t_nil
    | cons _ _ => simp [ckSs] at h
  | .cons s ss, k, X, W, c, as, h => by
    have gen : ∀ a as, ckS k g.p s a = true → ckSs k g.p ss as = true → PSsr X g W (a :: as) (evSs ⟨cl, g.p.gl⟩ g.p.xc L (.cons s ss)) := fun a as h1 h2 => t_cons (ckS_ok s c a h1) (ckSs_ok ss c as h2)
    cases s with
    | frz is => simp only [ckSs] at h; exact t_frz is (ckSs_ok ss c as h)
    | wipe is => simp only [ckSs] at h; exact t_wipe is (ckSs_ok ss c as h)
    | _ =>
      cases as with
      | nil => simp [ckSs] at h
      | cons a as =>
        simp only [ckSs, Bool.and_eq_true] at h
        exact gen a as h.1 h.2
end
end
end FW

namespace FW
open PySem PySem.W PySem.Spec L2

section
variable {P : Program} {w : World} {K : PySem.W.Frag} {mg : Str → Option Value} {base : Heap}
/-- a def of the text, with its body looked up -/
structure FunIn (K : PySem.W.Frag) (mg : Str → Option Value) (p : Pr) (d : Fd) : Prop where
  ex : ∃ (st : Stmt) (fa : Addr) (fd : FuncData) (N ps : List Str), Fun K d.name d.name st fa fd ∧ mg d.name = some (.ref fa) ∧ Binds K fd ps [] ∧ ps.length = d.np ∧ N.length = d.ns ∧ FnScope N ps (defScope st) ∧ ckSs ⟨N, defScope st⟩ p d.body (defBody st) = true
structure ProgIn (K : PySem.W.Frag) (mg : Str → Option Value) (g : Glo) : Prop where
  fns : ∀ d, d ∈ g.p.fs → FunIn K mg g.p d
  blt : ∀ x, x ∈ bltNames → mg x = none
  glo : ∀ x d, g.p.gl.lookup x = some d → ∃ u v, mg x = some u ∧ RelV v u ∧ ∀ H ι, Rep K H ι d v
  exc : ∀ k, k ∈ g.p.xc.xs → ExcT K mg g k
theorem start_ok {w0 : Wd} {ds : List FW.D} {vs : List V} {N : List Str} {S : Hs} {H : Hp} (st : Stt K w0 [] S [] H) (r : Reps K w0.f w0.ι ds vs) : Sok K w0 H w0 (startS ds N.length) S (L2.start N vs) H := by
  have own : ∀ (i : Nat) (d : FW.D), (startS ds N.length)[i]? = some (Sl.own d) → False := fun i d h => by
    have m := List.mem_of_getElem? h
    unfold startS at m
    rcases List.mem_append.mp m with m | m
    · obtain ⟨x, _, e⟩ := List.mem_map.mp m; cases e
    · have := List.eq_of_mem_replicate m; cases this
  refine ⟨⟨st.sf, st.sg, st.dj, st.ob, ?_, fun i d h => ?_, fun i d h => (own i d h).elim, fun i j d e a h => (own i d h).elim⟩, Ext.refl, fun i d a h => (own i d h).elim⟩
  · simp [startS, L2.start, r.length]
  · unfold startS at h
    by_cases hl : i < ds.length
    · rw [List.getElem?_append_left (by simpa using hl), List.getElem?_map, Option.map_eq_some_iff] at h
      obtain ⟨x, h1, h2⟩ := h
      cases h2
      obtain ⟨v, e, rv⟩ := r.get h1
      refine ⟨v, ?_, rv⟩
      unfold L2.start
      rw [List.getElem?_append_left (by rw [List.length_map, ← r.length]; exact hl), List.getElem?_map, e]; rfl
    · rw [List.getElem?_append_right (by simp; omega)] at h
      have := List.eq_of_mem_replicate (List.mem_of_getElem? h)
      cases this
theorem fn_ok {g : Glo} {lvl : Nat} {d : Fd} {n : Nat} {st : Stmt} {fa : Addr} {fd : FuncData} {N ps : List Str} (G : GlOk P w K mg base g (callN g.p n) lvl) (hf : findF g.p.fs d.name = some d) (F1 : Fun K d.name d.name st fa fd) (hp : ps.length = d.np) (hN : N.length = d.ns)
    (sc : FnScope N ps (defScope st)) (ck : ckSs ⟨N, defScope st⟩ g.p d.body (defBody st) = true) : FnOk P w K mg base (L2.CX P w) (lvl + 4) fa fd ps (spC K g.xv (callN g.p (n + 1)) d.np d.name) := by
  refine F1.okX (N := N) (k := lvl + 3) sc (fun vs H Q E h => ?_) fun cdv A outer s H vs Q E hr h => ?_
  · obtain ⟨ds, S, w0, h1, _⟩ := h
    rw [h1, hp]
  · obtain ⟨ds, S, w0, h1, rp, st0, po⟩ := h
    let X := cxOf (L2.CX P w) P w K mg base N d.name (defScope st) fa cdv A outer s H E
    have cok : Cok X g ⟨N, defScope st⟩ (callN g.p n) lvl (fun cls dd _ H => E cls dd H) :=
      { gl := G, calm := rfl, nd := sc.nd, N := rfl, sc := ⟨fun _ h => h, fun _ h => ⟨h, rfl⟩, fun _ h => .inl h, fun _ h => h⟩, tk := takes_of rfl rfl rfl rfl, ps := passes_of rfl, rm := hr, fk := sc.kind }
    refine ⟨_, ckSs_ok (L := g.p.L) d.body ⟨cok, rfl, rfl⟩ (defBody st) ck, w0, H, w0, startS ds d.ns, S, ?_, ?_⟩
    · have := start_ok (N := N) st0 rp
      rw [hN] at this; exact this
    · have e : callN g.p (n + 1) d.name ds S = endRS (evSs ⟨callN g.p n, g.p.gl⟩ g.p.xc g.p.L d.body (startS ds d.ns) S) := by
        show (match findF g.p.fs d.name with
          | some d => if ds.length = d.np then endRS (evSs ⟨callN g.p n, g.p.gl⟩ g.p.xc g.p.L d.body (startS ds d.ns) S) else .bad
          | none => .bad) = _
        rw [hf]
        have hl : ds.length = d.np := by rw [rp.length, h1]
        simp only [hl, if_true]
      rw [e] at po
      cases e1 : evSs ⟨callN g.p n, g.p.gl⟩ g.p.xc g.p.L d.body (startS ds d.ns) S with
      | nx ρ S' =>
        rw [e1] at po
        exact fun w' σ' H' s' => po .non w' H' s'.x s'.st.bare (fun _ => .non) fun z => nomatch z
      | rt o dd S' =>
        rw [e1] at po
        exact fun v w' H' x st' hF hT => po v w' H' x st' hF hT
      | ex k ρ S' =>
        rw [e1] at po
        exact fun w' σ' H' s' => po w' H' s'.x s'.st.bare
      | bk ρ S' => rw [e1] at po; exact False.elim po
      | ct ρ S' => rw [e1] at po; exact False.elim po
      | bad => rw [e1] at po; exact False.elim po
theorem fn_step {g : Glo} {lvl : Nat} {d : Fd} {n : Nat} (G : GlOk P w K mg base g (callN g.p n) lvl) (hf : findF g.p.fs d.name = some d) (F : FunIn K mg g.p d) : FnT P w K mg base g.xv (callN g.p (n + 1)) (lvl + 4) d.name d.np := by
  obtain ⟨st, fa, fd, N, ps, F1, mgf, bf, hp, hN, sc, ck⟩ := F.ex
  exact ⟨fa, fd, ps, mgf, F1.kp, bf, hp, fn_ok G hf F1 hp hN sc ck⟩
theorem findF_name {fs : List Fd} {f : Str} {d : Fd} (h : findF fs f = some d) : d ∈ fs ∧ d.name = f := by
  unfold findF at h
  exact ⟨List.mem_of_find?_eq_some h, by simpa using List.find?_some h⟩
theorem gl_all {g : Glo} (PI : ProgIn K mg g) : ∀ n : Nat, GlOk P w K mg base g (callN g.p n) (4 * n)
  | 0 => by
    refine ⟨fun f d h => ?_, PI.blt, PI.glo, PI.exc⟩
    obtain ⟨m, e⟩ := findF_name h
    obtain ⟨st, fa, fd, N, ps, F1, mgf, bf, hp, hN, sc, ck⟩ := (PI.fns d m).ex
    subst e
    have no : ∀ vs H Q E, ¬ spC K g.xv (callN g.p 0) d.np d.name vs H Q E := fun vs H Q E h => by
      obtain ⟨ds, S, w0, _, _, _, po⟩ := h
      exact po
    exact ⟨fa, fd, ps, mgf, F1.kp, bf, hp, ⟨fun vs H Q E h => absurd h (no vs H Q E), fun A outer s H args us vs Q E _ _ _ _ h => absurd h (no vs H Q E)⟩⟩
  | n + 1 => by
    have G := gl_all PI n
    refine ⟨fun f d h => ?_, PI.blt, PI.glo, PI.exc⟩
    obtain ⟨m, e⟩ := findF_name h
    subst e
    exact fn_step G h (PI.fns d m)
/-- what is shown of law -/
def spLaw (K : PySem.W.Frag) (p : Pr) (n : Nat) : Sp := fun vs H Q _ => ∃ ds S w, vs.length = 1 ∧ Reps K w.f w.ι ds vs ∧ Stt K w [] S [] H ∧ (∃ S', callN p n "law" ds S = .ok (false, .bool true) S') ∧ ∀ H, Q (.bl true) H
theorem law_ok {g : Glo} {n : Nat} {d : Fd} {st : Stmt} {fa : Addr} {fd : FuncData} {N ps : List Str} (PI : ProgIn K mg g) (hf : findF g.p.fs d.name = some d) (hn : d.name = "law") (hd : d.np = 1) (F1 : Fun K d.name d.name st fa fd) (hp : ps.length = d.np) (hN : N.length = d.ns)
    (sc : FnScope N ps (defScope st)) (ck : ckSs ⟨N, defScope st⟩ g.p d.body (defBody st) = true) : FnOk P w K mg base (L2.CX P w) (4 * n + 4) fa fd ps (spLaw K g.p (n + 1)) := by
  refine (fn_ok (gl_all PI n) hf F1 hp hN sc ck).imp fun vs H Q E h => ?_
  obtain ⟨ds, S, w0, e1, e2, e3, ⟨S', e4⟩, q⟩ := h
  refine ⟨ds, S, w0, e1.trans hd.symm, e2, e3, ?_⟩
  rw [hn, e4]
  intro v w' H' x st' hF _
  have r := hF rfl
  cases r
  exact q H'
/-- the script, as data -/
theorem reps_script {K : PySem.W.Frag} {H : Hp} {ι : List Addr} : ∀ ns : List Int, Reps K H ι (ns.map PyData.int) (ns.map V.int)
  | [] => .nil
  | n :: ns => .cons (.int n) (reps_script ns)
theorem law_start {K : PySem.W.Frag} {p : Pr} {n : Nat} {H : Hp} {a : Addr} {ns : List Int} (hS : SqL K H a (ns.map V.int)) (h : ∃ S', callN p n "law" [.list (ns.map .int)] [] = .ok (false, .bool true) S') : spLaw K p n [.ref a] H (fun v _ => v = .bl true) fun _ _ _ => False :=
  ⟨[.list (ns.map .int)], [], ⟨H, fun _ => none, []⟩, rfl, .cons (.lst hS (reps_script ns)) .nil,
    ⟨fun _ _ h => h, (fun _ _ h => nomatch h), fun _ _ => rfl, ⟨rfl, rfl, fun _ => rfl⟩, rfl, fun _ _ h => by simp at h, fun _ _ h => by simp at h, fun _ _ _ _ _ h => by simp at h⟩, h, fun _ => rfl⟩
theorem law_cx {P : Program} (w : World) (H : Hp) (s : Shared) (e : Value) (s' : Shared) (h : L2.CX P w [] H s (fun _ _ _ => False) e s') : False := by
  obtain ⟨_, _, _, _, _, _, _, _, _, _, _, _, z⟩ := h
  exact z
end
end FW

namespace FW
open PySem PySem.W PySem.Spec L2
/-- the end: what is left is the law, run by the evaluator -/
theorem law_walk {l : PySem.W.OpenLaw} {q : Program} {loose : List Str} {XP : (Str → Option Value) → Heap → Prop} {YP : World → Heap → Prop} {d : DefRec} {K : Params → PySem.W.Frag} {p : Pr} (law : ∀ ns : List Int, ns.length ≤ 63 → ∃ S', callN p 51 "law" [.list (ns.map .int)] [] = .ok (false, .bool true) S')
    (hn : l.most = some 63) (hdf : d.params.defaults = []) (hr : Room (4 * 50 + 4) callerA) (hY : ∀ (w : World) (h : Heap), YP w h → (K w.params).In h)
    (F : ∀ (w : World) (mg : Str → Option Value) (fa : Addr) (h : Heap), (K w.params).In h → h.Ns mainGlobals mg → mg d.name = some (.ref fa) →
      ∃ fd : FuncData, (∀ (s : Shared) (u : Value), BindsTo s fd ⟨[u], []⟩ [("script", u)]) ∧ ∀ base : Heap, (K w.params).In base → base.Ns mainGlobals mg → FnOk l.prog w (K w.params) mg base (L2.CX l.prog w) (4 * 50 + 4) fa fd ["script"] (spLaw (K w.params) p 51)) :
    PySem.W.WalkO q loose XP YP l.row.toRowW d [] (fun f vs => PySem.call f vs) :=
  L2.walk_of (n := 63) (k := 4 * 50 + 4) (x := "script") (CX := fun w => L2.CX l.prog w) (sp := fun w => spLaw (K w.params) p 51) hn (by rw [sz_eq]; decide) hdf hr hY F
    (fun w H a ns hl _ hS => law_start hS (law ns hl)) fun w H s e s' => law_cx w H s e s'
theorem room_top : Room (4 * 50 + 4) callerA := ⟨rfl, by decide, by decide⟩
end FW

namespace FW
open PySem PySem.W PySem.Spec

/-! ## running the evaluator by rewriting -/
/-- what goes on: no rewriting goes in there ahead of its time -/
class Kt (α : Type) where
  k : α
def bd {α β : Type} (r : R α) [f : Kt (α → Hs → R β)] : R β := R.bind r f.k
def RS.seq (r : RS) [k : Kt (List Sl → Hs → RS)] : RS := match r with
  | .nx ρ S => k.k ρ S
  | r => r
def ifK (r : R Bool) (ρ : List Sl) [f : Kt (Hs → RS)] [g : Kt (Hs → RS)] : RS := match r with
  | .ok k S => if k = true then f.k S else g.k S
  | .exc y S => .ex y ρ S
  | .bad => .bad
def forK (r : R (List D)) (ρ : List Sl) [f : Kt (List D → Hs → RS)] : RS := match r with
  | .ok xs S => f.k xs S
  | .exc y S => .ex y ρ S
  | .bad => .bad
def bindK (o : Option (List Sl)) [f : Kt (List Sl → RS)] : RS := match o with
  | some ρ => f.k ρ
  | none => .bad
def loopK (w : List Nat) (r : RS) [k : Kt (List Sl → Hs → RS)] : RS := match r with
  | .nx ρ S => k.k ρ S
  | .ct ρ S => k.k ρ S
  | .bk ρ S => .nx (wipeL w ρ) S
  | r => r
def slK (o : Option Sl) [f : Kt (Sl → RS)] : RS := match o with
  | some s => f.k s
  | none => .bad
def tryK (x : Xc) (r : RS) (k : Str) [f : Kt (Str → List Sl → Hs → RS)] : RS := match r with
  | .ex y ρ S => if x.xs.contains y = true then (if x.sub y k = true then f.k y ρ S else .ex y ρ S) else .bad
  | r => r
def toK (r : R D) (ρ : List Sl) [k : Kt (D → Hs → RS)] : RS := toRS r ρ k.k
section
variable {α β : Type} {a : α} {S S' : Hs} {f : α → Hs → R β} {c : Env1} {x : Xc} {L : Nat} {ρ ρ' : List Sl} {k : List Sl → Hs → RS} {kd : D → Hs → RS} {y : Str}
theorem bind_ok : @bd α β (.ok a S) ⟨f⟩ = f a S := rfl
theorem bind_exc : @bd α β (.exc y S) ⟨f⟩ = .exc y S := rfl
theorem bind_bad : @bd α β .bad ⟨f⟩ = .bad := rfl
theorem lift_some : lift (some a) S = .ok a S := rfl
theorem seq_nx : @RS.seq (.nx ρ S) ⟨k⟩ = k ρ S := rfl
theorem seq_rt {o : Bool} {d : D} : @RS.seq (.rt o d S) ⟨k⟩ = .rt o d S := rfl
theorem seq_bk : @RS.seq (.bk ρ S) ⟨k⟩ = .bk ρ S := rfl
theorem seq_ct : @RS.seq (.ct ρ S) ⟨k⟩ = .ct ρ S := rfl
theorem seq_ex : @RS.seq (.ex y ρ S) ⟨k⟩ = .ex y ρ S := rfl
theorem ifK_ok {b : Bool} {f g : Hs → RS} : @ifK (.ok b S) ρ ⟨f⟩ ⟨g⟩ = if b = true then f S else g S := rfl
theorem ifK_exc {f g : Hs → RS} : @ifK (.exc y S) ρ ⟨f⟩ ⟨g⟩ = .ex y ρ S := rfl
theorem forK_ok {xs : List D} {f : List D → Hs → RS} : @forK (.ok xs S) ρ ⟨f⟩ = f xs S := rfl
theorem forK_exc {f : List D → Hs → RS} : @forK (.exc y S) ρ ⟨f⟩ = .ex y ρ S := rfl
theorem bindK_some {f : List Sl → RS} : @bindK (some ρ) ⟨f⟩ = f ρ := rfl
theorem slK_some {f : Sl → RS} {s : Sl} : @slK (some s) ⟨f⟩ = f s := rfl
theorem loopK_nx {w : List Nat} : @loopK w (.nx ρ S) ⟨k⟩ = k ρ S := rfl
theorem loopK_ct {w : List Nat} : @loopK w (.ct ρ S) ⟨k⟩ = k ρ S := rfl
theorem loopK_bk {w : List Nat} : @loopK w (.bk ρ S) ⟨k⟩ = .nx (wipeL w ρ) S := rfl
theorem loopK_rt {w : List Nat} {o : Bool} {d : D} : @loopK w (.rt o d S) ⟨k⟩ = .rt o d S := rfl
theorem loopK_ex {w : List Nat} : @loopK w (.ex y ρ S) ⟨k⟩ = .ex y ρ S := rfl
theorem toRS_ok {d : D} : @toK (.ok d S) ρ ⟨kd⟩ = kd d S := rfl
theorem toRS_exc : @toK (.exc y S) ρ ⟨kd⟩ = .ex y ρ S := rfl
theorem endRS_nx : endRS (.nx ρ S) = .ok (false, .none) S := rfl
theorem endRS_rt {o : Bool} {d : D} : endRS (.rt o d S) = .ok (o, d) S := rfl
theorem endRS_ex : endRS (.ex y ρ S) = .exc y S := rfl
theorem tryK_nx {kk : Str} {f : Str → List Sl → Hs → RS} : @tryK x (.nx ρ S) kk ⟨f⟩ = .nx ρ S := rfl
theorem tryK_rt {kk : Str} {f : Str → List Sl → Hs → RS} {o : Bool} {d : D} : @tryK x (.rt o d S) kk ⟨f⟩ = .rt o d S := rfl
theorem tryK_ex {kk : Str} {f : Str → List Sl → Hs → RS} : @tryK x (.ex y ρ S) kk ⟨f⟩ = if x.xs.contains y = true then (if x.sub y kk = true then f y ρ S else .ex y ρ S) else .bad := rfl
/-! statements -/
theorem evSs_nil : evSs c x L .nil ρ S = .nx ρ S := rfl
theorem evSs_cons {s : FW.S} {ss : Ss} : evSs c x L (.cons s ss) ρ S = @RS.seq (evS c x L s ρ S) ⟨evSs c x L ss⟩ := by
  show (match evS c x L s ρ S with | .nx ρ' S' => evSs c x L ss ρ' S' | r => r) = _
  cases evS c x L s ρ S <;> rfl
theorem evS_asg {i : Nat} {e : E} : evS c x L (.asg i e) ρ S = @toK (evE c e ρ S) ρ ⟨fun d S => .nx (ρ.set i (.fz d)) S⟩ := rfl
theorem evS_asgO {i : Nat} {e : E} : evS c x L (.asgO i e) ρ S = @toK (evFr c e ρ S) ρ ⟨fun d S => .nx (ρ.set i (.own d)) S⟩ := rfl
theorem evS_asgT {is : List Nat} {e : E} : evS c x L (.asgT is e) ρ S = @toK (evE c e ρ S) ρ ⟨fun d S => @bindK (bindTg (.many is) d ρ) ⟨fun ρ' => .nx ρ' S⟩⟩ := by
  have h : (fun (d : D) (S : Hs) => @bindK (bindTg (.many is) d ρ) ⟨fun ρ' => .nx ρ' S⟩) = fun d S => (match bindTg (.many is) d ρ with | some ρ' => RS.nx ρ' S | none => RS.bad) := by
    funext d S; cases bindTg (.many is) d ρ <;> rfl
  rw [h]; rfl
theorem evS_expr {e : E} : evS c x L (.expr e) ρ S = @toK (evE c e ρ S) ρ ⟨fun _ S => .nx ρ S⟩ := rfl
theorem evS_ret {e : E} : evS c x L (.ret e) ρ S = @toK (evE c e ρ S) ρ ⟨fun d S => .rt false d S⟩ := rfl
theorem evS_retF {e : E} : evS c x L (.retF e) ρ S = @toK (evFr c e ρ S) ρ ⟨fun d S => .rt true d S⟩ := rfl
theorem evS_retN : evS c x L .retN ρ S = .rt false .none S := rfl
theorem evS_if {t : T} {a b : Ss} : evS c x L (.ifS t a b) ρ S = @ifK (evT c t ρ S) ρ ⟨fun S => evSs c x L a ρ S⟩ ⟨fun S => evSs c x L b ρ S⟩ := by
  show (match evT c t ρ S with | .ok k S => if k = true then evSs c x L a ρ S else evSs c x L b ρ S | .exc y S => .ex y ρ S | .bad => .bad) = _
  cases evT c t ρ S <;> rfl
theorem evS_brk : evS c x L .brk ρ S = .bk ρ S := rfl
theorem evS_cnt : evS c x L .cnt ρ S = .ct ρ S := rfl
theorem evS_pass : evS c x L .pass ρ S = .nx ρ S := rfl
theorem evS_raise : evS c x L (.raise y) ρ S = .ex y ρ S := rfl
theorem evS_frz {is : List Nat} : evS c x L (.frz is) ρ S = .nx (frzL is ρ) S := rfl
theorem evS_wipe {is : List Nat} : evS c x L (.wipe is) ρ S = .nx (wipeL is ρ) S := rfl
/-- a for's turns -/
def forB (c : Env1) (x : Xc) (L : Nat) (tg : Tg) (b : Ss) (w : List Nat) (xs : List D) (ρ : List Sl) (S : Hs) : RS :=
  forLoop w (fun d ρ S => match bindTg tg d ρ with | some ρ' => evSs c x L b ρ' S | none => .bad) xs ρ S
theorem forB_nil {tg : Tg} {b : Ss} {w : List Nat} : forB c x L tg b w [] ρ S = .nx (wipeL w ρ) S := rfl
theorem forB_cons {tg : Tg} {b : Ss} {w : List Nat} {d : D} {xs : List D} : forB c x L tg b w (d :: xs) ρ S = @loopK w (@bindK (bindTg tg d (wipeL w ρ)) ⟨fun ρ' => evSs c x L b ρ' S⟩) ⟨forB c x L tg b w xs⟩ := by
  unfold forB
  rw [forLoop]
  cases bindTg tg d (wipeL w ρ) with
  | none => rfl
  | some ρ' =>
    dsimp only [bindK]
    cases evSs c x L b ρ' S <;> rfl
theorem evS_for {tg : Tg} {it : It} {b : Ss} {w : List Nat} : evS c x L (.forS tg it b w) ρ S = @forK (evIt c it ρ S) ρ ⟨fun xs S => forB c x L tg b w xs ρ S⟩ := by
  show (match evIt c it ρ S with | .ok xs S => forLoop w (fun d ρ S => match bindTg tg d ρ with | some ρ' => evSs c x L b ρ' S | none => .bad) xs ρ S | .exc y S => .ex y ρ S | .bad => .bad) = _
  cases evIt c it ρ S <;> rfl
def whB (c : Env1) (x : Xc) (L : Nat) (t : T) (b : Ss) (w : List Nat) (n : Nat) (ρ : List Sl) (S : Hs) : RS := whLoop w (evT c t) (evSs c x L b) n ρ S
theorem whB_succ {t : T} {b : Ss} {w : List Nat} {n : Nat} : whB c x L t b w (n + 1) ρ S = @ifK (evT c t (wipeL w ρ) S) (wipeL w ρ) ⟨fun S1 => @loopK w (evSs c x L b (wipeL w ρ) S1) ⟨whB c x L t b w n⟩⟩ ⟨fun S1 => .nx (wipeL w ρ) S1⟩ := by
  unfold whB
  rw [whLoop]
  cases evT c t (wipeL w ρ) S with
  | ok k S1 =>
    cases k with
    | true =>
      show (match evSs c x L b (wipeL w ρ) S1 with
        | .nx ρ' S' => whLoop w (evT c t) (evSs c x L b) n ρ' S'
        | .ct ρ' S' => whLoop w (evT c t) (evSs c x L b) n ρ' S'
        | .bk ρ' S' => .nx (wipeL w ρ') S'
        | r => r) = _
      show _ = @loopK w (evSs c x L b (wipeL w ρ) S1) ⟨whB c x L t b w n⟩
      cases evSs c x L b (wipeL w ρ) S1 <;> rfl
    | false => rfl
  | exc _ _ => rfl
  | bad => rfl
theorem evS_whl {t : T} {b : Ss} {w : List Nat} : evS c x L (.whl t b w) ρ S = whB c x L t b w L ρ S := rfl
theorem evS_app {i : Nat} {e : E} : evS c x L (.app i e) ρ S = @slK ρ[i]? ⟨fun s => match s with
    | .own (.list xs) => @toK (evE c e ρ S) ρ ⟨fun d S => if xs.length < 16777216 then .nx (ρ.set i (.own (.list (xs ++ [d])))) S else .bad⟩
    | _ => .bad⟩ := by
  show (match ρ[i]? with | some (Sl.own (.list xs)) => toRS (evE c e ρ S) ρ fun d S => if xs.length < 16777216 then .nx (ρ.set i (.own (.list (xs ++ [d])))) S else .bad | _ => .bad) = _
  cases ρ[i]? with
  | none => rfl
  | some s => cases s with
    | own d => cases d <;> rfl
    | _ => rfl
theorem evS_retO {i : Nat} : evS c x L (.retO i) ρ S = @slK ρ[i]? ⟨fun s => match s with | .own d => .rt true d S | _ => .bad⟩ := by
  show (match ρ[i]? with | some (Sl.own d) => RS.rt true d S | _ => RS.bad) = _
  cases ρ[i]? with
  | none => rfl
  | some s => cases s <;> rfl
theorem evS_try {b : Ss} {k : Str} {as : Option Nat} {h : Hd} : evS c x L (.tryS b k as h) ρ S = @tryK x (evSs c x L b ρ S) k ⟨fun y ρ' S' => runHd x h as y ρ' S'⟩ := by
  show (match evSs c x L b ρ S with | .ex y ρ' S' => (if x.xs.contains y = true then (if x.sub y k = true then runHd x h as y ρ' S' else RS.ex y ρ' S') else RS.bad) | r => r) = _
  cases evSs c x L b ρ S <;> rfl
/-! expressions -/
def numK (d : D) (f : Int → R β) : R β := match d with | .int i => f i | _ => .bad
theorem numK_int {i : Int} {f : Int → R β} : numK (.int i) f = f i := rfl
theorem evE_var {i : Nat} : evE c (.var i) ρ S = lift (rdSl ρ i) S := rfl
theorem evE_cst {d : D} : evE c (.cst d) ρ S = .ok d S := rfl
theorem evE_glo {y : Str} : evE c (.glo y) ρ S = lift (c.gl.lookup y) S := rfl
theorem evE_neg {a : E} : evE c (.neg a) ρ S = @bd _ _ (evE c a ρ S) ⟨fun d S => numK d fun i => .ok (.int (-i)) S⟩ := by
  have h : (fun (d : D) (S : Hs) => numK d fun i => R.ok (PyData.int (-i)) S) = fun d S => (match d with | .int i => R.ok (PyData.int (-i)) S | _ => R.bad) := by
    funext d S; cases d <;> rfl
  rw [h]; rfl
theorem evE_bin {op : Op2} {a b : E} : evE c (.bin op a b) ρ S = @bd _ _ (evE c a ρ S) ⟨fun x S => @bd _ _ (evE c b ρ S) ⟨fun y S => lift (binD op x y) S⟩⟩ := rfl
theorem evE_cmp {op : Cp} {a b : E} : evE c (.cmp op a b) ρ S = @bd _ _ (evE c a ρ S) ⟨fun x S => @bd _ _ (evE c b ρ S) ⟨fun y S => lift ((cmpD op x y).map .bool) S⟩⟩ := rfl
theorem evE_isN {a : E} : evE c (.isN a) ρ S = @bd _ _ (evE c a ρ S) ⟨fun x S => .ok (.bool (decide (x = .none))) S⟩ := rfl
theorem evE_notN {a : E} : evE c (.notN a) ρ S = @bd _ _ (evE c a ρ S) ⟨fun x S => .ok (.bool (!decide (x = .none))) S⟩ := rfl
def blK (d : D) (f : Bool → R β) : R β := match d with | .bool i => f i | _ => .bad
theorem blK_bool {i : Bool} {f : Bool → R β} : blK (.bool i) f = f i := rfl
theorem evE_isB {a : E} {v : Bool} : evE c (.isB a v) ρ S = @bd _ _ (evE c a ρ S) ⟨fun x S => blK x fun k => .ok (.bool (decide (k = v))) S⟩ := by
  have h : (fun (d : D) (S : Hs) => blK d fun k => R.ok (PyData.bool (decide (k = v))) S) = fun d S => (match d with | .bool k => R.ok (PyData.bool (decide (k = v))) S | _ => R.bad) := by
    funext d S; cases d <;> rfl
  rw [h]; rfl
theorem evE_ntB {a : E} {v : Bool} : evE c (.ntB a v) ρ S = @bd _ _ (evE c a ρ S) ⟨fun x S => blK x fun k => .ok (.bool (!decide (k = v))) S⟩ := by
  have h : (fun (d : D) (S : Hs) => blK d fun k => R.ok (PyData.bool (!decide (k = v))) S) = fun d S => (match d with | .bool k => R.ok (PyData.bool (!decide (k = v))) S | _ => R.bad) := by
    funext d S; cases d <;> rfl
  rw [h]; rfl
theorem evE_chain {o1 o2 : Cp} {a b d : E} : evE c (.chain o1 o2 a b d) ρ S = @bd _ _ (evE c a ρ S) ⟨fun x S => @bd _ _ (evE c b ρ S) ⟨fun y S => @bd _ _ (lift (cmpD o1 x y) S) ⟨fun k S =>
      if k = true then @bd _ _ (evE c d ρ S) ⟨fun z S => lift ((cmpD o2 y z).map .bool) S⟩ else .ok (.bool false) S⟩⟩⟩ := rfl
theorem evE_and {es : Es} : evE c (.and es) ρ S = evAnd c es ρ S := rfl
theorem evE_or {es : Es} : evE c (.or es) ρ S = evOr c es ρ S := rfl
theorem evE_not {a : E} : evE c (.not a) ρ S = @bd _ _ (evE c a ρ S) ⟨fun d S => @bd _ _ (lift (trD d) S) ⟨fun k S => .ok (.bool (!k)) S⟩⟩ := rfl
theorem evE_ite {t : T} {a b : E} : evE c (.ite t a b) ρ S = @bd _ _ (evT c t ρ S) ⟨fun k S => if k = true then evE c a ρ S else evE c b ρ S⟩ := rfl
theorem evE_tup {es : Es} : evE c (.tup es) ρ S = @bd _ _ (evEs c es ρ S) ⟨fun ds S => if ds.length ≤ 16777216 then .ok (.tuple ds) S else .bad⟩ := rfl
theorem evE_lst {es : Es} : evE c (.lst es) ρ S = @bd _ _ (evEs c es ρ S) ⟨fun ds S => if ds.length ≤ 16777216 then .ok (.list ds) S else .bad⟩ := rfl
theorem evE_idx {a b : E} : evE c (.idx a b) ρ S = @bd _ _ (evE c a ρ S) ⟨fun x S => @bd _ _ (evE c b ρ S) ⟨fun y S => lift (ixD x y) S⟩⟩ := rfl
theorem evE_slc {a : E} {lo hi : Es} : evE c (.slc a lo hi) ρ S = @bd _ _ (evE c a ρ S) ⟨fun x S => @bd _ _ (evO c lo ρ S) ⟨fun l S => @bd _ _ (evO c hi ρ S) ⟨fun h S => lift (slD x l h) S⟩⟩⟩ := rfl
theorem evE_call {f : Str} {es : Es} : evE c (.call f es) ρ S = @bd _ _ (evEs c es ρ S) ⟨fun ds S => @bd _ _ (c.cl f ds S) ⟨fun r S => .ok r.2 S⟩⟩ := rfl
theorem evE_bi {f : Bf} {es : Es} : evE c (.bi f es) ρ S = @bd _ _ (evEs c es ρ S) ⟨fun ds S => lift (biD f ds) S⟩ := rfl
theorem evE_mt {m : Mf} {o : E} {es : Es} : evE c (.mt m o es) ρ S = @bd _ _ (evE c o ρ S) ⟨fun x S => if rcvOk m x = true then @bd _ _ (evEs c es ρ S) ⟨fun ds S => lift (mtD m x ds) S⟩ else .bad⟩ := rfl
theorem evE_isi {a : E} {t : String} : evE c (.isi a t) ρ S = @bd _ _ (evE c a ρ S) ⟨fun x S => lift ((isiD x t).map .bool) S⟩ := rfl
def bwK {p : α → Prop} [DecidablePred p] (S : Hs) (r : R α) : R α := match r with
  | .ok d S' => if p d ∧ S' = S then .ok d S else .bad
  | .exc x S' => if S' = S then .exc x S else .bad
  | .bad => .bad
theorem evE_bw {is : List Nat} {e : E} : evE c (.bw is e) ρ S = bwK (p := fun d => scalar d = true) S (evE c e (frzL is ρ) S) := by
  show (match evE c e (frzL is ρ) S with | .ok d S' => (if scalar d = true ∧ S' = S then R.ok d S else R.bad) | .exc x S' => (if S' = S then R.exc x S else R.bad) | .bad => R.bad) = _
  cases evE c e (frzL is ρ) S <;> rfl
theorem bwK_ok {p : α → Prop} [DecidablePred p] (h : p a) : bwK (p := p) S (.ok a S) = .ok a S := if_pos ⟨h, rfl⟩
theorem bwK_exc {p : α → Prop} [DecidablePred p] : bwK (p := p) S (R.exc y S : R α) = R.exc y S := if_pos rfl
theorem evEs_nil : evEs c .nil ρ S = .ok [] S := rfl
theorem evEs_cons {e : E} {es : Es} : evEs c (.cons e es) ρ S = @bd _ _ (evE c e ρ S) ⟨fun d S => @bd _ _ (evEs c es ρ S) ⟨fun ds S => .ok (d :: ds) S⟩⟩ := rfl
theorem evO_nil : evO c .nil ρ S = .ok none S := rfl
theorem evO_cons {e : E} : evO c (.cons e .nil) ρ S = @bd _ _ (evE c e ρ S) ⟨fun d S => numK d fun i => .ok (some i) S⟩ := by
  have h : (fun (d : D) (S : Hs) => numK d fun i => R.ok (some i) S) = fun d S => (match d with | .int i => R.ok (some i) S | _ => R.bad) := by
    funext d S; cases d <;> rfl
  rw [h]; rfl
theorem evAnd_one {e : E} : evAnd c (.cons e .nil) ρ S = evE c e ρ S := rfl
theorem evAnd_cons {e e2 : E} {es : Es} : evAnd c (.cons e (.cons e2 es)) ρ S = @bd _ _ (evE c e ρ S) ⟨fun d S => @bd _ _ (lift (trD d) S) ⟨fun k S => if k = true then evAnd c (.cons e2 es) ρ S else .ok d S⟩⟩ := rfl
theorem evOr_one {e : E} : evOr c (.cons e .nil) ρ S = evE c e ρ S := rfl
theorem evOr_cons {e e2 : E} {es : Es} : evOr c (.cons e (.cons e2 es)) ρ S = @bd _ _ (evE c e ρ S) ⟨fun d S => @bd _ _ (lift (trD d) S) ⟨fun k S => if k = true then .ok d S else evOr c (.cons e2 es) ρ S⟩⟩ := rfl
theorem evT_tru {e : E} : evT c (.tru e) ρ S = @bd _ _ (evE c e ρ S) ⟨fun d S => lift (trD d) S⟩ := rfl
theorem evT_and {ts : Ts} : evT c (.and ts) ρ S = evAll c ts ρ S := rfl
theorem evT_or {ts : Ts} : evT c (.or ts) ρ S = evAny c ts ρ S := rfl
theorem evT_not {t : T} : evT c (.not t) ρ S = @bd _ _ (evT c t ρ S) ⟨fun k S => .ok (!k) S⟩ := rfl
theorem evT_bw {is : List Nat} {t : T} : evT c (.bw is t) ρ S = bwK (p := fun _ => True) S (evT c t (frzL is ρ) S) := by
  show (match evT c t (frzL is ρ) S with | .ok k S' => (if S' = S then R.ok k S else R.bad) | .exc x S' => (if S' = S then R.exc x S else R.bad) | .bad => R.bad) = _
  cases evT c t (frzL is ρ) S with
  | ok k S' =>
    show (if S' = S then R.ok k S else .bad) = if True ∧ S' = S then R.ok k S else .bad
    by_cases h : S' = S
    · rw [if_pos h, if_pos ⟨trivial, h⟩]
    · rw [if_neg h, if_neg fun z => h z.2]
  | _ => rfl
theorem evAll_nil : evAll c .nil ρ S = .ok true S := rfl
theorem evAll_cons {t : T} {ts : Ts} : evAll c (.cons t ts) ρ S = @bd _ _ (evT c t ρ S) ⟨fun k S => if k = true then evAll c ts ρ S else .ok false S⟩ := rfl
theorem evAny_nil : evAny c .nil ρ S = .ok false S := rfl
theorem evAny_cons {t : T} {ts : Ts} : evAny c (.cons t ts) ρ S = @bd _ _ (evT c t ρ S) ⟨fun k S => if k = true then .ok true S else evAny c ts ρ S⟩ := rfl
theorem evIt_seq {e : E} : evIt c (.seq e) ρ S = @bd _ _ (evE c e ρ S) ⟨fun d S => lift (itemsD d) S⟩ := rfl
theorem evIt_rg1 {e : E} : evIt c (.rg1 e) ρ S = @bd _ _ (evE c e ρ S) ⟨fun d S => numK d fun j => lift (rangeD 0 j) S⟩ := by
  have h : (fun (d : D) (S : Hs) => numK d fun j => lift (rangeD 0 j) S) = fun d S => (match d with | .int j => lift (rangeD 0 j) S | _ => R.bad) := by
    funext d S; cases d <;> rfl
  rw [h]; rfl
theorem evIt_rg2 {e f : E} : evIt c (.rg2 e f) ρ S = @bd _ _ (evE c e ρ S) ⟨fun d S => @bd _ _ (evE c f ρ S) ⟨fun g S => numK d fun i => numK g fun j => lift (rangeD i j) S⟩⟩ := by
  have h : (fun (d : D) (S : Hs) => @bd _ _ (evE c f ρ S) ⟨fun g S => numK d fun i => numK g fun j => lift (rangeD i j) S⟩) = fun d S => (evE c f ρ S).bind fun e S => (match d, e with | .int i, .int j => lift (rangeD i j) S | _, _ => R.bad) := by
    funext d S
    cases evE c f ρ S with
    | ok g S' => cases d <;> cases g <;> rfl
    | _ => rfl
  rw [h]; rfl
/-- a comprehension's turns -/
def lcF (c : Env1) (tg : Tg) (ts : Ts) (e : E) (ρ : List Sl) (x : D) (S : Hs) : R (Option D) := match bindTg tg x (wipeL tg.ix ρ) with
  | some ρ1 => (evAll c ts ρ1 S).bind fun k S => if k = true then (evE c e ρ1 S).bind fun d S => .ok (some d) S else .ok none S
  | none => .bad
theorem lcF_eq {tg : Tg} {ts : Ts} {e : E} {d : D} (h : bindTg tg d (wipeL tg.ix ρ) = some ρ') : lcF c tg ts e ρ d S = @bd _ _ (evAll c ts ρ' S) ⟨fun k S => if k = true then @bd _ _ (evE c e ρ' S) ⟨fun d S => .ok (some d) S⟩ else .ok none S⟩ := by
  unfold lcF
  rw [h]; rfl
theorem evE_lc {tg : Tg} {it : It} {ts : Ts} {e : E} : evE c (.lc tg it ts e) ρ S = @bd _ _ (evIt c it ρ S) ⟨fun xs S => lcLoop (lcF c tg ts e ρ) xs S []⟩ := rfl
theorem evFr_call {f : Str} {es : Es} : evFr c (.call f es) ρ S = @bd _ _ (evEs c es ρ S) ⟨fun ds S => @bd _ _ (c.cl f ds S) ⟨fun r S => if r.1 = true then .ok r.2 S else .bad⟩⟩ := rfl
theorem evFr_lst {es : Es} : evFr c (.lst es) ρ S = @bd _ _ (evE c (.lst es) ρ S) ⟨fun d S => if isLst d = true then .ok d S else .bad⟩ := rfl
theorem evFr_lc {tg : Tg} {it : It} {ts : Ts} {e : E} : evFr c (.lc tg it ts e) ρ S = @bd _ _ (evE c (.lc tg it ts e) ρ S) ⟨fun d S => if isLst d = true then .ok d S else .bad⟩ := rfl
theorem evFr_slc {a : E} {lo hi : Es} : evFr c (.slc a lo hi) ρ S = @bd _ _ (evE c (.slc a lo hi) ρ S) ⟨fun d S => if isLst d = true then .ok d S else .bad⟩ := rfl
theorem evFr_add {a b : E} : evFr c (.bin .add a b) ρ S = @bd _ _ (evE c (.bin .add a b) ρ S) ⟨fun d S => if isLst d = true then .ok d S else .bad⟩ := rfl
theorem evFr_mul {a b : E} : evFr c (.bin .mul a b) ρ S = @bd _ _ (evE c (.bin .mul a b) ρ S) ⟨fun d S => if isLst d = true then .ok d S else .bad⟩ := rfl
theorem evFr_list {es : Es} : evFr c (.bi .list es) ρ S = @bd _ _ (evE c (.bi .list es) ρ S) ⟨fun d S => if isLst d = true then .ok d S else .bad⟩ := rfl
theorem evFr_sorted {es : Es} : evFr c (.bi .sorted es) ρ S = @bd _ _ (evE c (.bi .sorted es) ρ S) ⟨fun d S => if isLst d = true then .ok d S else .bad⟩ := rfl
end
/-! ## data operations on data of known kinds -/
section
variable {a b : Int} {x y : Str} {xs ys : List D} {p q : Bool}
theorem isLst_list : isLst (.list xs) = true := rfl
theorem trD_bool : trD (.bool p) = some p := rfl
theorem trD_int : trD (.int a) = some (a != 0) := rfl
theorem trD_none : trD .none = some false := rfl
theorem trD_list : trD (.list xs) = some (!xs.isEmpty) := rfl
theorem trD_tuple : trD (.tuple xs) = some (!xs.isEmpty) := rfl
theorem pln_int : pln (.int a) = true := rfl
theorem pln_str : pln (.str x) = true := rfl
theorem pln_bool : pln (.bool p) = true := rfl
theorem pln_none : pln .none = true := rfl
theorem eq_int : cmpD .eq (.int a) (.int b) = some (decide (a = b)) := by
  simp only [cmpD, pln_int, Bool.and_self, if_true, PyData.eqv]
  rfl
theorem ne_int : cmpD .ne (.int a) (.int b) = some (!decide (a = b)) := by
  simp only [cmpD, pln_int, Bool.and_self, if_true, PyData.eqv]
  rfl
theorem eqv_str : (x == y) = decide (x = y) := by
  by_cases h : x = y
  · subst h; simp
  · simp [h]
theorem eq_str : cmpD .eq (.str x) (.str y) = some (decide (x = y)) := by
  simp only [cmpD, pln_str, Bool.and_self, if_true, PyData.eqv, eqv_str]
theorem ne_str : cmpD .ne (.str x) (.str y) = some (!decide (x = y)) := by
  simp only [cmpD, pln_str, Bool.and_self, if_true, PyData.eqv, eqv_str]
theorem ltOk_int : ltOk (.int a) (.int b) = true := rfl
theorem ltOk_str : ltOk (.str x) (.str y) = true := rfl
theorem lt_int' : cmpD .lt (.int a) (.int b) = some (decide (a < b)) := by simp only [cmpD, ltOk_int, if_true, dataLt_int]
theorem gt_int' : cmpD .gt (.int a) (.int b) = some (decide (b < a)) := by simp only [cmpD, ltOk_int, if_true, dataLt_int]
theorem le_int' : cmpD .le (.int a) (.int b) = some (decide (a ≤ b)) := by
  simp only [cmpD, ltOk_int, if_true, dataLt_int]
  congr 1
  by_cases h : b < a
  · rw [decide_eq_true h, decide_eq_false (by omega)]; rfl
  · rw [decide_eq_false h, decide_eq_true (by omega)]; rfl
theorem ge_int' : cmpD .ge (.int a) (.int b) = some (decide (b ≤ a)) := by
  simp only [cmpD, ltOk_int, if_true, dataLt_int]
  congr 1
  by_cases h : a < b
  · rw [decide_eq_true h, decide_eq_false (by omega)]; rfl
  · rw [decide_eq_false h, decide_eq_true (by omega)]; rfl
/-- texts in order -/
def sLt (x y : Str) : Bool := decide (x.cps.toList < y.cps.toList)
theorem lt_str' : cmpD .lt (.str x) (.str y) = some (sLt x y) := by simp only [cmpD, ltOk_str, if_true, dataLt_str]; rfl
theorem gt_str' : cmpD .gt (.str x) (.str y) = some (sLt y x) := by simp only [cmpD, ltOk_str, if_true, dataLt_str]; rfl
theorem add_int : binD .add (.int a) (.int b) = some (.int (a + b)) := rfl
theorem sub_int : binD .sub (.int a) (.int b) = some (.int (a - b)) := rfl
theorem mul_int : binD .mul (.int a) (.int b) = if bmul a b then some (.int (a * b)) else none := rfl
theorem bmul_r (h : b.natAbs < 18446744073709551616) : bmul a b = true := by simp [bmul, h]
theorem bmul_l (h : a.natAbs < 18446744073709551616) : bmul a b = true := by simp [bmul, h]
theorem fdiv_int : binD .fdiv (.int a) (.int b) = if 0 < b ∧ b < 1073741824 then some (.int (a / b)) else none := rfl
theorem mod_int : binD .mod (.int a) (.int b) = if 0 < b then some (.int (a % b)) else none := rfl
theorem add_str : binD .add (.str x) (.str y) = if x.length + y.length ≤ 16777216 then some (.str (x ++ y)) else none := rfl
theorem len_str : biD .len [.str x] = if x.length ≤ 16777216 then some (.int x.length) else none := by
  show Option.map (fun (n : Nat) => PyData.int n) (if x.length ≤ 16777216 then some x.length else none) = _
  by_cases h : x.length ≤ 16777216
  · rw [if_pos h, if_pos h]; rfl
  · rw [if_neg h, if_neg h]; rfl
theorem len_list : biD .len [.list xs] = some (.int xs.length) := rfl
theorem len_tuple : biD .len [.tuple xs] = some (.int xs.length) := rfl
theorem bi_int : biD .int [.int a] = some (.int a) := rfl
theorem bi_int_bool : biD .int [.bool p] = some (.int (if p then 1 else 0)) := rfl
theorem bi_abs : biD .abs [.int a] = some (.int (if a < 0 then -a else a)) := rfl
theorem bi_min : biD .min [.int a, .int b] = some (.int (if b < a then b else a)) := rfl
theorem bi_max : biD .max [.int a, .int b] = some (.int (if b > a then b else a)) := rfl
theorem bi_tuple : biD .tuple [.list xs] = some (.tuple xs) := rfl
theorem bi_tuple' : biD .tuple [.tuple xs] = some (.tuple xs) := rfl
theorem bi_list : biD .list [.list xs] = some (.list xs) := rfl
theorem bi_list' : biD .list [.tuple xs] = some (.list xs) := rfl
theorem ix_list : ixD (.list xs) (.int a) = L2.atI xs a := rfl
theorem ix_tuple : ixD (.tuple xs) (.int a) = L2.atI xs a := rfl
theorem isi_int {t : String} : isiD (.int a) t = some (t == "int") := rfl
theorem isi_str {t : String} : isiD (.str x) t = some (t == "str") := rfl
theorem isi_bool {t : String} : isiD (.bool p) t = some (t == "bool" || t == "int") := rfl
theorem isi_none {t : String} : isiD .none t = some (t == "NoneType") := rfl
theorem isi_tuple {t : String} : isiD (.tuple xs) t = some (t == "tuple") := rfl
theorem isi_list {t : String} : isiD (.list xs) t = some (t == "list") := rfl
theorem items_list : itemsD (.list xs) = some xs := rfl
theorem items_tuple : itemsD (.tuple xs) = some xs := rfl
theorem items_str : itemsD (.str x) = some (x.cps.toList.map fun c => .str ⟨#[c]⟩) := rfl
theorem atI_zero {α : Type} {u : α} {us : List α} : L2.atI (u :: us) 0 = some u := by simp [L2.atI, L2.ixN]
theorem rdSl_fz0 {d : D} {ρ : List Sl} : rdSl (.fz d :: ρ) 0 = some d := rfl
theorem rdSl_succ {s : Sl} {ρ : List Sl} {i : Nat} : rdSl (s :: ρ) (i + 1) = rdSl ρ i := rfl
end
end FW
namespace FW
open PySem PySem.W PySem.Spec
theorem emod_in {a b : Int} (h : 0 < b) : 0 ≤ a % b ∧ a % b < b := ⟨Int.emod_nonneg _ (by omega), Int.emod_lt_of_pos _ h⟩
theorem rangeD_of_le {b : Int} (h1 : 0 ≤ b) (h2 : b < 4611686018427387904) : rangeD 0 b = some ((List.range b.toNat).map fun (k : Nat) => .int (0 + k)) := by
  unfold rangeD
  rw [if_pos ⟨by decide, by decide, by omega, h2⟩, Int.sub_zero]
/-! ## data in order -/
theorem dataLt_cons {x y : D} {xs ys : List D} (h : alike x y = true) : dataLt (.tuple (x :: xs)) (.tuple (y :: ys)) = if PyData.eqv x y = true then dataLt (.tuple xs) (.tuple ys) else dataLt x y := by
  rw [dataLt_tuple, dataLt_tuple]
  cases e : PyData.eqv x y with
  | true => rw [if_pos rfl, dataLt_all_yes h e]
  | false => rw [if_neg Bool.false_ne_true, dataLt_all_no h e]
theorem dataLt_nil : dataLt (.tuple []) (.tuple []) = false := by
  rw [dataLt_tuple]; rfl
theorem dataLt_nil_cons {y : D} {ys : List D} : dataLt (.tuple []) (.tuple (y :: ys)) = true := by
  rw [dataLt_tuple, keyToksAll, keyToksAll]; rfl
theorem dataLt_cons_nil {y : D} {ys : List D} : dataLt (.tuple (y :: ys)) (.tuple []) = false := by
  rw [dataLt_tuple, keyToksAll, keyToksAll]; rfl
theorem dataLt_str' {x y : Str} : dataLt (.str x) (.str y) = sLt x y := by rw [dataLt_str]; rfl
theorem eqv_int' {a b : Int} : PyData.eqv (.int a) (.int b) = decide (a = b) := by
  simp only [PyData.eqv]; rfl
theorem eqv_str' {x y : Str} : PyData.eqv (.str x) (.str y) = decide (x = y) := by
  simp only [PyData.eqv, eqv_str]
theorem sLt_irr (x : Str) : sLt x x = false := decide_eq_false (List.lt_irrefl _)
theorem str_ext {x y : Str} (h : x.cps.toList = y.cps.toList) : x = y := by
  cases x; cases y
  simp only [Str.mk.injEq]
  exact Array.toList_inj.mp h
theorem sLt_tri {x y : Str} (h1 : sLt x y = false) (h2 : sLt y x = false) : x = y := by
  have h1 := of_decide_eq_false h1
  have h2 := of_decide_eq_false h2
  exact str_ext (List.le_antisymm (List.not_lt.mp h2) (List.not_lt.mp h1))
theorem sLt_asym {x y : Str} (h : sLt x y = true) : sLt y x = false := decide_eq_false (List.lt_asymm (of_decide_eq_true h))
theorem str_len (x : Str) : x.length = x.cps.toList.length := by show x.cps.size = _; simp
theorem str_app_cps (x y : Str) : (x ++ y).cps.toList = x.cps.toList ++ y.cps.toList := by show (x.cps ++ y.cps).toList = _; simp
theorem str_app_len (x y : Str) : (x ++ y).length = x.length + y.length := by rw [str_len, str_app_cps, List.length_append, str_len, str_len]
theorem ix_str {x : Str} {a : Int} (h : x.length ≤ 16777216) : ixD (.str x) (.int a) = (L2.atI x.cps.toList a).map fun c => .str ⟨#[c]⟩ := by
  show (if x.length ≤ 16777216 then _ else none) = _
  rw [if_pos h]; rfl
theorem atI_list {α : Type} {xs : List α} {k : Nat} (h : k < xs.length) : L2.atI xs (k : Int) = some xs[k] := by
  unfold L2.atI L2.ixN
  rw [if_pos (by omega), if_pos (by omega)]
  simp [h]
theorem eq_bool {p q : Bool} : cmpD .eq (.bool p) (.bool q) = some (decide (p = q)) := by
  cases p <;> cases q <;> rfl
theorem slD_list {xs : List D} {lo hi : Option Int} : slD (.list xs) lo hi = some (.list (cutL xs lo hi)) := rfl
theorem slD_tuple {xs : List D} {lo hi : Option Int} : slD (.tuple xs) lo hi = some (.tuple (cutL xs lo hi)) := rfl
theorem slD_str {x : Str} {lo hi : Option Int} (h : x.length ≤ 16777216) : slD (.str x) lo hi = some (.str (L2.cutS x lo hi)) := if_pos h
theorem cutL_map {α β : Type} (f : α → β) (xs : List α) (lo hi : Option Int) : cutL (xs.map f) lo hi = (cutL xs lo hi).map f := by
  unfold cutL
  rw [List.length_map, List.map_take, List.map_drop]
theorem cutL_len {α : Type} (xs : List α) (lo hi : Option Int) : (cutL xs lo hi).length ≤ xs.length := by
  unfold cutL
  rw [List.length_take, List.length_drop]; omega
theorem cutL_mem {α : Type} {xs : List α} {lo hi : Option Int} {x : α} (h : x ∈ cutL xs lo hi) : x ∈ xs := List.mem_of_mem_drop (List.mem_of_mem_take h)
/-- is a sign in a text -/
def inS (c : Nat) (z : Str) : Bool := !(Builtin.Str.occurrences z ⟨#[c]⟩ 0 z.length 1).isEmpty
theorem isin_str {c : Nat} {z : Str} : cmpD .isin (.str ⟨#[c]⟩) (.str z) = some (inS c z) := rfl
theorem notin_str {c : Nat} {z : Str} : cmpD .notin (.str ⟨#[c]⟩) (.str z) = some (!inS c z) := rfl
/-- a comprehension whose turns are plain -/
theorem lc_map {α : Type} {f : D → Hs → R (Option D)} {g : α → D} {h : α → Option D} {S : Hs} : ∀ (xs : List α) (acc : List D), (∀ x, x ∈ xs → f (g x) S = .ok (h x) S) → acc.length + xs.length ≤ 16777216 → lcLoop f (xs.map g) S acc = .ok (.list (acc ++ xs.filterMap h)) S
  | [], acc, _, _ => by rw [List.map_nil, lcLoop, List.filterMap_nil, List.append_nil]
  | x :: xs, acc, hf, hl => by
    rw [List.length_cons] at hl
    rw [List.map_cons, lcLoop, hf x List.mem_cons_self]
    cases e : h x with
    | none =>
      rw [List.filterMap_cons_none e]
      exact lc_map xs acc (fun y m => hf y (List.mem_cons_of_mem _ m)) (by omega)
    | some d =>
      rw [List.filterMap_cons_some e]
      show (if acc.length < 16777216 then lcLoop f (xs.map g) S (acc ++ [d]) else .bad) = _
      rw [if_pos (by omega), lc_map xs (acc ++ [d]) (fun y m => hf y (List.mem_cons_of_mem _ m)) (by rw [List.length_append, List.length_singleton]; omega), List.append_assoc]
      rfl
theorem lc_map' {α : Type} {f : D → Hs → R (Option D)} {g : α → D} {h : α → D} {S : Hs} (xs : List α) (hf : ∀ x, x ∈ xs → f (g x) S = .ok (some (h x)) S) (hl : xs.length ≤ 16777216) : lcLoop f (xs.map g) S [] = .ok (.list (xs.map h)) S := by
  have := lc_map (h := fun x => some (h x)) xs [] hf (by simpa using hl)
  have e : xs.filterMap (fun x => some (h x)) = xs.map h := by
    rw [← List.filterMap_eq_map]; rfl
  rw [this, List.nil_append, e]
theorem all_bools {α : Type} (p : α → Bool) (xs : List α) : biD .all [.list (xs.map fun x => .bool (p x))] = some (.bool (xs.all p)) := by
  have h : (xs.map fun x => PyData.bool (p x)).all (fun d => match d with | .bool _ => true | _ => false) = true := by
    rw [List.all_map]; exact List.all_eq_true.mpr fun x _ => rfl
  show (if (xs.map fun x => PyData.bool (p x)).all (fun d => match d with | .bool _ => true | _ => false) = true then some (PyData.bool ((xs.map fun x => PyData.bool (p x)).all PyData.truthy)) else none) = _
  rw [if_pos h, List.all_map]; rfl
theorem any_bools {α : Type} (p : α → Bool) (xs : List α) : biD .any [.list (xs.map fun x => .bool (p x))] = some (.bool (xs.any p)) := by
  have h : (xs.map fun x => PyData.bool (p x)).all (fun d => match d with | .bool _ => true | _ => false) = true := by
    rw [List.all_map]; exact List.all_eq_true.mpr fun x _ => rfl
  show (if (xs.map fun x => PyData.bool (p x)).all (fun d => match d with | .bool _ => true | _ => false) = true then some (PyData.bool ((xs.map fun x => PyData.bool (p x)).any PyData.truthy)) else none) = _
  rw [if_pos h, List.any_map]; rfl
end FW

namespace FW
open PySem PySem.W PySem.Spec

/-! ## texts, by their signs -/
abbrev cp (x : Str) : List Nat := x.cps.toList
theorem cp_mk (l : List Nat) : cp ⟨l.toArray⟩ = l := by simp [cp]
theorem cp_one (c : Nat) : cp ⟨#[c]⟩ = [c] := by simp [cp]
theorem cp_of (s : String) : cp (Str.ofString s) = s.toList.map Char.toNat := by
  show ((cpsOfBytes 0 0 s.toByteArray.data.toList).toArray).toList = _
  rw [List.toList_toArray]; exact cpsOfBytes_string s
theorem cp_len (x : Str) : x.length = (cp x).length := str_len x
theorem cp_app (x y : Str) : cp (x ++ y) = cp x ++ cp y := str_app_cps x y
theorem cp_cut (x : Str) (lo hi : Option Int) : cp (L2.cutS x lo hi) = cutL (cp x) lo hi := by
  show (((x.cps.toList.drop _).take _).toArray).toList = _
  rw [List.toList_toArray]
  unfold cutL
  rw [← cp_len]
theorem starts_one (x : Str) (c : Nat) : Txt.startswith x ⟨#[c]⟩ = decide ((cp x)[0]? = some c) := by
  have h := PySem.StrLaws.subAt_one x c 0
  cases e : Txt.startswith x ⟨#[c]⟩ with
  | true =>
    have e' : (decide (0 + (⟨#[c]⟩ : Str).length ≤ x.length) && Builtin.Str.subAt x ⟨#[c]⟩ 0) = true := e
    rw [Bool.and_eq_true, decide_eq_true_eq] at e'
    exact (decide_eq_true (h.mp e')).symm
  | false =>
    refine (decide_eq_false fun z => ?_).symm
    have q := h.mpr z
    have e' : (decide (0 + (⟨#[c]⟩ : Str).length ≤ x.length) && Builtin.Str.subAt x ⟨#[c]⟩ 0) = false := e
    rw [decide_eq_true q.1, q.2] at e'
    cases e'
theorem inS_mem (c : Nat) (z : Str) : inS c z = decide (c ∈ cp z) := by
  have h := PySem.StrLaws.found_iff z ⟨#[c]⟩
  cases e : inS c z with
  | true =>
    obtain ⟨i, hi⟩ := h.mp e
    have := (PySem.StrLaws.subAt_one z c i).mp hi
    exact (decide_eq_true (List.mem_of_getElem? this)).symm
  | false =>
    refine (decide_eq_false fun m => ?_).symm
    obtain ⟨i, hi⟩ := List.getElem?_of_mem m
    have := h.mpr ⟨i, (PySem.StrLaws.subAt_one z c i).mpr hi⟩
    have e' : (!(Builtin.Str.occurrences z ⟨#[c]⟩ 0 z.length 1).isEmpty) = false := e
    rw [this] at e'; cases e'
theorem digit_low : ∀ c : Nat, c < 128 → Unicode.isDigit c = (decide (48 ≤ c) && decide (c ≤ 57)) := by decide +kernel
theorem isdigit_eq (x : Str) : Txt.isdigit x = (decide (0 < x.length) && (cp x).all Unicode.isDigit) := by
  show (decide (x.length > 0) && x.cps.all Unicode.isDigit) = _
  rw [← Array.all_toList]
theorem isdigit_yes {x : Str} (h : (cp x) ≠ []) (hd : ∀ c, c ∈ cp x → 48 ≤ c ∧ c ≤ 57) : Txt.isdigit x = true := by
  rw [isdigit_eq, Bool.and_eq_true, decide_eq_true_eq, cp_len]
  refine ⟨List.length_pos_iff.mpr h, List.all_eq_true.mpr fun c hc => ?_⟩
  obtain ⟨h1, h2⟩ := hd c hc
  rw [digit_low c (by omega), decide_eq_true h1, decide_eq_true h2]; rfl
theorem isdigit_no {x : Str} {c : Nat} (h : c ∈ cp x) (hc : c < 128) (hn : ¬ (48 ≤ c ∧ c ≤ 57)) : Txt.isdigit x = false := by
  rw [isdigit_eq]
  cases e : (cp x).all Unicode.isDigit with
  | false => rw [Bool.and_false]
  | true =>
    have q := List.all_eq_true.mp e c h
    rw [digit_low c hc, Bool.and_eq_true, decide_eq_true_eq, decide_eq_true_eq] at q
    exact absurd q hn
theorem isdigit_nil {x : Str} (h : cp x = []) : Txt.isdigit x = false := by
  rw [isdigit_eq, cp_len, h]; rfl
/-! ## whole numbers as texts -/
def tI (n : Int) : Str := Str.ofString (toString n)
theorem cp_nat (n : Nat) : cp (tI n) = TL.numL n := TL.tl_num n
theorem cp_neg (n : Nat) (h : 0 < n) : cp (tI (-(n : Int))) = 45 :: TL.numL n := by
  obtain ⟨m, rfl⟩ : ∃ m, n = m + 1 := ⟨n - 1, by omega⟩
  have e : toString (-((m + 1 : Nat) : Int)) = "-" ++ toString ((m + 1 : Nat) : Int) := rfl
  have e2 := cp_nat (m + 1)
  unfold tI at e2 ⊢
  rw [cp_of] at e2
  rw [e, cp_of, String.toList_append, List.map_append, e2]; rfl
theorem digits_ok (n : Nat) : ∀ c, c ∈ TL.numL n → 48 ≤ c ∧ c ≤ 57 := TL.numL_digits n
theorem val_num (n : Nat) : NumText.digitsVal (TL.numL n) = n := TL.numL_val n
theorem tI_len {n : Int} (h : n.natAbs < 10 ^ 100) : (tI n).length ≤ 101 := by
  rcases Int.le_total 0 n with h0 | h0
  · obtain ⟨m, rfl⟩ := Int.eq_ofNat_of_zero_le h0
    rw [cp_len, cp_nat]
    have := TL.numL_len (n := m) (k := 100) (by decide) (by simpa using h)
    omega
  · by_cases hz : n = 0
    · subst hz; decide +kernel
    · obtain ⟨m, hm⟩ : ∃ m : Nat, n = -(m : Int) ∧ 0 < m := ⟨n.natAbs, by omega, by omega⟩
      obtain ⟨rfl, hp⟩ := hm
      rw [cp_len, cp_neg m hp, List.length_cons]
      have := TL.numL_len (n := m) (k := 100) (by decide) (by simpa using h)
      omega
theorem bi_str {n : Int} (h : n.natAbs < 10 ^ 100) : biD .str [.int n] = some (.str (tI n)) := by
  have : n.natAbs.log2 < 1920 := by
    by_cases hz : n.natAbs = 0
    · rw [hz]; decide
    · exact (Nat.log2_lt hz).mpr (Nat.lt_trans h (by decide +kernel))
  show (if n.natAbs.log2 < 1920 then some (PyData.str (toString n)) else none) = _
  rw [if_pos this]; rfl
theorem bi_int_str {x : Str} {n : Int} (h : PySem.intText? x = some n) (hl : x.length ≤ 640) : biD .int [.str x] = some (.int n) := by
  show (if x.length ≤ 640 then (PySem.intText? x).map PyData.int else none) = _
  rw [if_pos hl, h]; rfl
theorem int_digits {x : Str} (h : ∀ c, c ∈ cp x → 48 ≤ c ∧ c ≤ 57) (hn : cp x ≠ []) (hl : x.length ≤ 640) : biD .int [.str x] = some (.int (NumText.digitsVal (cp x) : Nat)) :=
  bi_int_str (PySem.intText_digits h hn (by omega)) hl
theorem int_neg {x : Str} {cs : List Nat} (hx : cp x = 45 :: cs) (h : ∀ c, c ∈ cs → 48 ≤ c ∧ c ≤ 57) (hn : cs ≠ []) (hl : x.length ≤ 640) : biD .int [.str x] = some (.int (-((NumText.digitsVal cs : Nat) : Int))) :=
  bi_int_str (PySem.intText_neg hx h hn (by omega)) hl
theorem cut_tail {α : Type} (x : α) (xs : List α) : cutL (x :: xs) (some 1) none = xs := by
  unfold cutL
  have h1 : HT.sIx (x :: xs).length 0 (some 1) = 1 := by
    show (if (1 : Int) < 0 then ((1 : Int) + ((x :: xs).length : Int)).toNat else min (1 : Int).toNat (x :: xs).length) = 1
    rw [if_neg (by decide : ¬ (1 : Int) < 0)]
    show min 1 (xs.length + 1) = 1
    omega
  have h2 : HT.sIx (x :: xs).length (x :: xs).length none = xs.length + 1 := rfl
  rw [h1, h2]
  simp
theorem cut_head {α : Type} (xs : List α) (k : Nat) : cutL xs none (some (k : Int)) = xs.take k := by
  unfold cutL
  have h1 : HT.sIx xs.length 0 none = 0 := rfl
  have h2 : HT.sIx xs.length xs.length (some (k : Int)) = min k xs.length := HT.sIx_nat _ _ _
  rw [h1, h2, List.drop_zero, Nat.sub_zero]
  by_cases h : k ≤ xs.length
  · rw [Nat.min_eq_left h]
  · rw [Nat.min_eq_right (by omega), List.take_of_length_le (Nat.le_refl _), List.take_of_length_le (by omega)]
end FW

namespace FW
open PySem PySem.W
/-! ## loops told by what holds ahead of each turn -/
section
variable {c : Env1} {x : Xc} {L : Nat} {tg : Tg} {b : Ss} {w : List Nat} {S : Hs}
theorem for_inv (I : List D → List Sl → Prop) (hs : ∀ d ds ρ, I (d :: ds) ρ → ∃ ρ2, @bindK (bindTg tg d (wipeL w ρ)) ⟨fun ρ' => evSs c x L b ρ' S⟩ = .nx ρ2 S ∧ I ds ρ2) :
    ∀ ds ρ, I ds ρ → ∃ ρ', I [] ρ' ∧ forB c x L tg b w ds ρ S = .nx (wipeL w ρ') S
  | [], ρ, h => ⟨ρ, h, rfl⟩
  | d :: ds, ρ, h => by
    obtain ⟨ρ2, e, h2⟩ := hs d ds ρ h
    obtain ⟨ρ', h3, e3⟩ := for_inv I hs ds ρ2 h2
    exact ⟨ρ', h3, by rw [forB_cons, e]; exact e3⟩
theorem range_eq (n : Nat) : ((List.range n).map fun (k : Nat) => PyData.int (0 + k)) = (List.range n).map fun (k : Nat) => PyData.int k := by
  refine List.map_congr_left fun k _ => ?_
  rw [Int.zero_add]
theorem for_range (n : Nat) (I : Nat → List Sl → Prop) (hs : ∀ k, k < n → ∀ ρ, I k ρ → ∃ ρ2, @bindK (bindTg tg (.int (k : Int)) (wipeL w ρ)) ⟨fun ρ' => evSs c x L b ρ' S⟩ = .nx ρ2 S ∧ I (k + 1) ρ2) (ρ : List Sl) (h : I 0 ρ) :
    ∃ ρ', I n ρ' ∧ forB c x L tg b w ((List.range n).map fun (k : Nat) => .int (0 + k)) ρ S = .nx (wipeL w ρ') S := by
  rw [range_eq]
  have key := for_inv (c := c) (x := x) (L := L) (tg := tg) (b := b) (w := w) (S := S) (fun ds ρ => ∃ k, k ≤ n ∧ ds = ((List.range n).drop k).map (fun (k : Nat) => PyData.int k) ∧ I k ρ) (fun d ds ρ ⟨k, hk, e, hi⟩ => by
    have hk2 : k < n := by
      rcases Nat.lt_or_ge k n with h | h
      · exact h
      · rw [List.drop_eq_nil_of_le (by rw [List.length_range]; exact h)] at e; cases e
    rw [List.drop_eq_getElem_cons (by rw [List.length_range]; exact hk2), List.map_cons, List.getElem_range] at e
    obtain ⟨e1, e2⟩ := List.cons.inj e
    obtain ⟨ρ2, h1, h2⟩ := hs k hk2 ρ hi
    exact ⟨ρ2, by rw [e1]; exact h1, k + 1, hk2, e2, h2⟩) ((List.range n).map fun (k : Nat) => PyData.int k) ρ ⟨0, Nat.zero_le _, rfl, h⟩
  obtain ⟨ρ', ⟨k, hk, e, hi⟩, e2⟩ := key
  have : k = n := by
    rcases Nat.lt_or_ge k n with h | h
    · rw [List.drop_eq_getElem_cons (by rw [List.length_range]; exact h)] at e; cases e
    · omega
  subst this
  exact ⟨ρ', hi, e2⟩
/-- a loop over the data of a list -/
theorem for_map {α : Type} (f : α → D) (I : List α → List Sl → Prop) (hs : ∀ d ds ρ, I (d :: ds) ρ → ∃ ρ2, @bindK (bindTg tg (f d) (wipeL w ρ)) ⟨fun ρ' => evSs c x L b ρ' S⟩ = .nx ρ2 S ∧ I ds ρ2) :
    ∀ ds ρ, I ds ρ → ∃ ρ', I [] ρ' ∧ forB c x L tg b w (ds.map f) ρ S = .nx (wipeL w ρ') S
  | [], ρ, h => ⟨ρ, h, rfl⟩
  | d :: ds, ρ, h => by
    obtain ⟨ρ2, e, h2⟩ := hs d ds ρ h
    obtain ⟨ρ', h3, e3⟩ := for_map f I hs ds ρ2 h2
    exact ⟨ρ', h3, by rw [List.map_cons, forB_cons, e]; exact e3⟩
end
/-! ## sorting -/
theorem bi_sorted {α : Type} (f : α → D) (xs : List α) (h : sortable (xs.map f) = true) : biD .sorted [.list (xs.map f)] = some (.list ((xs.mergeSort fun a b => !dataLt (f b) (f a)).map f)) := by
  show (if sortable (xs.map f) then some (PyData.list ((xs.map f).mergeSort (dataLe false id))) else none) = _
  rw [if_pos h, ← List.map_mergeSort (r := fun a b => !dataLt (f b) (f a)) (s := dataLe false id) (f := f) (fun a _ b _ => rfl)]
theorem sortable_yes {α : Type} (f : α → D) (xs : List α) (h1 : ∀ a b, a ∈ xs → b ∈ xs → alike (f a) (f b) = true) (h2 : (∀ a, a ∈ xs → ∃ y ys, f a = .tuple (y :: ys)) ∨ ∀ a, a ∈ xs → f a ≠ .none ∧ ∀ ys, f a ≠ .tuple ys) (h3 : ∀ a, a ∈ xs → (f a).depth ≤ 64) (h4 : xs.length ≤ 16777216) : sortable (xs.map f) = true := by
  unfold sortable alikeB sortOkB deepOk
  simp only [Bool.and_eq_true, Bool.or_eq_true, List.all_map, List.all_eq_true, Function.comp, decide_eq_true_eq, List.length_map]
  refine ⟨⟨⟨fun a ha b hb => h1 a b ha hb, ?_⟩, h3⟩, h4⟩
  rcases h2 with h | h
  · left; intro a ha
    obtain ⟨y, ys, e⟩ := h a ha
    rw [e]
  · right; intro a ha
    have := h a ha
    split
    · exact absurd (by assumption) this.1
    · exact absurd (by assumption) (this.2 _)
    · rfl
def sortS (ws : List Str) : List Str := ws.mergeSort fun a b => !sLt b a
theorem sorted_strs (ws : List Str) (h : ws.length ≤ 16777216) : biD .sorted [.list (ws.map .str)] = some (.list ((sortS ws).map .str)) := by
  rw [bi_sorted .str ws (sortable_yes _ _ (fun _ _ _ _ => by simp [alike]) (.inr fun _ _ => ⟨by simp, by simp⟩) (fun _ _ => by simp [PyData.depth]) h)]
  unfold sortS
  simp only [dataLt_str']
theorem sLt_trans {x y z : Str} (h1 : sLt x y = true) (h2 : sLt y z = true) : sLt x z = true := decide_eq_true (List.lt_trans (of_decide_eq_true h1) (of_decide_eq_true h2))
theorem sLe_trans {x y z : Str} (h1 : sLt y x = false) (h2 : sLt z y = false) : sLt z x = false := by
  cases h : sLt z x with
  | false => rfl
  | true =>
    cases h3 : sLt x y with
    | true => rw [sLt_trans h h3] at h2; exact h2.symm ▸ rfl
    | false => have e := sLt_tri h3 h1; subst e; rw [h] at h2; exact h2.symm ▸ rfl
theorem sortS_perm (ws : List Str) : (sortS ws).Perm ws := List.mergeSort_perm _ _
theorem sortS_le (ws : List Str) : (sortS ws).Pairwise fun a b => sLt b a = false := by
  have h := List.pairwise_mergeSort (le := fun a b => !sLt b a) (fun a b c h1 h2 => by
    simp only [Bool.not_eq_true'] at *
    exact sLe_trans h1 h2) (fun a b => by
    cases h : sLt b a with
    | false => rfl
    | true => rw [sLt_asym h]; rfl) ws
  refine h.imp fun h => ?_
  simpa using h
theorem sortS_asc (ws : List Str) (h : ws.Nodup) : (sortS ws).Pairwise fun a b => sLt a b = true := by
  have h1 := sortS_le ws
  have h2 : (sortS ws).Nodup := (sortS_perm ws).nodup_iff.mpr h
  refine (h1.and h2).imp fun {a b} hab => ?_
  cases e : sLt a b with
  | true => rfl
  | false => exact absurd (sLt_tri e hab.1) hab.2
theorem sortS_len (ws : List Str) : (sortS ws).length = ws.length := (sortS_perm ws).length_eq
/-! ## equality of data without truth values -/
mutual
def nob : D → Bool
  | .none | .int _ | .str _ => true
  | .bool _ => false
  | .list xs => nobL xs
  | .tuple xs => nobL xs
  | .dict _ => false
def nobL : List D → Bool
  | [] => true
  | x :: xs => nob x && nobL xs
end
mutual
theorem eqv_nob : ∀ x y : D, nob x = true → nob y = true → PyData.eqv x y = decide (x = y)
  | .none, y, _, h => by cases y <;> simp_all [PyData.eqv, nob]
  | .int a, y, _, h => by
    cases y with
    | int b => exact eqv_int'.trans (by simp)
    | _ => simp_all [PyData.eqv, nob]
  | .str a, y, _, h => by
    cases y with
    | str b => exact eqv_str'.trans (by simp)
    | _ => simp_all [PyData.eqv, nob]
  | .bool a, y, h, _ => by simp [nob] at h
  | .dict a, y, h, _ => by simp [nob] at h
  | .list xs, y, h, h2 => by
    cases y with
    | list ys =>
      have := eqv_nobL xs ys (by simpa [nob] using h) (by simpa [nob] using h2)
      simp [PyData.eqv, this]
    | _ => simp_all [PyData.eqv, nob]
  | .tuple xs, y, h, h2 => by
    cases y with
    | tuple ys =>
      have := eqv_nobL xs ys (by simpa [nob] using h) (by simpa [nob] using h2)
      simp [PyData.eqv, this]
    | _ => simp_all [PyData.eqv, nob]
theorem eqv_nobL : ∀ xs ys : List D, nobL xs = true → nobL ys = true → PyData.eqvAll xs ys = decide (xs = ys)
  | [], [], _, _ => by simp [PyData.eqvAll]
  | [], _ :: _, _, _ => by simp [PyData.eqvAll]
  | _ :: _, [], _, _ => by simp [PyData.eqvAll]
  | x :: xs, y :: ys, h, h2 => by
    simp only [nobL, Bool.and_eq_true] at h h2
    rw [PyData.eqvAll, eqv_nob x y h.1 h2.1, eqv_nobL xs ys h.2 h2.2]
    simp
end
theorem nobL_all {xs : List D} : nobL xs = xs.all nob := by
  induction xs with
  | nil => rfl
  | cons x xs ih => rw [nobL, ih, List.all_cons]
theorem nob_map {α : Type} {f : α → D} {xs : List α} (h : ∀ x, x ∈ xs → nob (f x) = true) : nobL (xs.map f) = true := by
  rw [nobL_all, List.all_map, List.all_eq_true]; exact h
theorem plainAll_all {xs : List D} : PyData.plainAll xs = xs.all PyData.plain := by
  induction xs with
  | nil => rfl
  | cons x xs ih => rw [PyData.plainAll, ih, List.all_cons]
theorem depthAll_le {xs : List D} {k : Nat} (h : ∀ x, x ∈ xs → x.depth ≤ k) : PyData.depthAll xs ≤ k := by
  induction xs with
  | nil => exact Nat.zero_le _
  | cons x xs ih => rw [PyData.depthAll]; exact Nat.max_le.mpr ⟨h x List.mem_cons_self, ih fun y hy => h y (List.mem_cons_of_mem _ hy)⟩
/-- no dict, no truth value, of a depth -/
def flat (k : Nat) (d : D) : Prop := nob d = true ∧ d.depth ≤ k
mutual
theorem plain_nob : ∀ d : D, nob d = true → d.plain = true
  | .none, _ => rfl
  | .int _, _ => rfl
  | .str _, _ => rfl
  | .bool _, _ => rfl
  | .dict _, h => by simp [nob] at h
  | .list xs, h => by rw [PyData.plain]; exact plain_nobL xs (by simpa [nob] using h)
  | .tuple xs, h => by rw [PyData.plain]; exact plain_nobL xs (by simpa [nob] using h)
theorem plain_nobL : ∀ xs : List D, nobL xs = true → PyData.plainAll xs = true
  | [], _ => rfl
  | x :: xs, h => by
    simp only [nobL, Bool.and_eq_true] at h
    rw [PyData.plainAll, plain_nob x h.1, plain_nobL xs h.2]; rfl
end
theorem flat_int (k : Nat) (a : Int) : flat k (.int a) := ⟨rfl, Nat.zero_le _⟩
theorem flat_str (k : Nat) (a : Str) : flat k (.str a) := ⟨rfl, Nat.zero_le _⟩
theorem flat_tuple {k : Nat} {xs : List D} (h : ∀ x, x ∈ xs → flat k x) : flat (k + 1) (.tuple xs) := by
  refine ⟨?_, ?_⟩
  · show nob (.tuple xs) = true
    rw [nob, nobL_all, List.all_eq_true]; exact fun x hx => (h x hx).1
  · rw [PyData.depth]; exact Nat.succ_le_succ (depthAll_le fun x hx => (h x hx).2)
theorem flat_list {k : Nat} {xs : List D} (h : ∀ x, x ∈ xs → flat k x) : flat (k + 1) (.list xs) := by
  refine ⟨?_, ?_⟩
  · show nob (.list xs) = true
    rw [nob, nobL_all, List.all_eq_true]; exact fun x hx => (h x hx).1
  · rw [PyData.depth]; exact Nat.succ_le_succ (depthAll_le fun x hx => (h x hx).2)
theorem flat.mono {k j : Nat} {d : D} (h : flat k d) (hk : k ≤ j) : flat j d := ⟨h.1, Nat.le_trans h.2 hk⟩
theorem flat.pln {k : Nat} {d : D} (h : flat k d) (hk : k ≤ 64) : pln d = true := by
  show (d.plain && decide (d.depth ≤ 64)) = true
  rw [plain_nob d h.1, decide_eq_true (Nat.le_trans h.2 hk)]; rfl
theorem eq_flat {k : Nat} {x y : D} (hx : flat k x) (hy : flat k y) (hk : k ≤ 64) : cmpD .eq x y = some (decide (x = y)) := by
  show (if pln x && pln y then some (PyData.eqv x y) else none) = _
  rw [hx.pln hk, hy.pln hk, eqv_nob x y hx.1 hy.1]; rfl
theorem ne_flat {k : Nat} {x y : D} (hx : flat k x) (hy : flat k y) (hk : k ≤ 64) : cmpD .ne x y = some (!decide (x = y)) := by
  show (if pln x && pln y then some (!PyData.eqv x y) else none) = _
  rw [hx.pln hk, hy.pln hk, eqv_nob x y hx.1 hy.1]; rfl
theorem lt_flat {k : Nat} {x y : D} (ha : alike x y = true) (hx : flat k x) (hy : flat k y) (hk : k ≤ 64) (hn : x ≠ .none) : cmpD .lt x y = some (dataLt x y) := by
  show (if ltOk x y = true then some (dataLt x y) else none) = _
  rw [if_pos]
  show (alike x y && pln x && pln y && notNone x) = true
  rw [ha, hx.pln hk, hy.pln hk]
  cases x <;> first | rfl | exact absurd rfl hn
theorem gt_flat {k : Nat} {x y : D} (ha : alike y x = true) (hx : flat k x) (hy : flat k y) (hk : k ≤ 64) (hn : y ≠ .none) (ha2 : alike x y = true) (hn2 : x ≠ .none) : cmpD .gt x y = some (dataLt y x) := by
  show (if ltOk x y = true then some (dataLt y x) else none) = _
  rw [if_pos]
  show (alike x y && pln x && pln y && notNone x) = true
  rw [ha2, hx.pln hk, hy.pln hk]
  cases x <;> first | rfl | exact absurd rfl hn2
end FW

namespace FW
open PySem PySem.W
section
variable {α : Type} {a b c d e f : α} {us : List α}
theorem atI_nat {xs : List α} {k : Nat} {x : α} (h : xs[k]? = some x) : L2.atI xs (k : Int) = some x := by
  obtain ⟨hk, e⟩ := List.getElem?_eq_some_iff.mp h
  rw [atI_list hk, e]
theorem atI_one : L2.atI (a :: b :: us) 1 = some b := atI_nat (k := 1) rfl
theorem atI_two : L2.atI (a :: b :: c :: us) 2 = some c := atI_nat (k := 2) rfl
theorem atI_three : L2.atI (a :: b :: c :: d :: us) 3 = some d := atI_nat (k := 3) rfl
theorem atI_four : L2.atI (a :: b :: c :: d :: e :: us) 4 = some e := atI_nat (k := 4) rfl
theorem atI_five : L2.atI (a :: b :: c :: d :: e :: f :: us) 5 = some f := atI_nat (k := 5) rfl
end
end FW
namespace FW
open PySem PySem.W
theorem add_tup' {as bs : List D} (h : as.length + bs.length ≤ 16777216) : binD .add (.tuple as) (.tuple bs) = some (.tuple (as ++ bs)) := if_pos h
theorem add_tup {a : D} {as bs : List D} (h : as.length + 1 + bs.length ≤ 16777216) : binD .add (.tuple (a :: as)) (.tuple bs) = some (.tuple (a :: (as ++ bs))) := if_pos h
theorem ge_str' {x y : Str} : cmpD .ge (.str x) (.str y) = some (!sLt x y) := by simp only [cmpD, ltOk_str, if_true, dataLt_str]; rfl
theorem le_str' {x y : Str} : cmpD .le (.str x) (.str y) = some (!sLt y x) := by simp only [cmpD, ltOk_str, if_true, dataLt_str]; rfl
theorem ne_none : cmpD .ne .none .none = some false := rfl
theorem eq_none : cmpD .eq .none .none = some true := rfl
theorem slD_map {α : Type} (f : α → D) (xs : List α) (lo hi : Option Int) : slD (.list (xs.map f)) lo hi = some (.list ((cutL xs lo hi).map f)) := by rw [slD_list, cutL_map]
theorem slD_mapT {α : Type} (f : α → D) (xs : List α) (lo hi : Option Int) : slD (.tuple (xs.map f)) lo hi = some (.tuple ((cutL xs lo hi).map f)) := by rw [slD_tuple, cutL_map]
theorem trD_cons {x : D} {xs : List D} : trD (.list (x :: xs)) = some true := rfl
theorem trD_consT {x : D} {xs : List D} : trD (.tuple (x :: xs)) = some true := rfl
theorem add_list {as bs : List D} (h : as.length + bs.length ≤ 16777216) : binD .add (.list as) (.list bs) = some (.list (as ++ bs)) := if_pos h
end FW
namespace FW
open PySem PySem.W
theorem ne_bool {p q : Bool} : cmpD .ne (.bool p) (.bool q) = some (!decide (p = q)) := by
  cases p <;> cases q <;> rfl
/-- a list of drawn things, turn by turn -/
theorem lc_choose {α β : Type} {f : D → Hs → R (Option D)} {g : α → D} {h : β → D} {P : α → β → Prop} {S : Hs} : ∀ (xs : List α), (∀ x, x ∈ xs → ∃ b, P x b ∧ f (g x) S = .ok (some (h b)) S) → ∀ acc : List D, acc.length + xs.length ≤ 16777216 →
    ∃ bs : List β, bs.length = xs.length ∧ (∀ b, b ∈ bs → ∃ x, x ∈ xs ∧ P x b) ∧ lcLoop f (xs.map g) S acc = .ok (.list (acc ++ bs.map h)) S
  | [], _, acc, _ => ⟨[], rfl, (fun b hb => nomatch hb), by rw [List.map_nil, lcLoop, List.map_nil, List.append_nil]⟩
  | x :: xs, hf, acc, hl => by
    rw [List.length_cons] at hl
    obtain ⟨b, hb, e⟩ := hf x List.mem_cons_self
    obtain ⟨bs, h1, h2, h3⟩ := lc_choose (g := g) (h := h) xs (fun y m => hf y (List.mem_cons_of_mem _ m)) (acc ++ [h b]) (by rw [List.length_append, List.length_singleton]; omega)
    refine ⟨b :: bs, by rw [List.length_cons, List.length_cons, h1], fun c hc => ?_, ?_⟩
    · rcases List.mem_cons.mp hc with rfl | hc
      · exact ⟨x, List.mem_cons_self, hb⟩
      · obtain ⟨y, hy, hp⟩ := h2 c hc
        exact ⟨y, List.mem_cons_of_mem _ hy, hp⟩
    · rw [List.map_cons, lcLoop, e]
      show (if acc.length < 16777216 then lcLoop f (xs.map g) S (acc ++ [h b]) else .bad) = _
      rw [if_pos (by omega), h3, List.append_assoc]; rfl
theorem cut_nat {α : Type} (xs : List α) (a b : Nat) : cutL xs (some (a : Int)) (some (b : Int)) = (xs.take b).drop a := by
  unfold cutL
  rw [HT.sIx_nat, HT.sIx_nat]
  apply List.ext_getElem
  · simp; omega
  · intro i h1 h2
    simp only [List.length_take, List.length_drop] at h1 h2
    rw [List.getElem_take, List.getElem_drop, List.getElem_drop, List.getElem_take]
    congr 1
    omega
theorem cut_some_len {α : Type} (xs : List α) (a b : Nat) : (cutL xs (some (a : Int)) (some (b : Int))).length ≤ b - a := by
  rw [cut_nat, List.length_drop, List.length_take]; omega
end FW
namespace FW
open PySem PySem.W
theorem bindTg_one {i : Nat} {d : D} {ρ : List Sl} : bindTg (.one i) d ρ = some (ρ.set i (.fz d)) := rfl
theorem wipeL_nil {ρ : List Sl} : wipeL [] ρ = ρ := rfl
theorem wipeL_cons {i : Nat} {is : List Nat} {ρ : List Sl} : wipeL (i :: is) ρ = wipeL is (ρ.set i .no) := rfl
theorem setL_nil {ds : List D} {ρ : List Sl} : setL [] ds ρ = ρ := by cases ds <;> rfl
theorem setL_cons {i : Nat} {is : List Nat} {d : D} {ds : List D} {ρ : List Sl} : setL (i :: is) (d :: ds) ρ = setL is ds (ρ.set i (.fz d)) := rfl
end FW

local macro_rules
  | `(tactic| simp! [$ls,*]) => `(tactic| simp (config := {decide := true, implicitDefEqProofs := false}) only [FW.setL_cons, FW.setL_nil, FW.wipeL_cons, FW.wipeL_nil, FW.bindTg_one, FW.eq_none, FW.ne_none, FW.ne_bool, FW.le_str', FW.ge_str', FW.atI_zero, FW.atI_five, FW.atI_four, FW.atI_three, FW.atI_two, FW.atI_one, FW.items_str, FW.eq_bool, FW.slD_list, FW.slD_tuple, FW.isin_str, FW.notin_str, FW.all_bools, FW.any_bools, FW.bind_ok, FW.bind_exc, FW.lift_some, FW.seq_nx, FW.seq_rt, FW.seq_bk, FW.seq_ct, FW.seq_ex, FW.ifK_ok, FW.ifK_exc, FW.forK_ok, FW.forK_exc, FW.bindK_some, FW.slK_some, FW.loopK_nx, FW.loopK_ct, FW.loopK_bk, FW.loopK_rt, FW.loopK_ex, FW.toRS_ok, FW.toRS_exc, FW.endRS_nx, FW.endRS_rt, FW.endRS_ex, FW.tryK_nx, FW.tryK_rt, FW.tryK_ex, FW.evSs_nil, FW.evSs_cons, FW.evS_asg, FW.evS_asgO, FW.evS_asgT, FW.evS_expr, FW.evS_ret, FW.evS_retF, FW.evS_retN, FW.evS_if, FW.evS_brk, FW.evS_cnt, FW.evS_pass, FW.evS_raise, FW.evS_frz, FW.evS_wipe, FW.forB_nil, FW.evS_for, FW.evS_whl, FW.evS_app, FW.evS_retO, FW.evS_try, FW.numK_int, FW.evE_var, FW.evE_cst, FW.evE_glo, FW.evE_neg, FW.evE_bin, FW.evE_cmp, FW.evE_isN, FW.evE_notN, FW.blK_bool, FW.evE_isB, FW.evE_ntB, FW.evE_chain, FW.evE_and, FW.evE_or, FW.evE_not, FW.evE_ite, FW.evE_tup, FW.evE_lst, FW.evE_idx, FW.evE_slc, FW.evE_call, FW.evE_bi, FW.evE_mt, FW.evE_isi, FW.evE_bw, FW.evEs_nil, FW.evEs_cons, FW.evO_nil, FW.evO_cons, FW.evAnd_one, FW.evAnd_cons, FW.evOr_one, FW.evOr_cons, FW.evT_tru, FW.evT_and, FW.evT_or, FW.evT_not, FW.evT_bw, FW.evAll_nil, FW.evAll_cons, FW.evAny_nil, FW.evAny_cons, FW.evIt_seq, FW.evIt_rg1, FW.evIt_rg2, FW.evE_lc, FW.evFr_call, FW.evFr_lst, FW.evFr_lc, FW.evFr_slc, FW.evFr_add, FW.evFr_mul, FW.evFr_list, FW.evFr_sorted, FW.isLst_list, FW.trD_bool, FW.trD_int, FW.trD_none, FW.trD_list, FW.trD_tuple, FW.eq_int, FW.ne_int, FW.eq_str, FW.ne_str, FW.lt_int', FW.gt_int', FW.le_int', FW.ge_int', FW.lt_str', FW.gt_str', FW.add_int, FW.sub_int, FW.mul_int, FW.bmul_r, FW.bmul_l, FW.fdiv_int, FW.mod_int, FW.add_str, FW.len_str, FW.len_list, FW.len_tuple, FW.bi_int, FW.bi_int_bool, FW.bi_abs, FW.bi_min, FW.bi_max, FW.bi_tuple, FW.bi_tuple', FW.bi_list, FW.bi_list', FW.ix_list, FW.ix_tuple, FW.isi_int, FW.isi_str, FW.isi_bool, FW.isi_none, FW.isi_tuple, FW.isi_list, FW.items_list, FW.items_tuple, FW.rdSl_fz0, FW.rdSl_succ, Option.map_some, List.set_cons_zero, List.set_cons_succ, List.getElem?_cons_zero, List.getElem?_cons_succ, List.length_cons, List.length_nil, if_true, if_false, reduceIte, reduceCtorEq, Bool.not_true, Bool.not_false, decide_eq_true_eq, decide_true, decide_false, Nat.reduceAdd, Nat.reduceLeDiff, Nat.reduceSub, Int.reduceLT, Int.reduceLE, String.reduceBEq, Bool.or_false, Bool.false_or, Bool.or_true, Bool.true_or, Bool.and_true, Bool.true_and, Bool.false_and, Bool.and_false, Bool.false_eq_true, Int.reduceNeg, Nat.reduceLT, and_self, and_true, true_and, $ls,*])
namespace Pg
open PySem PySem.W PySem.Spec L2 FW
def top (i : Nat) : Stmt := PySem.Challenge.pw_shedbook_k10_schemas_are_checked.main.body.getD i (.Pass ⟨0, 0, 0, 0⟩)
def e0_is_word : E := (.cmp .isin (.var 1) (.glo "LETTERS"))
theorem u_e0_is_word {c : Env1} {ρ : List Sl} {S : Hs} : evE c e0_is_word ρ S = evE c (.cmp .isin (.var 1) (.glo "LETTERS")) ρ S := rfl
def b_is_word : Ss := (.cons (.ifS (.not (.tru (.isi (.var 0) "str"))) (.cons (.ret (.cst (.bool false))) .nil) .nil) (.cons (.ret (.and (.cons (.chain .le .le (.cst (.int 1)) (.bi .len (.cons (.var 0) .nil)) (.glo "LONGEST_WORD")) (.cons (.bi .all (.cons (.lc (.one 1) (.seq (.var 0)) .nil e0_is_word) .nil)) .nil)))) .nil))
def d_is_word : Fd := ⟨"is_word", 1, 2, b_is_word⟩
def b_is_number : Ss := (.cons (.ret (.and (.cons (.isi (.var 0) "int") (.cons (.chain .le .le (.neg (.glo "GREATEST_NUMBER")) (.var 0) (.glo "GREATEST_NUMBER")) .nil)))) .nil)
def d_is_number : Fd := ⟨"is_number", 1, 1, b_is_number⟩
def e0_is_ascending : E := (.cmp .lt (.idx (.var 0) (.var 1)) (.idx (.var 0) (.bin .add (.var 1) (.cst (.int 1)))))
theorem u_e0_is_ascending {c : Env1} {ρ : List Sl} {S : Hs} : evE c e0_is_ascending ρ S = evE c (.cmp .lt (.idx (.var 0) (.var 1)) (.idx (.var 0) (.bin .add (.var 1) (.cst (.int 1))))) ρ S := rfl
def b_is_ascending : Ss := (.cons (.ret (.bi .all (.cons (.lc (.one 1) (.rg1 (.bin .sub (.bi .len (.cons (.var 0) .nil)) (.cst (.int 1)))) .nil e0_is_ascending) .nil))) .nil)
def d_is_ascending : Fd := ⟨"is_ascending", 1, 2, b_is_ascending⟩
def e0_is_schema : E := (.var 3)
theorem u_e0_is_schema {c : Env1} {ρ : List Sl} {S : Hs} : evE c e0_is_schema ρ S = evE c (.var 3) ρ S := rfl
def e1_is_schema : E := (.call "is_column" (.cons (.var 6) .nil))
theorem u_e1_is_schema {c : Env1} {ρ : List Sl} {S : Hs} : evE c e1_is_schema ρ S = evE c (.call "is_column" (.cons (.var 6) .nil)) ρ S := rfl
def b_is_schema : Ss := (.cons (.ifS (.or (.cons (.not (.tru (.call "is_word" (.cons (.var 0) .nil)))) (.cons (.tru (.cmp .gt (.bi .len (.cons (.var 1) .nil)) (.glo "MOST_COLUMNS"))) .nil))) (.cons (.ret (.cst (.bool false))) .nil) .nil) (.cons (.asg 2 (.lc (.many [3, 4, 5]) (.seq (.var 1)) .nil e0_is_schema)) (.cons (.ret (.and (.cons (.bi .all (.cons (.lc (.one 6) (.seq (.var 1)) .nil e1_is_schema) .nil)) (.cons (.call "is_ascending" (.cons (.var 2) .nil)) .nil)))) .nil)))
def d_is_schema : Fd := ⟨"is_schema", 2, 7, b_is_schema⟩
def b_is_column : Ss := (.cons (.asgT [1, 2, 3] (.var 0)) (.cons (.ifS (.not (.tru (.call "is_word" (.cons (.var 1) .nil)))) (.cons (.ret (.cst (.bool false))) .nil) .nil) (.cons (.ifS (.tru (.cmp .eq (.var 2) (.cst (.str "int")))) (.cons (.ret (.call "is_number" (.cons (.var 3) .nil))) .nil) .nil) (.cons (.ret (.and (.cons (.cmp .eq (.var 2) (.cst (.str "word"))) (.cons (.call "is_word" (.cons (.var 3) .nil)) .nil)))) .nil))))
def d_is_column : Fd := ⟨"is_column", 1, 4, b_is_column⟩
def b_check_schema : Ss := (.cons (.ifS (.not (.tru (.call "is_schema" (.cons (.var 0) (.cons (.var 1) .nil))))) (.cons (.raise "InvalidSchema") .nil) .nil) .nil)
def d_check_schema : Fd := ⟨"check_schema", 2, 2, b_check_schema⟩
def b__law_cell : Ss := (.cons (.ifS (.tru (.cmp .lt (.var 1) (.bi .len (.cons (.var 0) .nil)))) (.cons (.ret (.bi .int (.cons (.idx (.var 0) (.var 1)) .nil))) .nil) .nil) (.cons (.ret (.cst (.int 0))) .nil))
def d__law_cell : Fd := ⟨"_law_cell", 2, 2, b__law_cell⟩
def l0__law_draw : Ss := (.cons (.asg 3 (.bin .fdiv (.var 3) (.cst (.int 1000)))) .nil)
theorem u_l0__law_draw {c : Env1} {x : Xc} {L : Nat} {ρ : List Sl} {S : Hs} : evSs c x L l0__law_draw ρ S = evSs c x L (.cons (.asg 3 (.bin .fdiv (.var 3) (.cst (.int 1000)))) .nil) ρ S := rfl
def b__law_draw : Ss := (.cons (.asg 3 (.bi .abs (.cons (.bi .int (.cons (.var 0) .nil)) .nil))) (.cons (.ifS (.tru (.cmp .lt (.var 3) (.cst (.int 1000000000000000000)))) (.cons (.asg 3 (.bin .mod (.bi .int (.cons (.bin .add (.bin .add (.bin .mul (.var 3) (.cst (.int 48271))) (.bin .mul (.var 1) (.cst (.int 69621)))) (.cst (.int 11))) .nil)) (.cst (.int 2147483647)))) (.cons (.asg 3 (.bin .mod (.bi .int (.cons (.bin .add (.bin .add (.bin .mul (.var 3) (.cst (.int 16807))) (.bin .mul (.var 1) (.cst (.int 7919)))) (.cst (.int 5))) .nil)) (.cst (.int 2147483629)))) (.cons (.ret (.bin .mod (.bi .int (.cons (.var 3) .nil)) (.var 2))) .nil))) .nil) (.cons (.forS (.one 4) (.rg1 (.var 1)) l0__law_draw [4]) (.cons (.ret (.bin .mod (.bin .mod (.bi .int (.cons (.var 3) .nil)) (.cst (.int 1000))) (.var 2))) .nil))))
def d__law_draw : Fd := ⟨"_law_draw", 3, 5, b__law_draw⟩
def l0__law_word : Ss := (.cons (.asg 0 (.bin .fdiv (.var 0) (.cst (.int 26)))) (.cons (.ifS (.tru (.cmp .eq (.var 0) (.cst (.int 0)))) (.cons .brk .nil) .nil) (.cons (.asg 2 (.bin .add (.var 2) (.idx (.var 1) (.bin .mod (.bi .int (.cons (.var 0) .nil)) (.cst (.int 26)))))) .nil)))
theorem u_l0__law_word {c : Env1} {x : Xc} {L : Nat} {ρ : List Sl} {S : Hs} : evSs c x L l0__law_word ρ S = evSs c x L (.cons (.asg 0 (.bin .fdiv (.var 0) (.cst (.int 26)))) (.cons (.ifS (.tru (.cmp .eq (.var 0) (.cst (.int 0)))) (.cons .brk .nil) .nil) (.cons (.asg 2 (.bin .add (.var 2) (.idx (.var 1) (.bin .mod (.bi .int (.cons (.var 0) .nil)) (.cst (.int 26)))))) .nil))) ρ S := rfl
def b__law_word : Ss := (.cons (.asg 1 (.cst (.str "abcdefghijklmnopqrstuvwxyz"))) (.cons (.asg 0 (.bi .abs (.cons (.bi .int (.cons (.var 0) .nil)) .nil))) (.cons (.asg 2 (.idx (.var 1) (.bin .mod (.bi .int (.cons (.var 0) .nil)) (.cst (.int 26))))) (.cons (.forS (.one 3) (.rg1 (.cst (.int 11))) l0__law_word [3]) (.cons (.ret (.var 2)) .nil)))))
def d__law_word : Fd := ⟨"_law_word", 1, 4, b__law_word⟩
def e0__law_words : E := (.call "_law_word" (.cons (.bin .add (.var 2) (.var 3)) .nil))
theorem u_e0__law_words {c : Env1} {ρ : List Sl} {S : Hs} : evE c e0__law_words ρ S = evE c (.call "_law_word" (.cons (.bin .add (.var 2) (.var 3)) .nil)) ρ S := rfl
def b__law_words : Ss := (.cons (.asg 2 (.bin .mod (.bi .abs (.cons (.bi .int (.cons (.var 0) .nil)) .nil)) (.cst (.int 308915776)))) (.cons (.ret (.bi .sorted (.cons (.lc (.one 3) (.rg1 (.var 1)) .nil e0__law_words) .nil))) .nil))
def d__law_words : Fd := ⟨"_law_words", 2, 4, b__law_words⟩
def b__law_near_word : Ss := (.cons (.asg 1 (.call "_law_word" (.cons (.call "_law_draw" (.cons (.var 0) (.cons (.cst (.int 0)) (.cons (.cst (.int 900)) .nil)))) .nil))) (.cons (.asg 2 (.call "_law_draw" (.cons (.var 0) (.cons (.cst (.int 1)) (.cons (.cst (.int 12)) .nil))))) (.cons (.ifS (.tru (.cmp .eq (.var 2) (.cst (.int 0)))) (.cons (.ret (.cst (.str ""))) .nil) .nil) (.cons (.ifS (.tru (.cmp .eq (.var 2) (.cst (.int 1)))) (.cons (.ret (.bin .add (.var 1) (.cst (.str "A")))) .nil) .nil) (.cons (.ifS (.tru (.cmp .eq (.var 2) (.cst (.int 2)))) (.cons (.ret (.bin .add (.var 1) (.cst (.str " ")))) .nil) .nil) (.cons (.ifS (.tru (.cmp .eq (.var 2) (.cst (.int 3)))) (.cons (.ret (.bin .add (.cst (.str "abcdefghijkl")) (.var 1))) .nil) .nil) (.cons (.ifS (.tru (.cmp .eq (.var 2) (.cst (.int 4)))) (.cons (.ret (.bin .add (.slc (.cst (.str "abcdefghijklmnopqrstuvwxyz")) .nil (.cons (.cst (.int 11)) .nil)) (.idx (.var 1) (.cst (.int 0))))) .nil) .nil) (.cons (.ifS (.tru (.cmp .eq (.var 2) (.cst (.int 5)))) (.cons (.ret (.bin .add (.cst (.str "0")) (.var 1))) .nil) .nil) (.cons (.ifS (.tru (.cmp .eq (.var 2) (.cst (.int 6)))) (.cons (.ret (.bin .add (.var 1) (.cst (.str "_")))) .nil) .nil) (.cons (.ret (.var 1)) .nil))))))))))
def d__law_near_word : Fd := ⟨"_law_near_word", 1, 3, b__law_near_word⟩
def l0__law_is_word : Ss := (.cons (.ifS (.tru (.cmp .notin (.var 1) (.cst (.str "abcdefghijklmnopqrstuvwxyz")))) (.cons (.ret (.cst (.bool false))) .nil) .nil) .nil)
theorem u_l0__law_is_word {c : Env1} {x : Xc} {L : Nat} {ρ : List Sl} {S : Hs} : evSs c x L l0__law_is_word ρ S = evSs c x L (.cons (.ifS (.tru (.cmp .notin (.var 1) (.cst (.str "abcdefghijklmnopqrstuvwxyz")))) (.cons (.ret (.cst (.bool false))) .nil) .nil) .nil) ρ S := rfl
def b__law_is_word : Ss := (.cons (.ifS (.or (.cons (.not (.tru (.isi (.var 0) "str"))) (.cons (.tru (.cmp .lt (.bi .len (.cons (.var 0) .nil)) (.cst (.int 1)))) (.cons (.tru (.cmp .gt (.bi .len (.cons (.var 0) .nil)) (.cst (.int 12)))) .nil)))) (.cons (.ret (.cst (.bool false))) .nil) .nil) (.cons (.forS (.one 1) (.seq (.var 0)) l0__law_is_word [1]) (.cons (.ret (.cst (.bool true))) .nil)))
def d__law_is_word : Fd := ⟨"_law_is_word", 1, 2, b__law_is_word⟩
def b__law_near_number : Ss := (.cons (.asg 1 (.call "_law_draw" (.cons (.var 0) (.cons (.cst (.int 0)) (.cons (.cst (.int 10)) .nil))))) (.cons (.ifS (.tru (.cmp .eq (.var 1) (.cst (.int 0)))) (.cons (.ret (.bin .add (.cst (.int 999999)) (.call "_law_draw" (.cons (.var 0) (.cons (.cst (.int 1)) (.cons (.cst (.int 3)) .nil)))))) .nil) .nil) (.cons (.ifS (.tru (.cmp .eq (.var 1) (.cst (.int 1)))) (.cons (.ret (.bin .sub (.neg (.cst (.int 999999))) (.call "_law_draw" (.cons (.var 0) (.cons (.cst (.int 1)) (.cons (.cst (.int 3)) .nil)))))) .nil) .nil) (.cons (.ret (.bin .sub (.bin .mod (.bi .int (.cons (.var 0) .nil)) (.cst (.int 2000003))) (.cst (.int 1000001)))) .nil))))
def d__law_near_number : Fd := ⟨"_law_near_number", 1, 2, b__law_near_number⟩
def b__law_is_value : Ss := (.cons (.ifS (.tru (.isi (.var 0) "str")) (.cons (.ret (.call "_law_is_word" (.cons (.var 0) .nil))) .nil) .nil) (.cons (.ret (.chain .le .le (.neg (.cst (.int 999999))) (.var 0) (.cst (.int 999999)))) .nil))
def d__law_is_value : Fd := ⟨"_law_is_value", 1, 1, b__law_is_value⟩
def b__law_column : Ss := (.cons (.ifS (.tru (.cmp .eq (.call "_law_draw" (.cons (.var 1) (.cons (.var 2) (.cons (.cst (.int 2)) .nil)))) (.cst (.int 0)))) (.cons (.ret (.tup (.cons (.var 0) (.cons (.cst (.str "int")) (.cons (.bin .sub (.call "_law_draw" (.cons (.var 1) (.cons (.bin .add (.var 2) (.cst (.int 1))) (.cons (.cst (.int 500)) .nil)))) (.cst (.int 250))) .nil))))) .nil) .nil) (.cons (.ret (.tup (.cons (.var 0) (.cons (.cst (.str "word")) (.cons (.call "_law_word" (.cons (.call "_law_draw" (.cons (.var 1) (.cons (.bin .add (.var 2) (.cst (.int 1))) (.cons (.cst (.int 700)) .nil)))) .nil)) .nil))))) .nil))
def d__law_column : Fd := ⟨"_law_column", 3, 3, b__law_column⟩
def e0__law_columns : E := (.call "_law_column" (.cons (.idx (.var 1) (.var 2)) (.cons (.var 0) (.cons (.bin .add (.cst (.int 3)) (.bin .mul (.cst (.int 2)) (.var 2))) .nil))))
theorem u_e0__law_columns {c : Env1} {ρ : List Sl} {S : Hs} : evE c e0__law_columns ρ S = evE c (.call "_law_column" (.cons (.idx (.var 1) (.var 2)) (.cons (.var 0) (.cons (.bin .add (.cst (.int 3)) (.bin .mul (.cst (.int 2)) (.var 2))) .nil)))) ρ S := rfl
def b__law_columns : Ss := (.cons (.ret (.lc (.one 2) (.rg1 (.bi .len (.cons (.var 1) .nil))) .nil e0__law_columns)) .nil)
def d__law_columns : Fd := ⟨"_law_columns", 2, 3, b__law_columns⟩
def b__law_spoil_columns : Ss := (.cons (.asg 2 (.call "_law_draw" (.cons (.var 1) (.cons (.cst (.int 50)) (.cons (.bi .len (.cons (.var 0) .nil)) .nil))))) (.cons (.asgT [3, 4, 5] (.idx (.var 0) (.var 2))) (.cons (.asg 6 (.call "_law_draw" (.cons (.var 1) (.cons (.cst (.int 51)) (.cons (.cst (.int 7)) .nil))))) (.cons (.ifS (.tru (.cmp .eq (.var 6) (.cst (.int 0)))) (.cons (.asg 3 (.call "_law_near_word" (.cons (.var 1) .nil))) .nil) .nil) (.cons (.ifS (.tru (.cmp .eq (.var 6) (.cst (.int 1)))) (.cons (.asg 4 (.idx (.lst (.cons (.cst (.str "int")) (.cons (.cst (.str "word")) (.cons (.cst (.str "text")) (.cons (.cst (.str "")) .nil))))) (.call "_law_draw" (.cons (.var 1) (.cons (.cst (.int 52)) (.cons (.cst (.int 4)) .nil)))))) .nil) .nil) (.cons (.ifS (.tru (.cmp .eq (.var 6) (.cst (.int 2)))) (.cons (.asg 5 (.call "_law_near_number" (.cons (.var 1) .nil))) .nil) .nil) (.cons (.ifS (.tru (.cmp .eq (.var 6) (.cst (.int 3)))) (.cons (.asg 5 (.call "_law_near_word" (.cons (.var 1) .nil))) .nil) .nil) (.cons (.asg 7 (.bin .add (.bin .add (.slc (.var 0) .nil (.cons (.var 2) .nil)) (.lst (.cons (.tup (.cons (.var 3) (.cons (.var 4) (.cons (.var 5) .nil)))) .nil))) (.slc (.var 0) (.cons (.bin .add (.var 2) (.cst (.int 1))) .nil) .nil))) (.cons (.ifS (.tru (.cmp .eq (.var 6) (.cst (.int 4)))) (.cons (.ret (.bin .add (.var 7) (.slc (.var 7) .nil (.cons (.cst (.int 1)) .nil)))) .nil) .nil) (.cons (.ifS (.tru (.cmp .eq (.var 6) (.cst (.int 5)))) (.cons (.ret (.bin .add (.slc (.var 7) (.cons (.cst (.int 1)) .nil) .nil) (.slc (.var 7) .nil (.cons (.cst (.int 1)) .nil)))) .nil) .nil) (.cons (.ret (.var 7)) .nil)))))))))))
def d__law_spoil_columns : Fd := ⟨"_law_spoil_columns", 2, 8, b__law_spoil_columns⟩
def l0__law_is_schema : Ss := (.cons (.asgT [3, 4, 5] (.idx (.var 1) (.var 2))) (.cons (.ifS (.or (.cons (.not (.tru (.call "_law_is_word" (.cons (.var 3) .nil)))) (.cons (.not (.tru (.call "_law_is_value" (.cons (.var 5) .nil)))) .nil))) (.cons (.ret (.cst (.bool false))) .nil) .nil) (.cons (.ifS (.tru (.cmp .ne (.var 4) (.ite (.tru (.isi (.var 5) "int")) (.cst (.str "int")) (.cst (.str "word"))))) (.cons (.ret (.cst (.bool false))) .nil) .nil) (.cons (.ifS (.and (.cons (.tru (.cmp .gt (.var 2) (.cst (.int 0)))) (.cons (.tru (.cmp .ge (.idx (.idx (.var 1) (.bin .sub (.var 2) (.cst (.int 1)))) (.cst (.int 0))) (.var 3))) .nil))) (.cons (.ret (.cst (.bool false))) .nil) .nil) .nil))))
theorem u_l0__law_is_schema {c : Env1} {x : Xc} {L : Nat} {ρ : List Sl} {S : Hs} : evSs c x L l0__law_is_schema ρ S = evSs c x L (.cons (.asgT [3, 4, 5] (.idx (.var 1) (.var 2))) (.cons (.ifS (.or (.cons (.not (.tru (.call "_law_is_word" (.cons (.var 3) .nil)))) (.cons (.not (.tru (.call "_law_is_value" (.cons (.var 5) .nil)))) .nil))) (.cons (.ret (.cst (.bool false))) .nil) .nil) (.cons (.ifS (.tru (.cmp .ne (.var 4) (.ite (.tru (.isi (.var 5) "int")) (.cst (.str "int")) (.cst (.str "word"))))) (.cons (.ret (.cst (.bool false))) .nil) .nil) (.cons (.ifS (.and (.cons (.tru (.cmp .gt (.var 2) (.cst (.int 0)))) (.cons (.tru (.cmp .ge (.idx (.idx (.var 1) (.bin .sub (.var 2) (.cst (.int 1)))) (.cst (.int 0))) (.var 3))) .nil))) (.cons (.ret (.cst (.bool false))) .nil) .nil) .nil)))) ρ S := rfl
def b__law_is_schema : Ss := (.cons (.ifS (.or (.cons (.not (.tru (.call "_law_is_word" (.cons (.var 0) .nil)))) (.cons (.tru (.cmp .gt (.bi .len (.cons (.var 1) .nil)) (.cst (.int 6)))) .nil))) (.cons (.ret (.cst (.bool false))) .nil) .nil) (.cons (.forS (.one 2) (.rg1 (.bi .len (.cons (.var 1) .nil))) l0__law_is_schema [2, 3, 4, 5]) (.cons (.ret (.cst (.bool true))) .nil)))
def d__law_is_schema : Fd := ⟨"_law_is_schema", 2, 6, b__law_is_schema⟩
def b__law_takes_schema : Ss := (.cons (.tryS (.cons (.ret (.isN (.call "check_schema" (.cons (.var 0) (.cons (.var 1) .nil))))) .nil) "InvalidSchema" (some 2) (.ret (.ite "ShedError" .none (.bool false)))) .nil)
def d__law_takes_schema : Fd := ⟨"_law_takes_schema", 2, 3, b__law_takes_schema⟩
def l0_law : Ss := (.cons (.asg 2 (.call "_law_words" (.cons (.var 1) (.cons (.bin .add (.cst (.int 1)) (.call "_law_draw" (.cons (.var 1) (.cons (.cst (.int 0)) (.cons (.cst (.int 7)) .nil))))) .nil)))) (.cons (.asg 3 (.call "_law_spoil_columns" (.cons (.call "_law_columns" (.cons (.bi .int (.cons (.var 1) .nil)) (.cons (.var 2) .nil))) (.cons (.bi .int (.cons (.var 1) .nil)) .nil)))) (.cons (.asg 4 (.call "_law_near_word" (.cons (.bin .add (.bi .int (.cons (.var 1) .nil)) (.cst (.int 1))) .nil))) (.cons (.asg 5 (.bi .list (.cons (.var 3) .nil))) (.cons (.ifS (.tru (.cmp .ne (.call "_law_takes_schema" (.cons (.var 4) (.cons (.var 5) .nil))) (.ite (.tru (.call "_law_is_schema" (.cons (.var 4) (.cons (.var 3) .nil)))) (.cst (.bool true)) (.cst .none)))) (.cons (.ret (.cst (.bool false))) .nil) .nil) (.cons (.ifS (.tru (.cmp .ne (.var 5) (.var 3))) (.cons (.ret (.cst (.bool false))) .nil) .nil) .nil))))))
theorem u_l0_law {c : Env1} {x : Xc} {L : Nat} {ρ : List Sl} {S : Hs} : evSs c x L l0_law ρ S = evSs c x L (.cons (.asg 2 (.call "_law_words" (.cons (.var 1) (.cons (.bin .add (.cst (.int 1)) (.call "_law_draw" (.cons (.var 1) (.cons (.cst (.int 0)) (.cons (.cst (.int 7)) .nil))))) .nil)))) (.cons (.asg 3 (.call "_law_spoil_columns" (.cons (.call "_law_columns" (.cons (.bi .int (.cons (.var 1) .nil)) (.cons (.var 2) .nil))) (.cons (.bi .int (.cons (.var 1) .nil)) .nil)))) (.cons (.asg 4 (.call "_law_near_word" (.cons (.bin .add (.bi .int (.cons (.var 1) .nil)) (.cst (.int 1))) .nil))) (.cons (.asg 5 (.bi .list (.cons (.var 3) .nil))) (.cons (.ifS (.tru (.cmp .ne (.call "_law_takes_schema" (.cons (.var 4) (.cons (.var 5) .nil))) (.ite (.tru (.call "_law_is_schema" (.cons (.var 4) (.cons (.var 3) .nil)))) (.cst (.bool true)) (.cst .none)))) (.cons (.ret (.cst (.bool false))) .nil) .nil) (.cons (.ifS (.tru (.cmp .ne (.var 5) (.var 3))) (.cons (.ret (.cst (.bool false))) .nil) .nil) .nil)))))) ρ S := rfl
def b_law : Ss := (.cons (.forS (.one 1) (.seq (.bin .add (.lst (.cons (.call "_law_cell" (.cons (.var 0) (.cons (.cst (.int 0)) .nil))) .nil)) (.slc (.var 0) (.cons (.cst (.int 1)) .nil) (.cons (.cst (.int 30)) .nil)))) l0_law [1, 2, 3, 4, 5]) (.cons (.ret (.and (.cons (.isB (.call "_law_takes_schema" (.cons (.cst (.str "a")) (.cons (.lst .nil) .nil))) true) (.cons (.isN (.call "_law_takes_schema" (.cons (.cst (.str "")) (.cons (.lst .nil) .nil)))) .nil)))) .nil))
def d_law : Fd := ⟨"law", 1, 6, b_law⟩
def fs : List Fd := [d_is_word, d_is_number, d_is_ascending, d_is_schema, d_is_column, d_check_schema, d__law_cell, d__law_draw, d__law_word, d__law_words, d__law_near_word, d__law_is_word, d__law_near_number, d__law_is_value, d__law_column, d__law_columns, d__law_spoil_columns, d__law_is_schema, d__law_takes_schema, d_law]
def gls : List (Str × FW.D) := [("GREATEST_NUMBER", (.int 999999)), ("LETTERS", (.str "abcdefghijklmnopqrstuvwxyz")), ("LONGEST_WORD", (.int 12)), ("MOST_COLUMNS", (.int 6))]
theorem g_GREATEST_NUMBER : List.lookup ("GREATEST_NUMBER" : Str) gls = some ((.int 999999) : FW.D) := by rfl
theorem g_LETTERS : List.lookup ("LETTERS" : Str) gls = some ((.str "abcdefghijklmnopqrstuvwxyz") : FW.D) := by rfl
theorem g_LONGEST_WORD : List.lookup ("LONGEST_WORD" : Str) gls = some ((.int 12) : FW.D) := by rfl
theorem g_MOST_COLUMNS : List.lookup ("MOST_COLUMNS" : Str) gls = some ((.int 6) : FW.D) := by rfl
def xsub : List (Str × Str) := [("ShedError", "ShedError"), ("InvalidSchema", "ShedError"), ("InvalidSchema", "InvalidSchema")]
def xc : Xc := ⟨fun a b => xsub.contains (a, b), ["ShedError", "InvalidSchema"]⟩
def pr : Pr := ⟨fs, gls, xc, 100000⟩
theorem xi_ShedError : xc.xs.contains "ShedError" = true := by decide +kernel
theorem xs_ShedError_ShedError : xc.sub "ShedError" "ShedError" = true := by decide +kernel
theorem xs_ShedError_InvalidSchema : xc.sub "ShedError" "InvalidSchema" = false := by decide +kernel
theorem xi_InvalidSchema : xc.xs.contains "InvalidSchema" = true := by decide +kernel
theorem xs_InvalidSchema_ShedError : xc.sub "InvalidSchema" "ShedError" = true := by decide +kernel
theorem xs_InvalidSchema_InvalidSchema : xc.sub "InvalidSchema" "InvalidSchema" = true := by decide +kernel
def glo (C0 C1 : Addr) : Glo := ⟨pr, fun k => if k = "ShedError" then .ref C0 else if k = "InvalidSchema" then .ref C1 else .none⟩
theorem ff_is_word : findF fs "is_word" = some d_is_word := by rfl
theorem cl_is_word (n : Nat) (a0 : FW.D) (S : Hs) : callN pr (n + 1) "is_word" [a0] S = endRS (evSs ⟨callN pr n, gls⟩ pr.xc pr.L b_is_word [.fz a0, .no] S) := by
  show (match findF fs "is_word" with | some d => if ([a0] : List FW.D).length = d.np then endRS (evSs ⟨callN pr n, gls⟩ pr.xc pr.L d.body (startS [a0] d.ns) S) else .bad | none => .bad) = _
  rw [ff_is_word]; rfl
theorem ff_is_number : findF fs "is_number" = some d_is_number := by rfl
theorem cl_is_number (n : Nat) (a0 : FW.D) (S : Hs) : callN pr (n + 1) "is_number" [a0] S = endRS (evSs ⟨callN pr n, gls⟩ pr.xc pr.L b_is_number [.fz a0] S) := by
  show (match findF fs "is_number" with | some d => if ([a0] : List FW.D).length = d.np then endRS (evSs ⟨callN pr n, gls⟩ pr.xc pr.L d.body (startS [a0] d.ns) S) else .bad | none => .bad) = _
  rw [ff_is_number]; rfl
theorem ff_is_ascending : findF fs "is_ascending" = some d_is_ascending := by rfl
theorem cl_is_ascending (n : Nat) (a0 : FW.D) (S : Hs) : callN pr (n + 1) "is_ascending" [a0] S = endRS (evSs ⟨callN pr n, gls⟩ pr.xc pr.L b_is_ascending [.fz a0, .no] S) := by
  show (match findF fs "is_ascending" with | some d => if ([a0] : List FW.D).length = d.np then endRS (evSs ⟨callN pr n, gls⟩ pr.xc pr.L d.body (startS [a0] d.ns) S) else .bad | none => .bad) = _
  rw [ff_is_ascending]; rfl
theorem ff_is_schema : findF fs "is_schema" = some d_is_schema := by rfl
theorem cl_is_schema (n : Nat) (a0 a1 : FW.D) (S : Hs) : callN pr (n + 1) "is_schema" [a0, a1] S = endRS (evSs ⟨callN pr n, gls⟩ pr.xc pr.L b_is_schema [.fz a0, .fz a1, .no, .no, .no, .no, .no] S) := by
  show (match findF fs "is_schema" with | some d => if ([a0, a1] : List FW.D).length = d.np then endRS (evSs ⟨callN pr n, gls⟩ pr.xc pr.L d.body (startS [a0, a1] d.ns) S) else .bad | none => .bad) = _
  rw [ff_is_schema]; rfl
theorem ff_is_column : findF fs "is_column" = some d_is_column := by rfl
theorem cl_is_column (n : Nat) (a0 : FW.D) (S : Hs) : callN pr (n + 1) "is_column" [a0] S = endRS (evSs ⟨callN pr n, gls⟩ pr.xc pr.L b_is_column [.fz a0, .no, .no, .no] S) := by
  show (match findF fs "is_column" with | some d => if ([a0] : List FW.D).length = d.np then endRS (evSs ⟨callN pr n, gls⟩ pr.xc pr.L d.body (startS [a0] d.ns) S) else .bad | none => .bad) = _
  rw [ff_is_column]; rfl
theorem ff_check_schema : findF fs "check_schema" = some d_check_schema := by rfl
theorem cl_check_schema (n : Nat) (a0 a1 : FW.D) (S : Hs) : callN pr (n + 1) "check_schema" [a0, a1] S = endRS (evSs ⟨callN pr n, gls⟩ pr.xc pr.L b_check_schema [.fz a0, .fz a1] S) := by
  show (match findF fs "check_schema" with | some d => if ([a0, a1] : List FW.D).length = d.np then endRS (evSs ⟨callN pr n, gls⟩ pr.xc pr.L d.body (startS [a0, a1] d.ns) S) else .bad | none => .bad) = _
  rw [ff_check_schema]; rfl
theorem ff__law_cell : findF fs "_law_cell" = some d__law_cell := by rfl
theorem cl__law_cell (n : Nat) (a0 a1 : FW.D) (S : Hs) : callN pr (n + 1) "_law_cell" [a0, a1] S = endRS (evSs ⟨callN pr n, gls⟩ pr.xc pr.L b__law_cell [.fz a0, .fz a1] S) := by
  show (match findF fs "_law_cell" with | some d => if ([a0, a1] : List FW.D).length = d.np then endRS (evSs ⟨callN pr n, gls⟩ pr.xc pr.L d.body (startS [a0, a1] d.ns) S) else .bad | none => .bad) = _
  rw [ff__law_cell]; rfl
theorem ff__law_draw : findF fs "_law_draw" = some d__law_draw := by rfl
theorem cl__law_draw (n : Nat) (a0 a1 a2 : FW.D) (S : Hs) : callN pr (n + 1) "_law_draw" [a0, a1, a2] S = endRS (evSs ⟨callN pr n, gls⟩ pr.xc pr.L b__law_draw [.fz a0, .fz a1, .fz a2, .no, .no] S) := by
  show (match findF fs "_law_draw" with | some d => if ([a0, a1, a2] : List FW.D).length = d.np then endRS (evSs ⟨callN pr n, gls⟩ pr.xc pr.L d.body (startS [a0, a1, a2] d.ns) S) else .bad | none => .bad) = _
  rw [ff__law_draw]; rfl
theorem ff__law_word : findF fs "_law_word" = some d__law_word := by rfl
theorem cl__law_word (n : Nat) (a0 : FW.D) (S : Hs) : callN pr (n + 1) "_law_word" [a0] S = endRS (evSs ⟨callN pr n, gls⟩ pr.xc pr.L b__law_word [.fz a0, .no, .no, .no] S) := by
  show (match findF fs "_law_word" with | some d => if ([a0] : List FW.D).length = d.np then endRS (evSs ⟨callN pr n, gls⟩ pr.xc pr.L d.body (startS [a0] d.ns) S) else .bad | none => .bad) = _
  rw [ff__law_word]; rfl
theorem ff__law_words : findF fs "_law_words" = some d__law_words := by rfl
theorem cl__law_words (n : Nat) (a0 a1 : FW.D) (S : Hs) : callN pr (n + 1) "_law_words" [a0, a1] S = endRS (evSs ⟨callN pr n, gls⟩ pr.xc pr.L b__law_words [.fz a0, .fz a1, .no, .no] S) := by
  show (match findF fs "_law_words" with | some d => if ([a0, a1] : List FW.D).length = d.np then endRS (evSs ⟨callN pr n, gls⟩ pr.xc pr.L d.body (startS [a0, a1] d.ns) S) else .bad | none => .bad) = _
  rw [ff__law_words]; rfl
theorem ff__law_near_word : findF fs "_law_near_word" = some d__law_near_word := by rfl
theorem cl__law_near_word (n : Nat) (a0 : FW.D) (S : Hs) : callN pr (n + 1) "_law_near_word" [a0] S = endRS (evSs ⟨callN pr n, gls⟩ pr.xc pr.L b__law_near_word [.fz a0, .no, .no] S) := by
  show (match findF fs "_law_near_word" with | some d => if ([a0] : List FW.D).length = d.np then endRS (evSs ⟨callN pr n, gls⟩ pr.xc pr.L d.body (startS [a0] d.ns) S) else .bad | none => .bad) = _
  rw [ff__law_near_word]; rfl
theorem ff__law_is_word : findF fs "_law_is_word" = some d__law_is_word := by rfl
theorem cl__law_is_word (n : Nat) (a0 : FW.D) (S : Hs) : callN pr (n + 1) "_law_is_word" [a0] S = endRS (evSs ⟨callN pr n, gls⟩ pr.xc pr.L b__law_is_word [.fz a0, .no] S) := by
  show (match findF fs "_law_is_word" with | some d => if ([a0] : List FW.D).length = d.np then endRS (evSs ⟨callN pr n, gls⟩ pr.xc pr.L d.body (startS [a0] d.ns) S) else .bad | none => .bad) = _
  rw [ff__law_is_word]; rfl
theorem ff__law_near_number : findF fs "_law_near_number" = some d__law_near_number := by rfl
theorem cl__law_near_number (n : Nat) (a0 : FW.D) (S : Hs) : callN pr (n + 1) "_law_near_number" [a0] S = endRS (evSs ⟨callN pr n, gls⟩ pr.xc pr.L b__law_near_number [.fz a0, .no] S) := by
  show (match findF fs "_law_near_number" with | some d => if ([a0] : List FW.D).length = d.np then endRS (evSs ⟨callN pr n, gls⟩ pr.xc pr.L d.body (startS [a0] d.ns) S) else .bad | none => .bad) = _
  rw [ff__law_near_number]; rfl
theorem ff__law_is_value : findF fs "_law_is_value" = some d__law_is_value := by rfl
theorem cl__law_is_value (n : Nat) (a0 : FW.D) (S : Hs) : callN pr (n + 1) "_law_is_value" [a0] S = endRS (evSs ⟨callN pr n, gls⟩ pr.xc pr.L b__law_is_value [.fz a0] S) := by
  show (match findF fs "_law_is_value" with | some d => if ([a0] : List FW.D).length = d.np then endRS (evSs ⟨callN pr n, gls⟩ pr.xc pr.L d.body (startS [a0] d.ns) S) else .bad | none => .bad) = _
  rw [ff__law_is_value]; rfl
theorem ff__law_column : findF fs "_law_column" = some d__law_column := by rfl
theorem cl__law_column (n : Nat) (a0 a1 a2 : FW.D) (S : Hs) : callN pr (n + 1) "_law_column" [a0, a1, a2] S = endRS (evSs ⟨callN pr n, gls⟩ pr.xc pr.L b__law_column [.fz a0, .fz a1, .fz a2] S) := by
  show (match findF fs "_law_column" with | some d => if ([a0, a1, a2] : List FW.D).length = d.np then endRS (evSs ⟨callN pr n, gls⟩ pr.xc pr.L d.body (startS [a0, a1, a2] d.ns) S) else .bad | none => .bad) = _
  rw [ff__law_column]; rfl
theorem ff__law_columns : findF fs "_law_columns" = some d__law_columns := by rfl
theorem cl__law_columns (n : Nat) (a0 a1 : FW.D) (S : Hs) : callN pr (n + 1) "_law_columns" [a0, a1] S = endRS (evSs ⟨callN pr n, gls⟩ pr.xc pr.L b__law_columns [.fz a0, .fz a1, .no] S) := by
  show (match findF fs "_law_columns" with | some d => if ([a0, a1] : List FW.D).length = d.np then endRS (evSs ⟨callN pr n, gls⟩ pr.xc pr.L d.body (startS [a0, a1] d.ns) S) else .bad | none => .bad) = _
  rw [ff__law_columns]; rfl
theorem ff__law_spoil_columns : findF fs "_law_spoil_columns" = some d__law_spoil_columns := by rfl
theorem cl__law_spoil_columns (n : Nat) (a0 a1 : FW.D) (S : Hs) : callN pr (n + 1) "_law_spoil_columns" [a0, a1] S = endRS (evSs ⟨callN pr n, gls⟩ pr.xc pr.L b__law_spoil_columns [.fz a0, .fz a1, .no, .no, .no, .no, .no, .no] S) := by
  show (match findF fs "_law_spoil_columns" with | some d => if ([a0, a1] : List FW.D).length = d.np then endRS (evSs ⟨callN pr n, gls⟩ pr.xc pr.L d.body (startS [a0, a1] d.ns) S) else .bad | none => .bad) = _
  rw [ff__law_spoil_columns]; rfl
theorem ff__law_is_schema : findF fs "_law_is_schema" = some d__law_is_schema := by rfl
theorem cl__law_is_schema (n : Nat) (a0 a1 : FW.D) (S : Hs) : callN pr (n + 1) "_law_is_schema" [a0, a1] S = endRS (evSs ⟨callN pr n, gls⟩ pr.xc pr.L b__law_is_schema [.fz a0, .fz a1, .no, .no, .no, .no] S) := by
  show (match findF fs "_law_is_schema" with | some d => if ([a0, a1] : List FW.D).length = d.np then endRS (evSs ⟨callN pr n, gls⟩ pr.xc pr.L d.body (startS [a0, a1] d.ns) S) else .bad | none => .bad) = _
  rw [ff__law_is_schema]; rfl
theorem ff__law_takes_schema : findF fs "_law_takes_schema" = some d__law_takes_schema := by rfl
theorem cl__law_takes_schema (n : Nat) (a0 a1 : FW.D) (S : Hs) : callN pr (n + 1) "_law_takes_schema" [a0, a1] S = endRS (evSs ⟨callN pr n, gls⟩ pr.xc pr.L b__law_takes_schema [.fz a0, .fz a1, .no] S) := by
  show (match findF fs "_law_takes_schema" with | some d => if ([a0, a1] : List FW.D).length = d.np then endRS (evSs ⟨callN pr n, gls⟩ pr.xc pr.L d.body (startS [a0, a1] d.ns) S) else .bad | none => .bad) = _
  rw [ff__law_takes_schema]; rfl
theorem ff_law : findF fs "law" = some d_law := by rfl
theorem cl_law (n : Nat) (a0 : FW.D) (S : Hs) : callN pr (n + 1) "law" [a0] S = endRS (evSs ⟨callN pr n, gls⟩ pr.xc pr.L b_law [.fz a0, .no, .no, .no, .no, .no] S) := by
  show (match findF fs "law" with | some d => if ([a0] : List FW.D).length = d.np then endRS (evSs ⟨callN pr n, gls⟩ pr.xc pr.L d.body (startS [a0] d.ns) S) else .bad | none => .bad) = _
  rw [ff_law]; rfl
abbrev s_is_word : Stmt := top 7
theorem sc_is_word : FnScope ["value", "mark"] ["value"] (defScope s_is_word) := ⟨rfl, rfl, rfl, by decide +kernel, rfl, by decide +kernel, by decide +kernel⟩ -- (by decide +kernel)
theorem ck_is_word : ckSs ⟨["value", "mark"], defScope s_is_word⟩ pr b_is_word (defBody s_is_word) = true := by decide +kernel
theorem fi_is_word {K : PySem.W.Frag} {mg : Str → Option Value} {f : Addr} {oc : Value} {od an : Option Addr} {osl : Array (Option Value)} {kV doc pm cdv ct : Value} (a : mg "is_word" = some (.ref f)) (l : K.lookup f = some ⟨oc, od, .func (PySem.W.fnOf "is_word" "is_word" (defArgs s_is_word) (defBody s_is_word) (defScope s_is_word) .none kV doc pm an cdv ct), osl⟩) (c : PySem.W.codeIn K cdv "is_word" = true) (k : PySem.W.keepIn K (.ref f) = true) : FunIn K mg pr d_is_word :=
  ⟨s_is_word, f, _, ["value", "mark"], ["value"], fun_mk l c k, a, (fun_mk l c k).binds (ps := ["value"]) fun _ _ _ _ _ _ us hl => match us, hl with | [_], _ => rfl, rfl, rfl, sc_is_word, ck_is_word⟩
abbrev s_is_number : Stmt := top 8
theorem sc_is_number : FnScope ["value"] ["value"] (defScope s_is_number) := ⟨rfl, rfl, rfl, by decide +kernel, rfl, by decide +kernel, by decide +kernel⟩ -- (by decide +kernel)
theorem ck_is_number : ckSs ⟨["value"], defScope s_is_number⟩ pr b_is_number (defBody s_is_number) = true := by decide +kernel
theorem fi_is_number {K : PySem.W.Frag} {mg : Str → Option Value} {f : Addr} {oc : Value} {od an : Option Addr} {osl : Array (Option Value)} {kV doc pm cdv ct : Value} (a : mg "is_number" = some (.ref f)) (l : K.lookup f = some ⟨oc, od, .func (PySem.W.fnOf "is_number" "is_number" (defArgs s_is_number) (defBody s_is_number) (defScope s_is_number) .none kV doc pm an cdv ct), osl⟩) (c : PySem.W.codeIn K cdv "is_number" = true) (k : PySem.W.keepIn K (.ref f) = true) : FunIn K mg pr d_is_number :=
  ⟨s_is_number, f, _, ["value"], ["value"], fun_mk l c k, a, (fun_mk l c k).binds (ps := ["value"]) fun _ _ _ _ _ _ us hl => match us, hl with | [_], _ => rfl, rfl, rfl, sc_is_number, ck_is_number⟩
abbrev s_is_ascending : Stmt := top 10
theorem sc_is_ascending : FnScope ["parts", "k"] ["parts"] (defScope s_is_ascending) := ⟨rfl, rfl, rfl, by decide +kernel, rfl, by decide +kernel, by decide +kernel⟩ -- (by decide +kernel)
theorem ck_is_ascending : ckSs ⟨["parts", "k"], defScope s_is_ascending⟩ pr b_is_ascending (defBody s_is_ascending) = true := by decide +kernel
theorem fi_is_ascending {K : PySem.W.Frag} {mg : Str → Option Value} {f : Addr} {oc : Value} {od an : Option Addr} {osl : Array (Option Value)} {kV doc pm cdv ct : Value} (a : mg "is_ascending" = some (.ref f)) (l : K.lookup f = some ⟨oc, od, .func (PySem.W.fnOf "is_ascending" "is_ascending" (defArgs s_is_ascending) (defBody s_is_ascending) (defScope s_is_ascending) .none kV doc pm an cdv ct), osl⟩) (c : PySem.W.codeIn K cdv "is_ascending" = true) (k : PySem.W.keepIn K (.ref f) = true) : FunIn K mg pr d_is_ascending :=
  ⟨s_is_ascending, f, _, ["parts", "k"], ["parts"], fun_mk l c k, a, (fun_mk l c k).binds (ps := ["parts"]) fun _ _ _ _ _ _ us hl => match us, hl with | [_], _ => rfl, rfl, rfl, sc_is_ascending, ck_is_ascending⟩
abbrev s_is_schema : Stmt := top 13
theorem sc_is_schema : FnScope ["kind", "columns", "names", "name", "sort", "default", "column"] ["kind", "columns"] (defScope s_is_schema) := ⟨rfl, rfl, rfl, by decide +kernel, rfl, by decide +kernel, by decide +kernel⟩ -- (by decide +kernel)
theorem ck_is_schema : ckSs ⟨["kind", "columns", "names", "name", "sort", "default", "column"], defScope s_is_schema⟩ pr b_is_schema (defBody s_is_schema) = true := by decide +kernel
theorem fi_is_schema {K : PySem.W.Frag} {mg : Str → Option Value} {f : Addr} {oc : Value} {od an : Option Addr} {osl : Array (Option Value)} {kV doc pm cdv ct : Value} (a : mg "is_schema" = some (.ref f)) (l : K.lookup f = some ⟨oc, od, .func (PySem.W.fnOf "is_schema" "is_schema" (defArgs s_is_schema) (defBody s_is_schema) (defScope s_is_schema) .none kV doc pm an cdv ct), osl⟩) (c : PySem.W.codeIn K cdv "is_schema" = true) (k : PySem.W.keepIn K (.ref f) = true) : FunIn K mg pr d_is_schema :=
  ⟨s_is_schema, f, _, ["kind", "columns", "names", "name", "sort", "default", "column"], ["kind", "columns"], fun_mk l c k, a, (fun_mk l c k).binds (ps := ["kind", "columns"]) fun _ _ _ _ _ _ us hl => match us, hl with | [_, _], _ => rfl, rfl, rfl, sc_is_schema, ck_is_schema⟩
abbrev s_is_column : Stmt := top 14
theorem sc_is_column : FnScope ["column", "name", "sort", "default"] ["column"] (defScope s_is_column) := ⟨rfl, rfl, rfl, by decide +kernel, rfl, by decide +kernel, by decide +kernel⟩ -- (by decide +kernel)
theorem ck_is_column : ckSs ⟨["column", "name", "sort", "default"], defScope s_is_column⟩ pr b_is_column (defBody s_is_column) = true := by decide +kernel
theorem fi_is_column {K : PySem.W.Frag} {mg : Str → Option Value} {f : Addr} {oc : Value} {od an : Option Addr} {osl : Array (Option Value)} {kV doc pm cdv ct : Value} (a : mg "is_column" = some (.ref f)) (l : K.lookup f = some ⟨oc, od, .func (PySem.W.fnOf "is_column" "is_column" (defArgs s_is_column) (defBody s_is_column) (defScope s_is_column) .none kV doc pm an cdv ct), osl⟩) (c : PySem.W.codeIn K cdv "is_column" = true) (k : PySem.W.keepIn K (.ref f) = true) : FunIn K mg pr d_is_column :=
  ⟨s_is_column, f, _, ["column", "name", "sort", "default"], ["column"], fun_mk l c k, a, (fun_mk l c k).binds (ps := ["column"]) fun _ _ _ _ _ _ us hl => match us, hl with | [_], _ => rfl, rfl, rfl, sc_is_column, ck_is_column⟩
abbrev s_check_schema : Stmt := top 15
theorem sc_check_schema : FnScope ["kind", "columns"] ["kind", "columns"] (defScope s_check_schema) := ⟨rfl, rfl, rfl, by decide +kernel, rfl, by decide +kernel, by decide +kernel⟩ -- (by decide +kernel)
theorem ck_check_schema : ckSs ⟨["kind", "columns"], defScope s_check_schema⟩ pr b_check_schema (defBody s_check_schema) = true := by decide +kernel
theorem fi_check_schema {K : PySem.W.Frag} {mg : Str → Option Value} {f : Addr} {oc : Value} {od an : Option Addr} {osl : Array (Option Value)} {kV doc pm cdv ct : Value} (a : mg "check_schema" = some (.ref f)) (l : K.lookup f = some ⟨oc, od, .func (PySem.W.fnOf "check_schema" "check_schema" (defArgs s_check_schema) (defBody s_check_schema) (defScope s_check_schema) .none kV doc pm an cdv ct), osl⟩) (c : PySem.W.codeIn K cdv "check_schema" = true) (k : PySem.W.keepIn K (.ref f) = true) : FunIn K mg pr d_check_schema :=
  ⟨s_check_schema, f, _, ["kind", "columns"], ["kind", "columns"], fun_mk l c k, a, (fun_mk l c k).binds (ps := ["kind", "columns"]) fun _ _ _ _ _ _ us hl => match us, hl with | [_, _], _ => rfl, rfl, rfl, sc_check_schema, ck_check_schema⟩
abbrev s__law_cell : Stmt := top 17
theorem sc__law_cell : FnScope ["script", "k"] ["script", "k"] (defScope s__law_cell) := ⟨rfl, rfl, rfl, by decide +kernel, rfl, by decide +kernel, by decide +kernel⟩ -- (by decide +kernel)
theorem ck__law_cell : ckSs ⟨["script", "k"], defScope s__law_cell⟩ pr b__law_cell (defBody s__law_cell) = true := by decide +kernel
theorem fi__law_cell {K : PySem.W.Frag} {mg : Str → Option Value} {f : Addr} {oc : Value} {od an : Option Addr} {osl : Array (Option Value)} {kV doc pm cdv ct : Value} (a : mg "_law_cell" = some (.ref f)) (l : K.lookup f = some ⟨oc, od, .func (PySem.W.fnOf "_law_cell" "_law_cell" (defArgs s__law_cell) (defBody s__law_cell) (defScope s__law_cell) .none kV doc pm an cdv ct), osl⟩) (c : PySem.W.codeIn K cdv "_law_cell" = true) (k : PySem.W.keepIn K (.ref f) = true) : FunIn K mg pr d__law_cell :=
  ⟨s__law_cell, f, _, ["script", "k"], ["script", "k"], fun_mk l c k, a, (fun_mk l c k).binds (ps := ["script", "k"]) fun _ _ _ _ _ _ us hl => match us, hl with | [_, _], _ => rfl, rfl, rfl, sc__law_cell, ck__law_cell⟩
abbrev s__law_draw : Stmt := top 18
theorem sc__law_draw : FnScope ["cell", "k", "many", "rest", "j"] ["cell", "k", "many"] (defScope s__law_draw) := ⟨rfl, rfl, rfl, by decide +kernel, rfl, by decide +kernel, by decide +kernel⟩ -- (by decide +kernel)
theorem ck__law_draw : ckSs ⟨["cell", "k", "many", "rest", "j"], defScope s__law_draw⟩ pr b__law_draw (defBody s__law_draw) = true := by decide +kernel
theorem fi__law_draw {K : PySem.W.Frag} {mg : Str → Option Value} {f : Addr} {oc : Value} {od an : Option Addr} {osl : Array (Option Value)} {kV doc pm cdv ct : Value} (a : mg "_law_draw" = some (.ref f)) (l : K.lookup f = some ⟨oc, od, .func (PySem.W.fnOf "_law_draw" "_law_draw" (defArgs s__law_draw) (defBody s__law_draw) (defScope s__law_draw) .none kV doc pm an cdv ct), osl⟩) (c : PySem.W.codeIn K cdv "_law_draw" = true) (k : PySem.W.keepIn K (.ref f) = true) : FunIn K mg pr d__law_draw :=
  ⟨s__law_draw, f, _, ["cell", "k", "many", "rest", "j"], ["cell", "k", "many"], fun_mk l c k, a, (fun_mk l c k).binds (ps := ["cell", "k", "many"]) fun _ _ _ _ _ _ us hl => match us, hl with | [_, _, _], _ => rfl, rfl, rfl, sc__law_draw, ck__law_draw⟩
abbrev s__law_word : Stmt := top 19
theorem sc__law_word : FnScope ["number", "letters", "word", "k"] ["number"] (defScope s__law_word) := ⟨rfl, rfl, rfl, by decide +kernel, rfl, by decide +kernel, by decide +kernel⟩ -- (by decide +kernel)
theorem ck__law_word : ckSs ⟨["number", "letters", "word", "k"], defScope s__law_word⟩ pr b__law_word (defBody s__law_word) = true := by decide +kernel
theorem fi__law_word {K : PySem.W.Frag} {mg : Str → Option Value} {f : Addr} {oc : Value} {od an : Option Addr} {osl : Array (Option Value)} {kV doc pm cdv ct : Value} (a : mg "_law_word" = some (.ref f)) (l : K.lookup f = some ⟨oc, od, .func (PySem.W.fnOf "_law_word" "_law_word" (defArgs s__law_word) (defBody s__law_word) (defScope s__law_word) .none kV doc pm an cdv ct), osl⟩) (c : PySem.W.codeIn K cdv "_law_word" = true) (k : PySem.W.keepIn K (.ref f) = true) : FunIn K mg pr d__law_word :=
  ⟨s__law_word, f, _, ["number", "letters", "word", "k"], ["number"], fun_mk l c k, a, (fun_mk l c k).binds (ps := ["number"]) fun _ _ _ _ _ _ us hl => match us, hl with | [_], _ => rfl, rfl, rfl, sc__law_word, ck__law_word⟩
abbrev s__law_words : Stmt := top 20
theorem sc__law_words : FnScope ["cell", "many", "base", "k"] ["cell", "many"] (defScope s__law_words) := ⟨rfl, rfl, rfl, by decide +kernel, rfl, by decide +kernel, by decide +kernel⟩ -- (by decide +kernel)
theorem ck__law_words : ckSs ⟨["cell", "many", "base", "k"], defScope s__law_words⟩ pr b__law_words (defBody s__law_words) = true := by decide +kernel
theorem fi__law_words {K : PySem.W.Frag} {mg : Str → Option Value} {f : Addr} {oc : Value} {od an : Option Addr} {osl : Array (Option Value)} {kV doc pm cdv ct : Value} (a : mg "_law_words" = some (.ref f)) (l : K.lookup f = some ⟨oc, od, .func (PySem.W.fnOf "_law_words" "_law_words" (defArgs s__law_words) (defBody s__law_words) (defScope s__law_words) .none kV doc pm an cdv ct), osl⟩) (c : PySem.W.codeIn K cdv "_law_words" = true) (k : PySem.W.keepIn K (.ref f) = true) : FunIn K mg pr d__law_words :=
  ⟨s__law_words, f, _, ["cell", "many", "base", "k"], ["cell", "many"], fun_mk l c k, a, (fun_mk l c k).binds (ps := ["cell", "many"]) fun _ _ _ _ _ _ us hl => match us, hl with | [_, _], _ => rfl, rfl, rfl, sc__law_words, ck__law_words⟩
abbrev s__law_near_word : Stmt := top 21
theorem sc__law_near_word : FnScope ["cell", "word", "pick"] ["cell"] (defScope s__law_near_word) := ⟨rfl, rfl, rfl, by decide +kernel, rfl, by decide +kernel, by decide +kernel⟩ -- (by decide +kernel)
theorem ck__law_near_word : ckSs ⟨["cell", "word", "pick"], defScope s__law_near_word⟩ pr b__law_near_word (defBody s__law_near_word) = true := by decide +kernel
theorem fi__law_near_word {K : PySem.W.Frag} {mg : Str → Option Value} {f : Addr} {oc : Value} {od an : Option Addr} {osl : Array (Option Value)} {kV doc pm cdv ct : Value} (a : mg "_law_near_word" = some (.ref f)) (l : K.lookup f = some ⟨oc, od, .func (PySem.W.fnOf "_law_near_word" "_law_near_word" (defArgs s__law_near_word) (defBody s__law_near_word) (defScope s__law_near_word) .none kV doc pm an cdv ct), osl⟩) (c : PySem.W.codeIn K cdv "_law_near_word" = true) (k : PySem.W.keepIn K (.ref f) = true) : FunIn K mg pr d__law_near_word :=
  ⟨s__law_near_word, f, _, ["cell", "word", "pick"], ["cell"], fun_mk l c k, a, (fun_mk l c k).binds (ps := ["cell"]) fun _ _ _ _ _ _ us hl => match us, hl with | [_], _ => rfl, rfl, rfl, sc__law_near_word, ck__law_near_word⟩
abbrev s__law_is_word : Stmt := top 22
theorem sc__law_is_word : FnScope ["value", "char"] ["value"] (defScope s__law_is_word) := ⟨rfl, rfl, rfl, by decide +kernel, rfl, by decide +kernel, by decide +kernel⟩ -- (by decide +kernel)
theorem ck__law_is_word : ckSs ⟨["value", "char"], defScope s__law_is_word⟩ pr b__law_is_word (defBody s__law_is_word) = true := by decide +kernel
theorem fi__law_is_word {K : PySem.W.Frag} {mg : Str → Option Value} {f : Addr} {oc : Value} {od an : Option Addr} {osl : Array (Option Value)} {kV doc pm cdv ct : Value} (a : mg "_law_is_word" = some (.ref f)) (l : K.lookup f = some ⟨oc, od, .func (PySem.W.fnOf "_law_is_word" "_law_is_word" (defArgs s__law_is_word) (defBody s__law_is_word) (defScope s__law_is_word) .none kV doc pm an cdv ct), osl⟩) (c : PySem.W.codeIn K cdv "_law_is_word" = true) (k : PySem.W.keepIn K (.ref f) = true) : FunIn K mg pr d__law_is_word :=
  ⟨s__law_is_word, f, _, ["value", "char"], ["value"], fun_mk l c k, a, (fun_mk l c k).binds (ps := ["value"]) fun _ _ _ _ _ _ us hl => match us, hl with | [_], _ => rfl, rfl, rfl, sc__law_is_word, ck__law_is_word⟩
abbrev s__law_near_number : Stmt := top 23
theorem sc__law_near_number : FnScope ["cell", "pick"] ["cell"] (defScope s__law_near_number) := ⟨rfl, rfl, rfl, by decide +kernel, rfl, by decide +kernel, by decide +kernel⟩ -- (by decide +kernel)
theorem ck__law_near_number : ckSs ⟨["cell", "pick"], defScope s__law_near_number⟩ pr b__law_near_number (defBody s__law_near_number) = true := by decide +kernel
theorem fi__law_near_number {K : PySem.W.Frag} {mg : Str → Option Value} {f : Addr} {oc : Value} {od an : Option Addr} {osl : Array (Option Value)} {kV doc pm cdv ct : Value} (a : mg "_law_near_number" = some (.ref f)) (l : K.lookup f = some ⟨oc, od, .func (PySem.W.fnOf "_law_near_number" "_law_near_number" (defArgs s__law_near_number) (defBody s__law_near_number) (defScope s__law_near_number) .none kV doc pm an cdv ct), osl⟩) (c : PySem.W.codeIn K cdv "_law_near_number" = true) (k : PySem.W.keepIn K (.ref f) = true) : FunIn K mg pr d__law_near_number :=
  ⟨s__law_near_number, f, _, ["cell", "pick"], ["cell"], fun_mk l c k, a, (fun_mk l c k).binds (ps := ["cell"]) fun _ _ _ _ _ _ us hl => match us, hl with | [_], _ => rfl, rfl, rfl, sc__law_near_number, ck__law_near_number⟩
abbrev s__law_is_value : Stmt := top 24
theorem sc__law_is_value : FnScope ["value"] ["value"] (defScope s__law_is_value) := ⟨rfl, rfl, rfl, by decide +kernel, rfl, by decide +kernel, by decide +kernel⟩ -- (by decide +kernel)
theorem ck__law_is_value : ckSs ⟨["value"], defScope s__law_is_value⟩ pr b__law_is_value (defBody s__law_is_value) = true := by decide +kernel
theorem fi__law_is_value {K : PySem.W.Frag} {mg : Str → Option Value} {f : Addr} {oc : Value} {od an : Option Addr} {osl : Array (Option Value)} {kV doc pm cdv ct : Value} (a : mg "_law_is_value" = some (.ref f)) (l : K.lookup f = some ⟨oc, od, .func (PySem.W.fnOf "_law_is_value" "_law_is_value" (defArgs s__law_is_value) (defBody s__law_is_value) (defScope s__law_is_value) .none kV doc pm an cdv ct), osl⟩) (c : PySem.W.codeIn K cdv "_law_is_value" = true) (k : PySem.W.keepIn K (.ref f) = true) : FunIn K mg pr d__law_is_value :=
  ⟨s__law_is_value, f, _, ["value"], ["value"], fun_mk l c k, a, (fun_mk l c k).binds (ps := ["value"]) fun _ _ _ _ _ _ us hl => match us, hl with | [_], _ => rfl, rfl, rfl, sc__law_is_value, ck__law_is_value⟩
abbrev s__law_column : Stmt := top 25
theorem sc__law_column : FnScope ["name", "cell", "k"] ["name", "cell", "k"] (defScope s__law_column) := ⟨rfl, rfl, rfl, by decide +kernel, rfl, by decide +kernel, by decide +kernel⟩ -- (by decide +kernel)
theorem ck__law_column : ckSs ⟨["name", "cell", "k"], defScope s__law_column⟩ pr b__law_column (defBody s__law_column) = true := by decide +kernel
theorem fi__law_column {K : PySem.W.Frag} {mg : Str → Option Value} {f : Addr} {oc : Value} {od an : Option Addr} {osl : Array (Option Value)} {kV doc pm cdv ct : Value} (a : mg "_law_column" = some (.ref f)) (l : K.lookup f = some ⟨oc, od, .func (PySem.W.fnOf "_law_column" "_law_column" (defArgs s__law_column) (defBody s__law_column) (defScope s__law_column) .none kV doc pm an cdv ct), osl⟩) (c : PySem.W.codeIn K cdv "_law_column" = true) (k : PySem.W.keepIn K (.ref f) = true) : FunIn K mg pr d__law_column :=
  ⟨s__law_column, f, _, ["name", "cell", "k"], ["name", "cell", "k"], fun_mk l c k, a, (fun_mk l c k).binds (ps := ["name", "cell", "k"]) fun _ _ _ _ _ _ us hl => match us, hl with | [_, _, _], _ => rfl, rfl, rfl, sc__law_column, ck__law_column⟩
abbrev s__law_columns : Stmt := top 26
theorem sc__law_columns : FnScope ["cell", "names", "j"] ["cell", "names"] (defScope s__law_columns) := ⟨rfl, rfl, rfl, by decide +kernel, rfl, by decide +kernel, by decide +kernel⟩ -- (by decide +kernel)
theorem ck__law_columns : ckSs ⟨["cell", "names", "j"], defScope s__law_columns⟩ pr b__law_columns (defBody s__law_columns) = true := by decide +kernel
theorem fi__law_columns {K : PySem.W.Frag} {mg : Str → Option Value} {f : Addr} {oc : Value} {od an : Option Addr} {osl : Array (Option Value)} {kV doc pm cdv ct : Value} (a : mg "_law_columns" = some (.ref f)) (l : K.lookup f = some ⟨oc, od, .func (PySem.W.fnOf "_law_columns" "_law_columns" (defArgs s__law_columns) (defBody s__law_columns) (defScope s__law_columns) .none kV doc pm an cdv ct), osl⟩) (c : PySem.W.codeIn K cdv "_law_columns" = true) (k : PySem.W.keepIn K (.ref f) = true) : FunIn K mg pr d__law_columns :=
  ⟨s__law_columns, f, _, ["cell", "names", "j"], ["cell", "names"], fun_mk l c k, a, (fun_mk l c k).binds (ps := ["cell", "names"]) fun _ _ _ _ _ _ us hl => match us, hl with | [_, _], _ => rfl, rfl, rfl, sc__law_columns, ck__law_columns⟩
abbrev s__law_spoil_columns : Stmt := top 27
theorem sc__law_spoil_columns : FnScope ["columns", "cell", "at", "name", "sort", "default", "pick", "rows"] ["columns", "cell"] (defScope s__law_spoil_columns) := ⟨rfl, rfl, rfl, by decide +kernel, rfl, by decide +kernel, by decide +kernel⟩ -- (by decide +kernel)
theorem ck__law_spoil_columns : ckSs ⟨["columns", "cell", "at", "name", "sort", "default", "pick", "rows"], defScope s__law_spoil_columns⟩ pr b__law_spoil_columns (defBody s__law_spoil_columns) = true := by decide +kernel
theorem fi__law_spoil_columns {K : PySem.W.Frag} {mg : Str → Option Value} {f : Addr} {oc : Value} {od an : Option Addr} {osl : Array (Option Value)} {kV doc pm cdv ct : Value} (a : mg "_law_spoil_columns" = some (.ref f)) (l : K.lookup f = some ⟨oc, od, .func (PySem.W.fnOf "_law_spoil_columns" "_law_spoil_columns" (defArgs s__law_spoil_columns) (defBody s__law_spoil_columns) (defScope s__law_spoil_columns) .none kV doc pm an cdv ct), osl⟩) (c : PySem.W.codeIn K cdv "_law_spoil_columns" = true) (k : PySem.W.keepIn K (.ref f) = true) : FunIn K mg pr d__law_spoil_columns :=
  ⟨s__law_spoil_columns, f, _, ["columns", "cell", "at", "name", "sort", "default", "pick", "rows"], ["columns", "cell"], fun_mk l c k, a, (fun_mk l c k).binds (ps := ["columns", "cell"]) fun _ _ _ _ _ _ us hl => match us, hl with | [_, _], _ => rfl, rfl, rfl, sc__law_spoil_columns, ck__law_spoil_columns⟩
abbrev s__law_is_schema : Stmt := top 28
theorem sc__law_is_schema : FnScope ["kind", "columns", "k", "name", "sort", "default"] ["kind", "columns"] (defScope s__law_is_schema) := ⟨rfl, rfl, rfl, by decide +kernel, rfl, by decide +kernel, by decide +kernel⟩ -- (by decide +kernel)
theorem ck__law_is_schema : ckSs ⟨["kind", "columns", "k", "name", "sort", "default"], defScope s__law_is_schema⟩ pr b__law_is_schema (defBody s__law_is_schema) = true := by decide +kernel
theorem fi__law_is_schema {K : PySem.W.Frag} {mg : Str → Option Value} {f : Addr} {oc : Value} {od an : Option Addr} {osl : Array (Option Value)} {kV doc pm cdv ct : Value} (a : mg "_law_is_schema" = some (.ref f)) (l : K.lookup f = some ⟨oc, od, .func (PySem.W.fnOf "_law_is_schema" "_law_is_schema" (defArgs s__law_is_schema) (defBody s__law_is_schema) (defScope s__law_is_schema) .none kV doc pm an cdv ct), osl⟩) (c : PySem.W.codeIn K cdv "_law_is_schema" = true) (k : PySem.W.keepIn K (.ref f) = true) : FunIn K mg pr d__law_is_schema :=
  ⟨s__law_is_schema, f, _, ["kind", "columns", "k", "name", "sort", "default"], ["kind", "columns"], fun_mk l c k, a, (fun_mk l c k).binds (ps := ["kind", "columns"]) fun _ _ _ _ _ _ us hl => match us, hl with | [_, _], _ => rfl, rfl, rfl, sc__law_is_schema, ck__law_is_schema⟩
abbrev s__law_takes_schema : Stmt := top 29
theorem sc__law_takes_schema : FnScope ["kind", "columns", "e"] ["kind", "columns"] (defScope s__law_takes_schema) := ⟨rfl, rfl, rfl, by decide +kernel, rfl, by decide +kernel, by decide +kernel⟩ -- (by decide +kernel)
theorem ck__law_takes_schema : ckSs ⟨["kind", "columns", "e"], defScope s__law_takes_schema⟩ pr b__law_takes_schema (defBody s__law_takes_schema) = true := by decide +kernel
theorem fi__law_takes_schema {K : PySem.W.Frag} {mg : Str → Option Value} {f : Addr} {oc : Value} {od an : Option Addr} {osl : Array (Option Value)} {kV doc pm cdv ct : Value} (a : mg "_law_takes_schema" = some (.ref f)) (l : K.lookup f = some ⟨oc, od, .func (PySem.W.fnOf "_law_takes_schema" "_law_takes_schema" (defArgs s__law_takes_schema) (defBody s__law_takes_schema) (defScope s__law_takes_schema) .none kV doc pm an cdv ct), osl⟩) (c : PySem.W.codeIn K cdv "_law_takes_schema" = true) (k : PySem.W.keepIn K (.ref f) = true) : FunIn K mg pr d__law_takes_schema :=
  ⟨s__law_takes_schema, f, _, ["kind", "columns", "e"], ["kind", "columns"], fun_mk l c k, a, (fun_mk l c k).binds (ps := ["kind", "columns"]) fun _ _ _ _ _ _ us hl => match us, hl with | [_, _], _ => rfl, rfl, rfl, sc__law_takes_schema, ck__law_takes_schema⟩
abbrev s_law : Stmt := top 30
theorem sc_law : FnScope ["script", "cell", "names", "columns", "kind", "given"] ["script"] (defScope s_law) := ⟨rfl, rfl, rfl, by decide +kernel, rfl, by decide +kernel, by decide +kernel⟩ -- (by decide +kernel)
theorem ck_law : ckSs ⟨["script", "cell", "names", "columns", "kind", "given"], defScope s_law⟩ pr b_law (defBody s_law) = true := by decide +kernel
theorem fi_law {K : PySem.W.Frag} {mg : Str → Option Value} {f : Addr} {oc : Value} {od an : Option Addr} {osl : Array (Option Value)} {kV doc pm cdv ct : Value} (a : mg "law" = some (.ref f)) (l : K.lookup f = some ⟨oc, od, .func (PySem.W.fnOf "law" "law" (defArgs s_law) (defBody s_law) (defScope s_law) .none kV doc pm an cdv ct), osl⟩) (c : PySem.W.codeIn K cdv "law" = true) (k : PySem.W.keepIn K (.ref f) = true) : FunIn K mg pr d_law :=
  ⟨s_law, f, _, ["script", "cell", "names", "columns", "kind", "given"], ["script"], fun_mk l c k, a, (fun_mk l c k).binds (ps := ["script"]) fun _ _ _ _ _ _ us hl => match us, hl with | [_], _ => rfl, rfl, rfl, sc_law, ck_law⟩
theorem facts {K : PySem.W.Frag} {mg : Str → Option Value} {h : Heap} (X : K.In h) (G : h.Ns mainGlobals mg)
    {f0 : Addr} {oc0 : Value} {od0 an0 : Option Addr} {sl0 : Array (Option Value)} {kV0 dc0 pm0 cd0 ct0 : Value} (a0 : PySem.W.nsIn K mainGlobals "is_word" = some (some (.ref f0))) (l0 : K.lookup f0 = some ⟨oc0, od0, .func (PySem.W.fnOf "is_word" "is_word" (defArgs s_is_word) (defBody s_is_word) (defScope s_is_word) .none kV0 dc0 pm0 an0 cd0 ct0), sl0⟩) (c0 : PySem.W.codeIn K cd0 "is_word" = true) (k0 : PySem.W.keepIn K (.ref f0) = true)
    {f1 : Addr} {oc1 : Value} {od1 an1 : Option Addr} {sl1 : Array (Option Value)} {kV1 dc1 pm1 cd1 ct1 : Value} (a1 : PySem.W.nsIn K mainGlobals "is_number" = some (some (.ref f1))) (l1 : K.lookup f1 = some ⟨oc1, od1, .func (PySem.W.fnOf "is_number" "is_number" (defArgs s_is_number) (defBody s_is_number) (defScope s_is_number) .none kV1 dc1 pm1 an1 cd1 ct1), sl1⟩) (c1 : PySem.W.codeIn K cd1 "is_number" = true) (k1 : PySem.W.keepIn K (.ref f1) = true)
    {f2 : Addr} {oc2 : Value} {od2 an2 : Option Addr} {sl2 : Array (Option Value)} {kV2 dc2 pm2 cd2 ct2 : Value} (a2 : PySem.W.nsIn K mainGlobals "is_ascending" = some (some (.ref f2))) (l2 : K.lookup f2 = some ⟨oc2, od2, .func (PySem.W.fnOf "is_ascending" "is_ascending" (defArgs s_is_ascending) (defBody s_is_ascending) (defScope s_is_ascending) .none kV2 dc2 pm2 an2 cd2 ct2), sl2⟩) (c2 : PySem.W.codeIn K cd2 "is_ascending" = true) (k2 : PySem.W.keepIn K (.ref f2) = true)
    {f3 : Addr} {oc3 : Value} {od3 an3 : Option Addr} {sl3 : Array (Option Value)} {kV3 dc3 pm3 cd3 ct3 : Value} (a3 : PySem.W.nsIn K mainGlobals "is_schema" = some (some (.ref f3))) (l3 : K.lookup f3 = some ⟨oc3, od3, .func (PySem.W.fnOf "is_schema" "is_schema" (defArgs s_is_schema) (defBody s_is_schema) (defScope s_is_schema) .none kV3 dc3 pm3 an3 cd3 ct3), sl3⟩) (c3 : PySem.W.codeIn K cd3 "is_schema" = true) (k3 : PySem.W.keepIn K (.ref f3) = true)
    {f4 : Addr} {oc4 : Value} {od4 an4 : Option Addr} {sl4 : Array (Option Value)} {kV4 dc4 pm4 cd4 ct4 : Value} (a4 : PySem.W.nsIn K mainGlobals "is_column" = some (some (.ref f4))) (l4 : K.lookup f4 = some ⟨oc4, od4, .func (PySem.W.fnOf "is_column" "is_column" (defArgs s_is_column) (defBody s_is_column) (defScope s_is_column) .none kV4 dc4 pm4 an4 cd4 ct4), sl4⟩) (c4 : PySem.W.codeIn K cd4 "is_column" = true) (k4 : PySem.W.keepIn K (.ref f4) = true)
    {f5 : Addr} {oc5 : Value} {od5 an5 : Option Addr} {sl5 : Array (Option Value)} {kV5 dc5 pm5 cd5 ct5 : Value} (a5 : PySem.W.nsIn K mainGlobals "check_schema" = some (some (.ref f5))) (l5 : K.lookup f5 = some ⟨oc5, od5, .func (PySem.W.fnOf "check_schema" "check_schema" (defArgs s_check_schema) (defBody s_check_schema) (defScope s_check_schema) .none kV5 dc5 pm5 an5 cd5 ct5), sl5⟩) (c5 : PySem.W.codeIn K cd5 "check_schema" = true) (k5 : PySem.W.keepIn K (.ref f5) = true)
    {f6 : Addr} {oc6 : Value} {od6 an6 : Option Addr} {sl6 : Array (Option Value)} {kV6 dc6 pm6 cd6 ct6 : Value} (a6 : PySem.W.nsIn K mainGlobals "_law_cell" = some (some (.ref f6))) (l6 : K.lookup f6 = some ⟨oc6, od6, .func (PySem.W.fnOf "_law_cell" "_law_cell" (defArgs s__law_cell) (defBody s__law_cell) (defScope s__law_cell) .none kV6 dc6 pm6 an6 cd6 ct6), sl6⟩) (c6 : PySem.W.codeIn K cd6 "_law_cell" = true) (k6 : PySem.W.keepIn K (.ref f6) = true)
    {f7 : Addr} {oc7 : Value} {od7 an7 : Option Addr} {sl7 : Array (Option Value)} {kV7 dc7 pm7 cd7 ct7 : Value} (a7 : PySem.W.nsIn K mainGlobals "_law_draw" = some (some (.ref f7))) (l7 : K.lookup f7 = some ⟨oc7, od7, .func (PySem.W.fnOf "_law_draw" "_law_draw" (defArgs s__law_draw) (defBody s__law_draw) (defScope s__law_draw) .none kV7 dc7 pm7 an7 cd7 ct7), sl7⟩) (c7 : PySem.W.codeIn K cd7 "_law_draw" = true) (k7 : PySem.W.keepIn K (.ref f7) = true)
    {f8 : Addr} {oc8 : Value} {od8 an8 : Option Addr} {sl8 : Array (Option Value)} {kV8 dc8 pm8 cd8 ct8 : Value} (a8 : PySem.W.nsIn K mainGlobals "_law_word" = some (some (.ref f8))) (l8 : K.lookup f8 = some ⟨oc8, od8, .func (PySem.W.fnOf "_law_word" "_law_word" (defArgs s__law_word) (defBody s__law_word) (defScope s__law_word) .none kV8 dc8 pm8 an8 cd8 ct8), sl8⟩) (c8 : PySem.W.codeIn K cd8 "_law_word" = true) (k8 : PySem.W.keepIn K (.ref f8) = true)
    {f9 : Addr} {oc9 : Value} {od9 an9 : Option Addr} {sl9 : Array (Option Value)} {kV9 dc9 pm9 cd9 ct9 : Value} (a9 : PySem.W.nsIn K mainGlobals "_law_words" = some (some (.ref f9))) (l9 : K.lookup f9 = some ⟨oc9, od9, .func (PySem.W.fnOf "_law_words" "_law_words" (defArgs s__law_words) (defBody s__law_words) (defScope s__law_words) .none kV9 dc9 pm9 an9 cd9 ct9), sl9⟩) (c9 : PySem.W.codeIn K cd9 "_law_words" = true) (k9 : PySem.W.keepIn K (.ref f9) = true)
    {f10 : Addr} {oc10 : Value} {od10 an10 : Option Addr} {sl10 : Array (Option Value)} {kV10 dc10 pm10 cd10 ct10 : Value} (a10 : PySem.W.nsIn K mainGlobals "_law_near_word" = some (some (.ref f10))) (l10 : K.lookup f10 = some ⟨oc10, od10, .func (PySem.W.fnOf "_law_near_word" "_law_near_word" (defArgs s__law_near_word) (defBody s__law_near_word) (defScope s__law_near_word) .none kV10 dc10 pm10 an10 cd10 ct10), sl10⟩) (c10 : PySem.W.codeIn K cd10 "_law_near_word" = true) (k10 : PySem.W.keepIn K (.ref f10) = true)
    {f11 : Addr} {oc11 : Value} {od11 an11 : Option Addr} {sl11 : Array (Option Value)} {kV11 dc11 pm11 cd11 ct11 : Value} (a11 : PySem.W.nsIn K mainGlobals "_law_is_word" = some (some (.ref f11))) (l11 : K.lookup f11 = some ⟨oc11, od11, .func (PySem.W.fnOf "_law_is_word" "_law_is_word" (defArgs s__law_is_word) (defBody s__law_is_word) (defScope s__law_is_word) .none kV11 dc11 pm11 an11 cd11 ct11), sl11⟩) (c11 : PySem.W.codeIn K cd11 "_law_is_word" = true) (k11 : PySem.W.keepIn K (.ref f11) = true)
    {f12 : Addr} {oc12 : Value} {od12 an12 : Option Addr} {sl12 : Array (Option Value)} {kV12 dc12 pm12 cd12 ct12 : Value} (a12 : PySem.W.nsIn K mainGlobals "_law_near_number" = some (some (.ref f12))) (l12 : K.lookup f12 = some ⟨oc12, od12, .func (PySem.W.fnOf "_law_near_number" "_law_near_number" (defArgs s__law_near_number) (defBody s__law_near_number) (defScope s__law_near_number) .none kV12 dc12 pm12 an12 cd12 ct12), sl12⟩) (c12 : PySem.W.codeIn K cd12 "_law_near_number" = true) (k12 : PySem.W.keepIn K (.ref f12) = true)
    {f13 : Addr} {oc13 : Value} {od13 an13 : Option Addr} {sl13 : Array (Option Value)} {kV13 dc13 pm13 cd13 ct13 : Value} (a13 : PySem.W.nsIn K mainGlobals "_law_is_value" = some (some (.ref f13))) (l13 : K.lookup f13 = some ⟨oc13, od13, .func (PySem.W.fnOf "_law_is_value" "_law_is_value" (defArgs s__law_is_value) (defBody s__law_is_value) (defScope s__law_is_value) .none kV13 dc13 pm13 an13 cd13 ct13), sl13⟩) (c13 : PySem.W.codeIn K cd13 "_law_is_value" = true) (k13 : PySem.W.keepIn K (.ref f13) = true)
    {f14 : Addr} {oc14 : Value} {od14 an14 : Option Addr} {sl14 : Array (Option Value)} {kV14 dc14 pm14 cd14 ct14 : Value} (a14 : PySem.W.nsIn K mainGlobals "_law_column" = some (some (.ref f14))) (l14 : K.lookup f14 = some ⟨oc14, od14, .func (PySem.W.fnOf "_law_column" "_law_column" (defArgs s__law_column) (defBody s__law_column) (defScope s__law_column) .none kV14 dc14 pm14 an14 cd14 ct14), sl14⟩) (c14 : PySem.W.codeIn K cd14 "_law_column" = true) (k14 : PySem.W.keepIn K (.ref f14) = true)
    {f15 : Addr} {oc15 : Value} {od15 an15 : Option Addr} {sl15 : Array (Option Value)} {kV15 dc15 pm15 cd15 ct15 : Value} (a15 : PySem.W.nsIn K mainGlobals "_law_columns" = some (some (.ref f15))) (l15 : K.lookup f15 = some ⟨oc15, od15, .func (PySem.W.fnOf "_law_columns" "_law_columns" (defArgs s__law_columns) (defBody s__law_columns) (defScope s__law_columns) .none kV15 dc15 pm15 an15 cd15 ct15), sl15⟩) (c15 : PySem.W.codeIn K cd15 "_law_columns" = true) (k15 : PySem.W.keepIn K (.ref f15) = true)
    {f16 : Addr} {oc16 : Value} {od16 an16 : Option Addr} {sl16 : Array (Option Value)} {kV16 dc16 pm16 cd16 ct16 : Value} (a16 : PySem.W.nsIn K mainGlobals "_law_spoil_columns" = some (some (.ref f16))) (l16 : K.lookup f16 = some ⟨oc16, od16, .func (PySem.W.fnOf "_law_spoil_columns" "_law_spoil_columns" (defArgs s__law_spoil_columns) (defBody s__law_spoil_columns) (defScope s__law_spoil_columns) .none kV16 dc16 pm16 an16 cd16 ct16), sl16⟩) (c16 : PySem.W.codeIn K cd16 "_law_spoil_columns" = true) (k16 : PySem.W.keepIn K (.ref f16) = true)
    {f17 : Addr} {oc17 : Value} {od17 an17 : Option Addr} {sl17 : Array (Option Value)} {kV17 dc17 pm17 cd17 ct17 : Value} (a17 : PySem.W.nsIn K mainGlobals "_law_is_schema" = some (some (.ref f17))) (l17 : K.lookup f17 = some ⟨oc17, od17, .func (PySem.W.fnOf "_law_is_schema" "_law_is_schema" (defArgs s__law_is_schema) (defBody s__law_is_schema) (defScope s__law_is_schema) .none kV17 dc17 pm17 an17 cd17 ct17), sl17⟩) (c17 : PySem.W.codeIn K cd17 "_law_is_schema" = true) (k17 : PySem.W.keepIn K (.ref f17) = true)
    {f18 : Addr} {oc18 : Value} {od18 an18 : Option Addr} {sl18 : Array (Option Value)} {kV18 dc18 pm18 cd18 ct18 : Value} (a18 : PySem.W.nsIn K mainGlobals "_law_takes_schema" = some (some (.ref f18))) (l18 : K.lookup f18 = some ⟨oc18, od18, .func (PySem.W.fnOf "_law_takes_schema" "_law_takes_schema" (defArgs s__law_takes_schema) (defBody s__law_takes_schema) (defScope s__law_takes_schema) .none kV18 dc18 pm18 an18 cd18 ct18), sl18⟩) (c18 : PySem.W.codeIn K cd18 "_law_takes_schema" = true) (k18 : PySem.W.keepIn K (.ref f18) = true)
    {f19 : Addr} {oc19 : Value} {od19 an19 : Option Addr} {sl19 : Array (Option Value)} {kV19 dc19 pm19 cd19 ct19 : Value} (a19 : PySem.W.nsIn K mainGlobals "law" = some (some (.ref f19))) (l19 : K.lookup f19 = some ⟨oc19, od19, .func (PySem.W.fnOf "law" "law" (defArgs s_law) (defBody s_law) (defScope s_law) .none kV19 dc19 pm19 an19 cd19 ct19), sl19⟩) (c19 : PySem.W.codeIn K cd19 "law" = true) (k19 : PySem.W.keepIn K (.ref f19) = true)
    (z0 : PySem.W.nsIn K mainGlobals "len" = some none)
    (z1 : PySem.W.nsIn K mainGlobals "int" = some none)
    (z2 : PySem.W.nsIn K mainGlobals "str" = some none)
    (z3 : PySem.W.nsIn K mainGlobals "abs" = some none)
    (z4 : PySem.W.nsIn K mainGlobals "min" = some none)
    (z5 : PySem.W.nsIn K mainGlobals "max" = some none)
    (z6 : PySem.W.nsIn K mainGlobals "sum" = some none)
    (z7 : PySem.W.nsIn K mainGlobals "any" = some none)
    (z8 : PySem.W.nsIn K mainGlobals "all" = some none)
    (z9 : PySem.W.nsIn K mainGlobals "sorted" = some none)
    (z10 : PySem.W.nsIn K mainGlobals "list" = some none)
    (z11 : PySem.W.nsIn K mainGlobals "tuple" = some none)
    (z12 : PySem.W.nsIn K mainGlobals "ord" = some none)
    (z13 : PySem.W.nsIn K mainGlobals "bool" = some none)
    (z14 : PySem.W.nsIn K mainGlobals "isinstance" = some none)
    (z15 : PySem.W.nsIn K mainGlobals "range" = some none)
    (z16 : PySem.W.nsIn K mainGlobals "set" = some none)
    (z17 : PySem.W.nsIn K mainGlobals "dict" = some none)
    {t0 : Tok} (g0 : PySem.W.nsIn K mainGlobals "GREATEST_NUMBER" = some (some (.int 999999 t0)))
    {t1 : Tok} (g1 : PySem.W.nsIn K mainGlobals "LETTERS" = some (some (.str "abcdefghijklmnopqrstuvwxyz" t1)))
    {t2 : Tok} (g2 : PySem.W.nsIn K mainGlobals "LONGEST_WORD" = some (some (.int 12 t2)))
    {t3 : Tok} (g3 : PySem.W.nsIn K mainGlobals "MOST_COLUMNS" = some (some (.int 6 t3)))
    {C0 : Addr} (xa0 : PySem.W.nsIn K mainGlobals "ShedError" = some (some (.ref C0))) (xb0 : PySem.W.excIn K C0 [.type "ValueError", .type "Exception", .type "BaseException", .type "object"] "ValueError.__new__" = true) (xk0 : PySem.W.keepIn K (.ref C0) = true) (xs0 : PySem.W.subIn K (.ref C0) (.type "BaseException") = some true) (xt0 : PySem.W.typeIn K (.ref C0) = some (.type "type")) (xg0 : PySem.W.findIn K (.ref C0) "__getattribute__" = some (some (.builtin "BaseException.__getattribute__"))) (xh0 : PySem.W.findIn K (.ref C0) "__getattr__" = some none) (xd0 : PySem.W.hasDictIn K C0 = true) (xc0 : PySem.W.findIn K (.ref C0) "__class__" = some (some (.builtin "object.__class__"))) (xm0 : PySem.W.mroIn K C0 (.type "object") = some true)
    {C1 : Addr} (xa1 : PySem.W.nsIn K mainGlobals "InvalidSchema" = some (some (.ref C1))) (xb1 : PySem.W.excIn K C1 [.type "ValueError", .type "Exception", .type "BaseException", .type "object"] "ValueError.__new__" = true) (xk1 : PySem.W.keepIn K (.ref C1) = true) (xs1 : PySem.W.subIn K (.ref C1) (.type "BaseException") = some true) (xt1 : PySem.W.typeIn K (.ref C1) = some (.type "type")) (xg1 : PySem.W.findIn K (.ref C1) "__getattribute__" = some (some (.builtin "BaseException.__getattribute__"))) (xh1 : PySem.W.findIn K (.ref C1) "__getattr__" = some none) (xd1 : PySem.W.hasDictIn K C1 = true) (xc1 : PySem.W.findIn K (.ref C1) "__class__" = some (some (.builtin "object.__class__"))) (xm1 : PySem.W.mroIn K C1 (.type "object") = some true)
    (xp : PySem.W.specialIn K (.builtin "object.__class__") "__get__" = some (some (.builtin "getset_descriptor.__get__"))) (xq : PySem.W.takesIn K (.builtin "object.__class__") = some true)
    (xe0_0 : PySem.W.subIn K (.ref C0) (.ref C0) = some true)
    (xe0_1 : PySem.W.subIn K (.ref C0) (.ref C1) = some false)
    (xe1_0 : PySem.W.subIn K (.ref C1) (.ref C0) = some true)
    (xe1_1 : PySem.W.subIn K (.ref C1) (.ref C1) = some true) : ProgIn K mg (glo C0 C1) where
  fns := fun d m => by
    have m : d ∈ fs := m
    unfold fs at m
    rcases List.mem_cons.mp m with rfl | m
    · exact fi_is_word (PySem.W.mg_of X G a0) l0 c0 k0
    rcases List.mem_cons.mp m with rfl | m
    · exact fi_is_number (PySem.W.mg_of X G a1) l1 c1 k1
    rcases List.mem_cons.mp m with rfl | m
    · exact fi_is_ascending (PySem.W.mg_of X G a2) l2 c2 k2
    rcases List.mem_cons.mp m with rfl | m
    · exact fi_is_schema (PySem.W.mg_of X G a3) l3 c3 k3
    rcases List.mem_cons.mp m with rfl | m
    · exact fi_is_column (PySem.W.mg_of X G a4) l4 c4 k4
    rcases List.mem_cons.mp m with rfl | m
    · exact fi_check_schema (PySem.W.mg_of X G a5) l5 c5 k5
    rcases List.mem_cons.mp m with rfl | m
    · exact fi__law_cell (PySem.W.mg_of X G a6) l6 c6 k6
    rcases List.mem_cons.mp m with rfl | m
    · exact fi__law_draw (PySem.W.mg_of X G a7) l7 c7 k7
    rcases List.mem_cons.mp m with rfl | m
    · exact fi__law_word (PySem.W.mg_of X G a8) l8 c8 k8
    rcases List.mem_cons.mp m with rfl | m
    · exact fi__law_words (PySem.W.mg_of X G a9) l9 c9 k9
    rcases List.mem_cons.mp m with rfl | m
    · exact fi__law_near_word (PySem.W.mg_of X G a10) l10 c10 k10
    rcases List.mem_cons.mp m with rfl | m
    · exact fi__law_is_word (PySem.W.mg_of X G a11) l11 c11 k11
    rcases List.mem_cons.mp m with rfl | m
    · exact fi__law_near_number (PySem.W.mg_of X G a12) l12 c12 k12
    rcases List.mem_cons.mp m with rfl | m
    · exact fi__law_is_value (PySem.W.mg_of X G a13) l13 c13 k13
    rcases List.mem_cons.mp m with rfl | m
    · exact fi__law_column (PySem.W.mg_of X G a14) l14 c14 k14
    rcases List.mem_cons.mp m with rfl | m
    · exact fi__law_columns (PySem.W.mg_of X G a15) l15 c15 k15
    rcases List.mem_cons.mp m with rfl | m
    · exact fi__law_spoil_columns (PySem.W.mg_of X G a16) l16 c16 k16
    rcases List.mem_cons.mp m with rfl | m
    · exact fi__law_is_schema (PySem.W.mg_of X G a17) l17 c17 k17
    rcases List.mem_cons.mp m with rfl | m
    · exact fi__law_takes_schema (PySem.W.mg_of X G a18) l18 c18 k18
    rcases List.mem_cons.mp m with rfl | m
    · exact fi_law (PySem.W.mg_of X G a19) l19 c19 k19
    · cases m
  blt := fun x m => by
    unfold bltNames at m
    rcases List.mem_cons.mp m with rfl | m
    · exact PySem.W.mg_none_of X G z0
    rcases List.mem_cons.mp m with rfl | m
    · exact PySem.W.mg_none_of X G z1
    rcases List.mem_cons.mp m with rfl | m
    · exact PySem.W.mg_none_of X G z2
    rcases List.mem_cons.mp m with rfl | m
    · exact PySem.W.mg_none_of X G z3
    rcases List.mem_cons.mp m with rfl | m
    · exact PySem.W.mg_none_of X G z4
    rcases List.mem_cons.mp m with rfl | m
    · exact PySem.W.mg_none_of X G z5
    rcases List.mem_cons.mp m with rfl | m
    · exact PySem.W.mg_none_of X G z6
    rcases List.mem_cons.mp m with rfl | m
    · exact PySem.W.mg_none_of X G z7
    rcases List.mem_cons.mp m with rfl | m
    · exact PySem.W.mg_none_of X G z8
    rcases List.mem_cons.mp m with rfl | m
    · exact PySem.W.mg_none_of X G z9
    rcases List.mem_cons.mp m with rfl | m
    · exact PySem.W.mg_none_of X G z10
    rcases List.mem_cons.mp m with rfl | m
    · exact PySem.W.mg_none_of X G z11
    rcases List.mem_cons.mp m with rfl | m
    · exact PySem.W.mg_none_of X G z12
    rcases List.mem_cons.mp m with rfl | m
    · exact PySem.W.mg_none_of X G z13
    rcases List.mem_cons.mp m with rfl | m
    · exact PySem.W.mg_none_of X G z14
    rcases List.mem_cons.mp m with rfl | m
    · exact PySem.W.mg_none_of X G z15
    rcases List.mem_cons.mp m with rfl | m
    · exact PySem.W.mg_none_of X G z16
    rcases List.mem_cons.mp m with rfl | m
    · exact PySem.W.mg_none_of X G z17
    · cases m
  glo := fun x d h => by
    have h : gls.lookup x = some d := h
    unfold gls at h
    rw [List.lookup_cons] at h
    split at h
    · rename_i e; rw [eq_of_beq e]; cases h; exact ⟨_, .int 999999, PySem.W.mg_of X G g0, ⟨_, rfl⟩, fun _ _ => .int _⟩
    rw [List.lookup_cons] at h
    split at h
    · rename_i e; rw [eq_of_beq e]; cases h; exact ⟨_, .str "abcdefghijklmnopqrstuvwxyz", PySem.W.mg_of X G g1, ⟨_, rfl⟩, fun _ _ => .str _⟩
    rw [List.lookup_cons] at h
    split at h
    · rename_i e; rw [eq_of_beq e]; cases h; exact ⟨_, .int 12, PySem.W.mg_of X G g2, ⟨_, rfl⟩, fun _ _ => .int _⟩
    rw [List.lookup_cons] at h
    split at h
    · rename_i e; rw [eq_of_beq e]; cases h; exact ⟨_, .int 6, PySem.W.mg_of X G g3, ⟨_, rfl⟩, fun _ _ => .int _⟩
    cases h
  exc := fun k m => by
    have m : k ∈ xc.xs := m
    unfold xc at m
    rcases List.mem_cons.mp m with rfl | m
    · refine ⟨⟨C0, by rfl, PySem.W.mg_of X G xa0, xb0, xk0, xs0, xt0, ⟨xg0, xh0, xs0, xd0, xc0, xp, xq, xm0⟩⟩, fun j m => ?_⟩
      have m : j ∈ xc.xs := m
      unfold xc at m
      rcases List.mem_cons.mp m with rfl | m
      · exact ⟨(PySem.W.exm_ref xs0 xd0 xt0 xe0_0).trans (congrArg some (xs_ShedError_ShedError).symm), (kit_ref xt0 xd0 xe0_0 xe0_0).trans (congrArg some (xs_ShedError_ShedError).symm)⟩
      rcases List.mem_cons.mp m with rfl | m
      · exact ⟨(PySem.W.exm_ref xs1 xd1 xt1 xe0_1).trans (congrArg some (xs_ShedError_InvalidSchema).symm), (kit_ref xt1 xd1 xe0_1 xe0_0).trans (congrArg some (xs_ShedError_InvalidSchema).symm)⟩
      cases m
    rcases List.mem_cons.mp m with rfl | m
    · refine ⟨⟨C1, by rfl, PySem.W.mg_of X G xa1, xb1, xk1, xs1, xt1, ⟨xg1, xh1, xs1, xd1, xc1, xp, xq, xm1⟩⟩, fun j m => ?_⟩
      have m : j ∈ xc.xs := m
      unfold xc at m
      rcases List.mem_cons.mp m with rfl | m
      · exact ⟨(PySem.W.exm_ref xs0 xd0 xt0 xe1_0).trans (congrArg some (xs_InvalidSchema_ShedError).symm), (kit_ref xt0 xd0 xe1_0 xe1_1).trans (congrArg some (xs_InvalidSchema_ShedError).symm)⟩
      rcases List.mem_cons.mp m with rfl | m
      · exact ⟨(PySem.W.exm_ref xs1 xd1 xt1 xe1_1).trans (congrArg some (xs_InvalidSchema_InvalidSchema).symm), (kit_ref xt1 xd1 xe1_1 xe1_1).trans (congrArg some (xs_InvalidSchema_InvalidSchema).symm)⟩
      cases m
    cases m
theorem find_law : findF fs "law" = some d_law := by rfl
theorem fn_law {P : Program} {w : World} {K : PySem.W.Frag} {mg : Str → Option Value} {base : Heap} {f : Addr} {oc : Value} {od an : Option Addr} {osl : Array (Option Value)} {kV doc pm cdv ct : Value} {C0 C1 : Addr} (PI : ProgIn K mg (glo C0 C1)) (l : K.lookup f = some ⟨oc, od, .func (PySem.W.fnOf "law" "law" (defArgs s_law) (defBody s_law) (defScope s_law) .none kV doc pm an cdv ct), osl⟩) (c : PySem.W.codeIn K cdv "law" = true) (k : PySem.W.keepIn K (.ref f) = true) :
    FnOk P w K mg base (L2.CX P w) (4 * 50 + 4) f (PySem.W.fnOf "law" "law" (defArgs s_law) (defBody s_law) (defScope s_law) .none kV doc pm an cdv ct) ["script"] (spLaw K pr 51) :=
  law_ok (d := d_law) (N := ["script", "cell", "names", "columns", "kind", "given"]) PI (find_law) rfl rfl (fun_mk l c k) rfl rfl sc_law ck_law
end Pg
namespace Pg
open PySem PySem.W PySem.Spec L2 FW
theorem top_ok {P : Program} {w : World} {K : PySem.W.Frag} {mg : Str → Option Value} {h : Heap} {fa : Addr} (X : K.In h) (G : h.Ns mainGlobals mg) (hfa : mg "law" = some (.ref fa))
    {f0 : Addr} {oc0 : Value} {od0 an0 : Option Addr} {sl0 : Array (Option Value)} {kV0 dc0 pm0 cd0 ct0 : Value} (a0 : PySem.W.nsIn K mainGlobals "is_word" = some (some (.ref f0))) (l0 : K.lookup f0 = some ⟨oc0, od0, .func (PySem.W.fnOf "is_word" "is_word" (defArgs s_is_word) (defBody s_is_word) (defScope s_is_word) .none kV0 dc0 pm0 an0 cd0 ct0), sl0⟩) (c0 : PySem.W.codeIn K cd0 "is_word" = true) (k0 : PySem.W.keepIn K (.ref f0) = true)
    {f1 : Addr} {oc1 : Value} {od1 an1 : Option Addr} {sl1 : Array (Option Value)} {kV1 dc1 pm1 cd1 ct1 : Value} (a1 : PySem.W.nsIn K mainGlobals "is_number" = some (some (.ref f1))) (l1 : K.lookup f1 = some ⟨oc1, od1, .func (PySem.W.fnOf "is_number" "is_number" (defArgs s_is_number) (defBody s_is_number) (defScope s_is_number) .none kV1 dc1 pm1 an1 cd1 ct1), sl1⟩) (c1 : PySem.W.codeIn K cd1 "is_number" = true) (k1 : PySem.W.keepIn K (.ref f1) = true)
    {f2 : Addr} {oc2 : Value} {od2 an2 : Option Addr} {sl2 : Array (Option Value)} {kV2 dc2 pm2 cd2 ct2 : Value} (a2 : PySem.W.nsIn K mainGlobals "is_ascending" = some (some (.ref f2))) (l2 : K.lookup f2 = some ⟨oc2, od2, .func (PySem.W.fnOf "is_ascending" "is_ascending" (defArgs s_is_ascending) (defBody s_is_ascending) (defScope s_is_ascending) .none kV2 dc2 pm2 an2 cd2 ct2), sl2⟩) (c2 : PySem.W.codeIn K cd2 "is_ascending" = true) (k2 : PySem.W.keepIn K (.ref f2) = true)
    {f3 : Addr} {oc3 : Value} {od3 an3 : Option Addr} {sl3 : Array (Option Value)} {kV3 dc3 pm3 cd3 ct3 : Value} (a3 : PySem.W.nsIn K mainGlobals "is_schema" = some (some (.ref f3))) (l3 : K.lookup f3 = some ⟨oc3, od3, .func (PySem.W.fnOf "is_schema" "is_schema" (defArgs s_is_schema) (defBody s_is_schema) (defScope s_is_schema) .none kV3 dc3 pm3 an3 cd3 ct3), sl3⟩) (c3 : PySem.W.codeIn K cd3 "is_schema" = true) (k3 : PySem.W.keepIn K (.ref f3) = true)
    {f4 : Addr} {oc4 : Value} {od4 an4 : Option Addr} {sl4 : Array (Option Value)} {kV4 dc4 pm4 cd4 ct4 : Value} (a4 : PySem.W.nsIn K mainGlobals "is_column" = some (some (.ref f4))) (l4 : K.lookup f4 = some ⟨oc4, od4, .func (PySem.W.fnOf "is_column" "is_column" (defArgs s_is_column) (defBody s_is_column) (defScope s_is_column) .none kV4 dc4 pm4 an4 cd4 ct4), sl4⟩) (c4 : PySem.W.codeIn K cd4 "is_column" = true) (k4 : PySem.W.keepIn K (.ref f4) = true)
    {f5 : Addr} {oc5 : Value} {od5 an5 : Option Addr} {sl5 : Array (Option Value)} {kV5 dc5 pm5 cd5 ct5 : Value} (a5 : PySem.W.nsIn K mainGlobals "check_schema" = some (some (.ref f5))) (l5 : K.lookup f5 = some ⟨oc5, od5, .func (PySem.W.fnOf "check_schema" "check_schema" (defArgs s_check_schema) (defBody s_check_schema) (defScope s_check_schema) .none kV5 dc5 pm5 an5 cd5 ct5), sl5⟩) (c5 : PySem.W.codeIn K cd5 "check_schema" = true) (k5 : PySem.W.keepIn K (.ref f5) = true)
    {f6 : Addr} {oc6 : Value} {od6 an6 : Option Addr} {sl6 : Array (Option Value)} {kV6 dc6 pm6 cd6 ct6 : Value} (a6 : PySem.W.nsIn K mainGlobals "_law_cell" = some (some (.ref f6))) (l6 : K.lookup f6 = some ⟨oc6, od6, .func (PySem.W.fnOf "_law_cell" "_law_cell" (defArgs s__law_cell) (defBody s__law_cell) (defScope s__law_cell) .none kV6 dc6 pm6 an6 cd6 ct6), sl6⟩) (c6 : PySem.W.codeIn K cd6 "_law_cell" = true) (k6 : PySem.W.keepIn K (.ref f6) = true)
    {f7 : Addr} {oc7 : Value} {od7 an7 : Option Addr} {sl7 : Array (Option Value)} {kV7 dc7 pm7 cd7 ct7 : Value} (a7 : PySem.W.nsIn K mainGlobals "_law_draw" = some (some (.ref f7))) (l7 : K.lookup f7 = some ⟨oc7, od7, .func (PySem.W.fnOf "_law_draw" "_law_draw" (defArgs s__law_draw) (defBody s__law_draw) (defScope s__law_draw) .none kV7 dc7 pm7 an7 cd7 ct7), sl7⟩) (c7 : PySem.W.codeIn K cd7 "_law_draw" = true) (k7 : PySem.W.keepIn K (.ref f7) = true)
    {f8 : Addr} {oc8 : Value} {od8 an8 : Option Addr} {sl8 : Array (Option Value)} {kV8 dc8 pm8 cd8 ct8 : Value} (a8 : PySem.W.nsIn K mainGlobals "_law_word" = some (some (.ref f8))) (l8 : K.lookup f8 = some ⟨oc8, od8, .func (PySem.W.fnOf "_law_word" "_law_word" (defArgs s__law_word) (defBody s__law_word) (defScope s__law_word) .none kV8 dc8 pm8 an8 cd8 ct8), sl8⟩) (c8 : PySem.W.codeIn K cd8 "_law_word" = true) (k8 : PySem.W.keepIn K (.ref f8) = true)
    {f9 : Addr} {oc9 : Value} {od9 an9 : Option Addr} {sl9 : Array (Option Value)} {kV9 dc9 pm9 cd9 ct9 : Value} (a9 : PySem.W.nsIn K mainGlobals "_law_words" = some (some (.ref f9))) (l9 : K.lookup f9 = some ⟨oc9, od9, .func (PySem.W.fnOf "_law_words" "_law_words" (defArgs s__law_words) (defBody s__law_words) (defScope s__law_words) .none kV9 dc9 pm9 an9 cd9 ct9), sl9⟩) (c9 : PySem.W.codeIn K cd9 "_law_words" = true) (k9 : PySem.W.keepIn K (.ref f9) = true)
    {f10 : Addr} {oc10 : Value} {od10 an10 : Option Addr} {sl10 : Array (Option Value)} {kV10 dc10 pm10 cd10 ct10 : Value} (a10 : PySem.W.nsIn K mainGlobals "_law_near_word" = some (some (.ref f10))) (l10 : K.lookup f10 = some ⟨oc10, od10, .func (PySem.W.fnOf "_law_near_word" "_law_near_word" (defArgs s__law_near_word) (defBody s__law_near_word) (defScope s__law_near_word) .none kV10 dc10 pm10 an10 cd10 ct10), sl10⟩) (c10 : PySem.W.codeIn K cd10 "_law_near_word" = true) (k10 : PySem.W.keepIn K (.ref f10) = true)
    {f11 : Addr} {oc11 : Value} {od11 an11 : Option Addr} {sl11 : Array (Option Value)} {kV11 dc11 pm11 cd11 ct11 : Value} (a11 : PySem.W.nsIn K mainGlobals "_law_is_word" = some (some (.ref f11))) (l11 : K.lookup f11 = some ⟨oc11, od11, .func (PySem.W.fnOf "_law_is_word" "_law_is_word" (defArgs s__law_is_word) (defBody s__law_is_word) (defScope s__law_is_word) .none kV11 dc11 pm11 an11 cd11 ct11), sl11⟩) (c11 : PySem.W.codeIn K cd11 "_law_is_word" = true) (k11 : PySem.W.keepIn K (.ref f11) = true)
    {f12 : Addr} {oc12 : Value} {od12 an12 : Option Addr} {sl12 : Array (Option Value)} {kV12 dc12 pm12 cd12 ct12 : Value} (a12 : PySem.W.nsIn K mainGlobals "_law_near_number" = some (some (.ref f12))) (l12 : K.lookup f12 = some ⟨oc12, od12, .func (PySem.W.fnOf "_law_near_number" "_law_near_number" (defArgs s__law_near_number) (defBody s__law_near_number) (defScope s__law_near_number) .none kV12 dc12 pm12 an12 cd12 ct12), sl12⟩) (c12 : PySem.W.codeIn K cd12 "_law_near_number" = true) (k12 : PySem.W.keepIn K (.ref f12) = true)
    {f13 : Addr} {oc13 : Value} {od13 an13 : Option Addr} {sl13 : Array (Option Value)} {kV13 dc13 pm13 cd13 ct13 : Value} (a13 : PySem.W.nsIn K mainGlobals "_law_is_value" = some (some (.ref f13))) (l13 : K.lookup f13 = some ⟨oc13, od13, .func (PySem.W.fnOf "_law_is_value" "_law_is_value" (defArgs s__law_is_value) (defBody s__law_is_value) (defScope s__law_is_value) .none kV13 dc13 pm13 an13 cd13 ct13), sl13⟩) (c13 : PySem.W.codeIn K cd13 "_law_is_value" = true) (k13 : PySem.W.keepIn K (.ref f13) = true)
    {f14 : Addr} {oc14 : Value} {od14 an14 : Option Addr} {sl14 : Array (Option Value)} {kV14 dc14 pm14 cd14 ct14 : Value} (a14 : PySem.W.nsIn K mainGlobals "_law_column" = some (some (.ref f14))) (l14 : K.lookup f14 = some ⟨oc14, od14, .func (PySem.W.fnOf "_law_column" "_law_column" (defArgs s__law_column) (defBody s__law_column) (defScope s__law_column) .none kV14 dc14 pm14 an14 cd14 ct14), sl14⟩) (c14 : PySem.W.codeIn K cd14 "_law_column" = true) (k14 : PySem.W.keepIn K (.ref f14) = true)
    {f15 : Addr} {oc15 : Value} {od15 an15 : Option Addr} {sl15 : Array (Option Value)} {kV15 dc15 pm15 cd15 ct15 : Value} (a15 : PySem.W.nsIn K mainGlobals "_law_columns" = some (some (.ref f15))) (l15 : K.lookup f15 = some ⟨oc15, od15, .func (PySem.W.fnOf "_law_columns" "_law_columns" (defArgs s__law_columns) (defBody s__law_columns) (defScope s__law_columns) .none kV15 dc15 pm15 an15 cd15 ct15), sl15⟩) (c15 : PySem.W.codeIn K cd15 "_law_columns" = true) (k15 : PySem.W.keepIn K (.ref f15) = true)
    {f16 : Addr} {oc16 : Value} {od16 an16 : Option Addr} {sl16 : Array (Option Value)} {kV16 dc16 pm16 cd16 ct16 : Value} (a16 : PySem.W.nsIn K mainGlobals "_law_spoil_columns" = some (some (.ref f16))) (l16 : K.lookup f16 = some ⟨oc16, od16, .func (PySem.W.fnOf "_law_spoil_columns" "_law_spoil_columns" (defArgs s__law_spoil_columns) (defBody s__law_spoil_columns) (defScope s__law_spoil_columns) .none kV16 dc16 pm16 an16 cd16 ct16), sl16⟩) (c16 : PySem.W.codeIn K cd16 "_law_spoil_columns" = true) (k16 : PySem.W.keepIn K (.ref f16) = true)
    {f17 : Addr} {oc17 : Value} {od17 an17 : Option Addr} {sl17 : Array (Option Value)} {kV17 dc17 pm17 cd17 ct17 : Value} (a17 : PySem.W.nsIn K mainGlobals "_law_is_schema" = some (some (.ref f17))) (l17 : K.lookup f17 = some ⟨oc17, od17, .func (PySem.W.fnOf "_law_is_schema" "_law_is_schema" (defArgs s__law_is_schema) (defBody s__law_is_schema) (defScope s__law_is_schema) .none kV17 dc17 pm17 an17 cd17 ct17), sl17⟩) (c17 : PySem.W.codeIn K cd17 "_law_is_schema" = true) (k17 : PySem.W.keepIn K (.ref f17) = true)
    {f18 : Addr} {oc18 : Value} {od18 an18 : Option Addr} {sl18 : Array (Option Value)} {kV18 dc18 pm18 cd18 ct18 : Value} (a18 : PySem.W.nsIn K mainGlobals "_law_takes_schema" = some (some (.ref f18))) (l18 : K.lookup f18 = some ⟨oc18, od18, .func (PySem.W.fnOf "_law_takes_schema" "_law_takes_schema" (defArgs s__law_takes_schema) (defBody s__law_takes_schema) (defScope s__law_takes_schema) .none kV18 dc18 pm18 an18 cd18 ct18), sl18⟩) (c18 : PySem.W.codeIn K cd18 "_law_takes_schema" = true) (k18 : PySem.W.keepIn K (.ref f18) = true)
    {f19 : Addr} {oc19 : Value} {od19 an19 : Option Addr} {sl19 : Array (Option Value)} {kV19 dc19 pm19 cd19 ct19 : Value} (a19 : PySem.W.nsIn K mainGlobals "law" = some (some (.ref f19))) (l19 : K.lookup f19 = some ⟨oc19, od19, .func (PySem.W.fnOf "law" "law" (defArgs s_law) (defBody s_law) (defScope s_law) .none kV19 dc19 pm19 an19 cd19 ct19), sl19⟩) (c19 : PySem.W.codeIn K cd19 "law" = true) (k19 : PySem.W.keepIn K (.ref f19) = true)
    (z0 : PySem.W.nsIn K mainGlobals "len" = some none)
    (z1 : PySem.W.nsIn K mainGlobals "int" = some none)
    (z2 : PySem.W.nsIn K mainGlobals "str" = some none)
    (z3 : PySem.W.nsIn K mainGlobals "abs" = some none)
    (z4 : PySem.W.nsIn K mainGlobals "min" = some none)
    (z5 : PySem.W.nsIn K mainGlobals "max" = some none)
    (z6 : PySem.W.nsIn K mainGlobals "sum" = some none)
    (z7 : PySem.W.nsIn K mainGlobals "any" = some none)
    (z8 : PySem.W.nsIn K mainGlobals "all" = some none)
    (z9 : PySem.W.nsIn K mainGlobals "sorted" = some none)
    (z10 : PySem.W.nsIn K mainGlobals "list" = some none)
    (z11 : PySem.W.nsIn K mainGlobals "tuple" = some none)
    (z12 : PySem.W.nsIn K mainGlobals "ord" = some none)
    (z13 : PySem.W.nsIn K mainGlobals "bool" = some none)
    (z14 : PySem.W.nsIn K mainGlobals "isinstance" = some none)
    (z15 : PySem.W.nsIn K mainGlobals "range" = some none)
    (z16 : PySem.W.nsIn K mainGlobals "set" = some none)
    (z17 : PySem.W.nsIn K mainGlobals "dict" = some none)
    {t0 : Tok} (g0 : PySem.W.nsIn K mainGlobals "GREATEST_NUMBER" = some (some (.int 999999 t0)))
    {t1 : Tok} (g1 : PySem.W.nsIn K mainGlobals "LETTERS" = some (some (.str "abcdefghijklmnopqrstuvwxyz" t1)))
    {t2 : Tok} (g2 : PySem.W.nsIn K mainGlobals "LONGEST_WORD" = some (some (.int 12 t2)))
    {t3 : Tok} (g3 : PySem.W.nsIn K mainGlobals "MOST_COLUMNS" = some (some (.int 6 t3)))
    {C0 : Addr} (xa0 : PySem.W.nsIn K mainGlobals "ShedError" = some (some (.ref C0))) (xb0 : PySem.W.excIn K C0 [.type "ValueError", .type "Exception", .type "BaseException", .type "object"] "ValueError.__new__" = true) (xk0 : PySem.W.keepIn K (.ref C0) = true) (xs0 : PySem.W.subIn K (.ref C0) (.type "BaseException") = some true) (xt0 : PySem.W.typeIn K (.ref C0) = some (.type "type")) (xg0 : PySem.W.findIn K (.ref C0) "__getattribute__" = some (some (.builtin "BaseException.__getattribute__"))) (xh0 : PySem.W.findIn K (.ref C0) "__getattr__" = some none) (xd0 : PySem.W.hasDictIn K C0 = true) (xc0 : PySem.W.findIn K (.ref C0) "__class__" = some (some (.builtin "object.__class__"))) (xm0 : PySem.W.mroIn K C0 (.type "object") = some true)
    {C1 : Addr} (xa1 : PySem.W.nsIn K mainGlobals "InvalidSchema" = some (some (.ref C1))) (xb1 : PySem.W.excIn K C1 [.type "ValueError", .type "Exception", .type "BaseException", .type "object"] "ValueError.__new__" = true) (xk1 : PySem.W.keepIn K (.ref C1) = true) (xs1 : PySem.W.subIn K (.ref C1) (.type "BaseException") = some true) (xt1 : PySem.W.typeIn K (.ref C1) = some (.type "type")) (xg1 : PySem.W.findIn K (.ref C1) "__getattribute__" = some (some (.builtin "BaseException.__getattribute__"))) (xh1 : PySem.W.findIn K (.ref C1) "__getattr__" = some none) (xd1 : PySem.W.hasDictIn K C1 = true) (xc1 : PySem.W.findIn K (.ref C1) "__class__" = some (some (.builtin "object.__class__"))) (xm1 : PySem.W.mroIn K C1 (.type "object") = some true)
    (xp : PySem.W.specialIn K (.builtin "object.__class__") "__get__" = some (some (.builtin "getset_descriptor.__get__"))) (xq : PySem.W.takesIn K (.builtin "object.__class__") = some true)
    (xe0_0 : PySem.W.subIn K (.ref C0) (.ref C0) = some true)
    (xe0_1 : PySem.W.subIn K (.ref C0) (.ref C1) = some false)
    (xe1_0 : PySem.W.subIn K (.ref C1) (.ref C0) = some true)
    (xe1_1 : PySem.W.subIn K (.ref C1) (.ref C1) = some true) :
    ∃ fd : FuncData, (∀ (s : Shared) (u : Value), BindsTo s fd ⟨[u], []⟩ [("script", u)]) ∧ ∀ base : Heap, K.In base → base.Ns mainGlobals mg → FnOk P w K mg base (L2.CX P w) (4 * 50 + 4) fa fd ["script"] (spLaw K pr 51) := by
  have e := hfa.symm.trans (PySem.W.mg_of X G a19)
  cases e
  have PI := facts X G a0 l0 c0 k0 a1 l1 c1 k1 a2 l2 c2 k2 a3 l3 c3 k3 a4 l4 c4 k4 a5 l5 c5 k5 a6 l6 c6 k6 a7 l7 c7 k7 a8 l8 c8 k8 a9 l9 c9 k9 a10 l10 c10 k10 a11 l11 c11 k11 a12 l12 c12 k12 a13 l13 c13 k13 a14 l14 c14 k14 a15 l15 c15 k15 a16 l16 c16 k16 a17 l17 c17 k17 a18 l18 c18 k18 a19 l19 c19 k19 z0 z1 z2 z3 z4 z5 z6 z7 z8 z9 z10 z11 z12 z13 z14 z15 z16 z17 g0 g1 g2 g3 xa0 xb0 xk0 xs0 xt0 xg0 xh0 xd0 xc0 xm0 xa1 xb1 xk1 xs1 xt1 xg1 xh1 xd1 xc1 xm1 xp xq xe0_0 xe0_1 xe1_0 xe1_1
  exact ⟨PySem.W.fnOf "law" "law" (defArgs s_law) (defBody s_law) (defScope s_law) .none kV19 dc19 pm19 an19 cd19 ct19, fun s v => .of_eq rfl, fun base _ _ => fn_law PI l19 c19 k19⟩
end Pg

namespace Pg
open PySem PySem.W FW
theorem cell_spec (n : Nat) (S : Hs) (ns : List Int) (k : Nat) : ∃ r : Int, callN pr (n + 1) "_law_cell" [.list (ns.map .int), .int k] S = .ok (false, .int r) S := by
  rw [cl__law_cell]
  by_cases h : (k : Int) < ns.length
  · have e : L2.atI (ns.map PyData.int) (k : Int) = some (.int (ns[k]'(by omega))) := by
      rw [atI_list (by rw [List.length_map]; omega), List.getElem_map]
    simp! [b__law_cell, List.length_map, h, e]
    exact ⟨_, rfl⟩
  · simp! [b__law_cell, List.length_map, h]
    exact ⟨_, rfl⟩

theorem draw_loop (n : Nat) (S : Hs) (m : Int) (c k : FW.D) : ∀ (xs : List FW.D) (r : Int) (s : Sl), ∃ r', forB ⟨callN pr n, gls⟩ pr.xc pr.L (.one 4) l0__law_draw [4] xs [.fz c, .fz k, .fz (.int m), .fz (.int r), s] S = .nx [.fz c, .fz k, .fz (.int m), .fz (.int r'), .no] S
  | [], r, s => ⟨r, rfl⟩
  | x :: xs, r, s => by
    obtain ⟨r', h⟩ := draw_loop n S m c k xs (r / 1000) (.fz x)
    refine ⟨r', ?_⟩
    rw [forB_cons]
    simp! [wipeL, bindTg, u_l0__law_draw, List.foldl_cons, List.foldl_nil]
    exact h
theorem draw_spec (n : Nat) (S : Hs) (c k m : Int) (hk : 0 ≤ k) (hk2 : k < 1000000) (hm : 0 < m) : ∃ r : Int, 0 ≤ r ∧ r < m ∧ callN pr (n + 1) "_law_draw" [.int c, .int k, .int m] S = .ok (false, .int r) S := by
  rw [cl__law_draw]
  by_cases h : (if c < 0 then -c else c) < 1000000000000000000
  · simp! [b__law_draw, hm, h]
    exact ⟨_, (emod_in hm).1, (emod_in hm).2, rfl⟩
  · obtain ⟨r', hl⟩ := draw_loop n S m (.int c) (.int k) ((List.range k.toNat).map fun (k : Nat) => .int (0 + k)) (if c < 0 then -c else c) .no
    simp! [b__law_draw, hm, h, rangeD_of_le hk (by omega), hl]
    exact ⟨_, (emod_in hm).1, (emod_in hm).2, rfl⟩

/-- a word of small letters -/
def isW (w : Str) : Prop := 1 ≤ w.length ∧ w.length ≤ 12 ∧ ∀ c, c ∈ w.cps.toList → 97 ≤ c ∧ c ≤ 122
theorem letters_at : ∀ i : Fin 26, ("abcdefghijklmnopqrstuvwxyz" : Str).cps.toList[i.val]? = some (97 + i.val) := by decide +kernel
theorem letters_len : ("abcdefghijklmnopqrstuvwxyz" : Str).length = 26 := by decide +kernel
theorem letter_at (x : Nat) : ixD (.str "abcdefghijklmnopqrstuvwxyz") (.int ((x : Int) % 26)) = some (.str ⟨#[97 + x % 26]⟩) := by
  have e0 : (x : Int) % 26 = ((x % 26 : Nat) : Int) := by omega
  have hj2 : x % 26 < 26 := Nat.mod_lt _ (by decide)
  rw [ix_str (by rw [letters_len]; decide), e0]
  have e := letters_at ⟨x % 26, hj2⟩
  have hl : x % 26 < ("abcdefghijklmnopqrstuvwxyz" : Str).cps.toList.length := by rw [← str_len, letters_len]; exact hj2
  rw [atI_list hl]
  rw [List.getElem?_eq_getElem hl] at e
  have e := Option.some.inj e
  show some (PyData.str ⟨#[("abcdefghijklmnopqrstuvwxyz" : Str).cps.toList[x % 26]]⟩) = _
  rw [e]
def lettersR : Nat → Nat → List Nat
  | 0, _ => []
  | f + 1, n => if n / 26 = 0 then [] else (97 + n / 26 % 26) :: lettersR f (n / 26)
def lettersV : List Nat → Nat
  | [] => 0
  | c :: cs => (c - 97) + 26 * lettersV cs
theorem lettersR_val : ∀ f n, n < 26 ^ (f + 1) → lettersV ((97 + n % 26) :: lettersR f n) = n
  | 0, n, h => by rw [lettersR, lettersV, lettersV]; omega
  | f + 1, n, h => by
    rw [lettersR, lettersV]
    split
    · rw [lettersV]; omega
    · have : 26 ^ (f + 1 + 1) = 26 ^ (f + 1) * 26 := Nat.pow_succ ..
      have ih := lettersR_val f (n / 26) (by omega)
      rw [ih]; omega
theorem lettersR_len : ∀ f n, (lettersR f n).length ≤ f
  | 0, _ => Nat.le_refl 0
  | f + 1, n => by
    rw [lettersR]
    split
    · exact Nat.zero_le _
    · rw [List.length_cons]; exact Nat.succ_le_succ (lettersR_len f _)
theorem lettersR_ok : ∀ f n c, c ∈ lettersR f n → 97 ≤ c ∧ c ≤ 122
  | 0, _, c, h => by cases h
  | f + 1, n, c, h => by
    rw [lettersR] at h
    split at h
    · cases h
    · rcases List.mem_cons.mp h with rfl | h
      · omega
      · exact lettersR_ok f _ c h
/-- the word of a number -/
def wordL (n : Nat) : List Nat := (97 + n % 26) :: lettersR 11 n
def wordS (n : Nat) : Str := ⟨(wordL n).toArray⟩
theorem cp_word (n : Nat) : cp (wordS n) = wordL n := cp_mk _
theorem word_isW (n : Nat) : isW (wordS n) := by
  have h : (wordL n).length = (lettersR 11 n).length + 1 := rfl
  have h2 := lettersR_len 11 n
  refine ⟨by rw [cp_len, cp_word, h]; omega, by rw [cp_len, cp_word, h]; omega, fun c hc => ?_⟩
  rw [show (wordS n).cps.toList = wordL n from cp_word n] at hc
  rcases List.mem_cons.mp hc with rfl | hc
  · omega
  · exact lettersR_ok 11 n c hc
theorem word_inj {n m : Nat} (hn : n < 26 ^ 12) (hm : m < 26 ^ 12) (h : wordS n = wordS m) : n = m := by
  have e : wordL n = wordL m := by rw [← cp_word, ← cp_word, h]
  have e1 := lettersR_val 11 n hn
  have e2 := lettersR_val 11 m hm
  rw [← e1, ← e2]
  exact congrArg lettersV e
theorem word_loop (n : Nat) (S : Hs) : ∀ (xs : List FW.D) (x : Nat) (w : Str) (s : Sl), w.length + xs.length ≤ 100 → ∃ (x' : Int) (w' : Str), cp w' = cp w ++ lettersR xs.length x ∧
    forB ⟨callN pr n, gls⟩ pr.xc pr.L (.one 3) l0__law_word [3] xs [.fz (.int x), .fz (.str "abcdefghijklmnopqrstuvwxyz"), .fz (.str w), s] S = .nx [.fz (.int x'), .fz (.str "abcdefghijklmnopqrstuvwxyz"), .fz (.str w'), .no] S
  | [], x, w, s, _ => ⟨x, w, by rw [List.length_nil, lettersR, List.append_nil], rfl⟩
  | d :: xs, x, w, s, hl => by
    rw [List.length_cons] at hl
    rw [forB_cons]
    have e0 : (x : Int) / 26 = ((x / 26 : Nat) : Int) := by omega
    by_cases h : x / 26 = 0
    · have h' : ((x / 26 : Nat) : Int) = 0 := by omega
      refine ⟨(x : Int) / 26, w, by rw [List.length_cons, lettersR, if_pos h, List.append_nil], ?_⟩
      simp! [wipeL, bindTg, u_l0__law_word, List.foldl_cons, List.foldl_nil, e0, h']
    · have h' : ¬ ((x / 26 : Nat) : Int) = 0 := by omega
      have l1 : (⟨#[97 + x / 26 % 26]⟩ : Str).length = 1 := rfl
      have hl1 : w.length + (⟨#[97 + x / 26 % 26]⟩ : Str).length ≤ 16777216 := by omega
      obtain ⟨x', w', hw', e⟩ := word_loop n S xs (x / 26) (w ++ ⟨#[97 + x / 26 % 26]⟩) (.fz d) (by rw [str_app_len]; omega)
      refine ⟨x', w', by rw [hw', cp_app, cp_one, List.length_cons, lettersR, if_neg h, List.append_assoc]; rfl, ?_⟩
      simp! [wipeL, bindTg, u_l0__law_word, List.foldl_cons, List.foldl_nil, e0, h', letter_at, hl1]
      exact e
theorem word_of (n : Nat) (S : Hs) (x : Int) : callN pr (n + 1) "_law_word" [.int x] S = .ok (false, .str (wordS x.natAbs)) S := by
  rw [cl__law_word]
  have key : ∀ m : Nat, ∃ (x' : Int), forB ⟨callN pr n, gls⟩ pr.xc pr.L (.one 3) l0__law_word [3] ((List.range (11 : Int).toNat).map fun (k : Nat) => .int (0 + k)) [.fz (.int m), .fz (.str "abcdefghijklmnopqrstuvwxyz"), .fz (.str ⟨#[97 + m % 26]⟩), .no] S = .nx [.fz (.int x'), .fz (.str "abcdefghijklmnopqrstuvwxyz"), .fz (.str (wordS m)), .no] S := fun m => by
    obtain ⟨x', w', h, e⟩ := word_loop n S ((List.range (11 : Int).toNat).map fun (k : Nat) => .int (0 + k)) m ⟨#[97 + m % 26]⟩ .no (by rw [List.length_map, List.length_range]; show 1 + 11 ≤ 100; decide)
    have : w' = wordS m := by
      refine str_ext ?_
      show cp w' = cp _
      rw [h, cp_word, cp_one, List.length_map, List.length_range]; rfl
    subst this
    exact ⟨x', e⟩
  have r11 := rangeD_of_le (b := 11) (by decide) (by decide)
  by_cases h : x < 0
  · obtain ⟨m, rfl, hp⟩ : ∃ m : Nat, x = -(m : Int) ∧ 0 < m := ⟨x.natAbs, by omega, by omega⟩
    obtain ⟨x', e⟩ := key m
    have : (-(m : Int)).natAbs = m := by omega
    rw [this]
    simp! [b__law_word, h, Int.neg_neg, letter_at, r11, e]
  · obtain ⟨m, rfl⟩ := Int.eq_ofNat_of_zero_le (show 0 ≤ x by omega)
    obtain ⟨x', e⟩ := key m
    have : ((m : Nat) : Int).natAbs = m := by omega
    rw [this]
    simp! [b__law_word, h, letter_at, r11, e]
theorem word_spec (n : Nat) (S : Hs) (x : Int) : ∃ w : Str, isW w ∧ callN pr (n + 1) "_law_word" [.int x] S = .ok (false, .str w) S := ⟨_, word_isW _, word_of n S x⟩

/-- the words of a pool: each ahead of the next -/
def ascS (ws : List Str) : Prop := ws.Pairwise fun a b => sLt a b = true
theorem words_spec (n : Nat) (S : Hs) (c : Int) (m : Nat) (hm : m ≤ 1000) : ∃ ws : List Str, ws.length = m ∧ ascS ws ∧ (∀ w, w ∈ ws → isW w) ∧ callN pr (n + 2) "_law_words" [.int c, .int m] S = .ok (false, .list (ws.map .str)) S := by
  rw [cl__law_words]
  obtain ⟨M, hM⟩ : ∃ M : Int, (m : Int) = M := ⟨_, rfl⟩
  have hb := emod_in (a := if c < 0 then -c else c) (b := 308915776) (by decide)
  obtain ⟨b, eb⟩ : ∃ b : Nat, (if c < 0 then -c else c) % 308915776 = (b : Int) := ⟨((if c < 0 then -c else c) % 308915776).toNat, by omega⟩
  have hb2 : b < 308915776 := by omega
  have r := rangeD_of_le (b := (m : Int)) (by omega) (by omega)
  have hmm : ((m : Int).toNat) = m := by omega
  rw [hmm] at r
  rw [hM] at r ⊢
  have lc := lc_map' (f := lcF ⟨callN pr (n + 1), gls⟩ (.one 3) .nil e0__law_words [.fz (.int c), .fz (.int M), .fz (.int b), .no]) (S := S) (g := fun k : Nat => PyData.int (0 + k)) (h := fun k => .str (wordS (b + k))) (List.range m) (fun k _ => by
    have e := word_of n S ((b : Int) + k)
    have : ((b : Int) + k).natAbs = b + k := by omega
    rw [this] at e
    rw [lcF_eq (ρ' := [.fz (.int c), .fz (.int M), .fz (.int b), .fz (.int (0 + (k : Int)))]) rfl]
    simp! [u_e0__law_words, Int.zero_add, e]) (by rw [List.length_range]; omega)
  rw [show ((List.range m).map fun k => PyData.str (wordS (b + k))) = ((List.range m).map fun k => wordS (b + k)).map PyData.str by rw [List.map_map]; rfl] at lc
  have hs := sorted_strs ((List.range m).map fun k => wordS (b + k)) (by rw [List.length_map, List.length_range]; omega)
  refine ⟨sortS ((List.range m).map fun k => wordS (b + k)), by rw [sortS_len, List.length_map, List.length_range], sortS_asc _ ?_, fun w hw => ?_, ?_⟩
  · rw [List.nodup_iff_pairwise_ne, List.pairwise_map]
    have : (List.range m).Pairwise (· < ·) := List.pairwise_lt_range
    refine (List.Pairwise.and_mem.mp this).imp fun {i j} h e => ?_
    obtain ⟨h1, h2, h3⟩ := h
    rw [List.mem_range] at h1 h2
    have := word_inj (n := b + i) (m := b + j) (Nat.lt_of_lt_of_le (by omega : b + i < 308917776) (by decide)) (Nat.lt_of_lt_of_le (by omega : b + j < 308917776) (by decide)) e
    omega
  · obtain ⟨k, _, rfl⟩ := List.mem_map.mp ((sortS_perm _).mem_iff.mp hw)
    exact word_isW _
  · by_cases h : c < 0
    · rw [if_pos h] at eb
      simp! [b__law_words, h, eb, r, lc, hs]
    · rw [if_neg h] at eb
      simp! [b__law_words, h, eb, r, lc, hs]

def LET : Str := "abcdefghijklmnopqrstuvwxyz"
/-- a word, as both sides tell it -/
def wd (w : Str) : Bool := decide (1 ≤ w.length) && decide (w.length ≤ 12) && w.cps.toList.all fun c => inS c LET
theorem is_word_str (n : Nat) (S : Hs) (w : Str) (hl : w.length ≤ 1000) : callN pr (n + 1) "is_word" [.str w] S = .ok (false, .bool (wd w)) S := by
  rw [cl_is_word]
  have h1 : w.length ≤ 16777216 := by omega
  have hl2 : w.cps.toList.length ≤ 16777216 := by rw [← str_len]; exact h1
  by_cases h2 : (1 : Int) ≤ (w.length : Int)
  · by_cases h3 : (w.length : Int) ≤ 12
    · have e : wd w = w.cps.toList.all fun c => inS c LET := by
        unfold wd
        rw [decide_eq_true (by omega), decide_eq_true (by omega)]; rfl
      have lc := lc_map' (f := lcF ⟨callN pr n, gls⟩ (.one 1) .nil e0_is_word [.fz (.str w), .no]) (S := S) (g := fun c : Nat => PyData.str ⟨#[c]⟩) (h := fun c => .bool (inS c LET)) w.cps.toList (fun c _ => by
        rw [lcF_eq (ρ' := [.fz (.str w), .fz (.str ⟨#[c]⟩)]) rfl]
        simp! [u_e0_is_word, g_LETTERS, LET]) hl2
      rw [e]
      simp! [b_is_word, h1, h2, h3, g_LONGEST_WORD, lc]
    · have e : wd w = false := by
        unfold wd
        rw [decide_eq_false (p := w.length ≤ 12) (by omega)]; simp
      rw [e]
      simp! [b_is_word, h1, h2, h3, g_LONGEST_WORD]
  · have e : wd w = false := by
      unfold wd
      rw [decide_eq_false (p := 1 ≤ w.length) (by omega)]; simp
    rw [e]
    simp! [b_is_word, h1, h2]
theorem is_word_int (n : Nat) (S : Hs) (a : Int) : callN pr (n + 1) "is_word" [.int a] S = .ok (false, .bool false) S := by
  rw [cl_is_word]
  simp! [b_is_word]

theorem is_number_str (n : Nat) (S : Hs) (w : Str) : callN pr (n + 1) "is_number" [.str w] S = .ok (false, .bool false) S := by
  rw [cl_is_number]
  simp! [b_is_number]
/-- a number -/
def nb (a : Int) : Bool := if -999999 ≤ a then decide (a ≤ 999999) else false
theorem is_number_int (n : Nat) (S : Hs) (a : Int) : callN pr (n + 1) "is_number" [.int a] S = .ok (false, .bool (nb a)) S := by
  rw [cl_is_number]
  by_cases h : -999999 ≤ a
  · simp! [b_is_number, g_GREATEST_NUMBER, h, nb]
  · simp! [b_is_number, g_GREATEST_NUMBER, h, nb]

theorem lw_loop (n : Nat) (S : Hs) (v : FW.D) : ∀ (cs : List Nat) (s : Sl), forB ⟨callN pr n, gls⟩ pr.xc pr.L (.one 1) l0__law_is_word [1] (cs.map fun c => .str ⟨#[c]⟩) [.fz v, s] S = if cs.all (fun c => inS c LET) = true then .nx [.fz v, .no] S else .rt false (.bool false) S
  | [], s => rfl
  | c :: cs, s => by
    rw [List.map_cons, forB_cons, List.all_cons]
    have e : (Str.ofString "abcdefghijklmnopqrstuvwxyz") = LET := rfl
    cases h : inS c LET with
    | true =>
      simp! [wipeL, bindTg, u_l0__law_is_word, List.foldl_cons, List.foldl_nil, e, h]
      rw [lw_loop n S v cs]
    | false => simp! [wipeL, bindTg, u_l0__law_is_word, List.foldl_cons, List.foldl_nil, e, h]
theorem lw_spec (n : Nat) (S : Hs) (w : Str) (hl : w.length ≤ 1000) : callN pr (n + 1) "_law_is_word" [.str w] S = .ok (false, .bool (wd w)) S := by
  rw [cl__law_is_word]
  have h1 : w.length ≤ 16777216 := by omega
  by_cases h2 : (w.length : Int) < 1
  · have e : wd w = false := by
      unfold wd
      rw [decide_eq_false (p := 1 ≤ w.length) (by omega)]; simp
    rw [e]
    simp! [b__law_is_word, h1, h2]
  · by_cases h3 : (12 : Int) < (w.length : Int)
    · have e : wd w = false := by
        unfold wd
        rw [decide_eq_false (p := w.length ≤ 12) (by omega)]; simp
      rw [e]
      simp! [b__law_is_word, h1, h2, h3]
    · have e : wd w = w.cps.toList.all fun c => inS c LET := by
        unfold wd
        rw [decide_eq_true (by omega), decide_eq_true (by omega)]; rfl
      rw [e]
      cases h4 : w.cps.toList.all fun c => inS c LET with
      | true =>
        have q := lw_loop n S (.str w) w.cps.toList .no
        rw [h4, if_pos rfl] at q
        simp! [b__law_is_word, h1, h2, h3, q]
      | false =>
        have q := lw_loop n S (.str w) w.cps.toList .no
        rw [h4, if_neg Bool.false_ne_true] at q
        simp! [b__law_is_word, h1, h2, h3, q]

theorem near_word (n : Nat) (S : Hs) (c : Int) : ∃ w : Str, w.length ≤ 1000 ∧ callN pr (n + 2) "_law_near_word" [.int c] S = .ok (false, .str w) S := by
  rw [cl__law_near_word]
  obtain ⟨r, h0, h1, e1⟩ := draw_spec n S c 0 900 (by decide) (by decide) (by decide)
  obtain ⟨w, hw, e2⟩ := word_spec n S r
  obtain ⟨p, h2, h3, e3⟩ := draw_spec n S c 1 12 (by decide) (by decide) (by decide)
  have hw2 := hw.2.1
  have k1 : ∀ x : Str, x.length = 1 → w.length + x.length ≤ 16777216 := fun x h => by omega
  have k2 : ∀ x : Str, x.length ≤ 12 → x.length + w.length ≤ 16777216 := fun x h => by omega
  have l1 : ("A" : Str).length = 1 := by decide +kernel
  have l2 : (" " : Str).length = 1 := by decide +kernel
  have l3 : ("_" : Str).length = 1 := by decide +kernel
  have l4 : ("0" : Str).length = 1 := by decide +kernel
  have l5 : ("abcdefghijkl" : Str).length = 12 := by decide +kernel
  by_cases p0 : p = 0
  · exact ⟨"", by decide, by simp! [b__law_near_word, e1, e2, e3, p0]⟩
  by_cases p1 : p = 1
  · exact ⟨w ++ "A", by rw [str_app_len]; omega, by simp! [b__law_near_word, e1, e2, e3, p0, p1, k1 _ l1]⟩
  by_cases p2 : p = 2
  · exact ⟨w ++ " ", by rw [str_app_len]; omega, by simp! [b__law_near_word, e1, e2, e3, p0, p1, p2, k1 _ l2]⟩
  by_cases p3 : p = 3
  · exact ⟨"abcdefghijkl" ++ w, by rw [str_app_len]; omega, by simp! [b__law_near_word, e1, e2, e3, p0, p1, p2, p3, k2 _ (Nat.le_of_eq l5)]⟩
  by_cases p4 : p = 4
  · obtain ⟨c0, hc0⟩ : ∃ c0, L2.atI w.cps.toList 0 = some c0 := by
      have h1 : 0 < w.cps.toList.length := by rw [← str_len]; exact hw.1
      exact ⟨_, atI_list (k := 0) h1⟩
    have ix : ixD (.str w) (.int 0) = some (.str ⟨#[c0]⟩) := by rw [ix_str (by omega), hc0]; rfl
    have sl : slD (.str "abcdefghijklmnopqrstuvwxyz") none (some 11) = some (.str (L2.cutS "abcdefghijklmnopqrstuvwxyz" none (some 11))) := slD_str (by rw [letters_len]; decide)
    have sl2 : (L2.cutS "abcdefghijklmnopqrstuvwxyz" none (some 11)).length = 11 := by decide +kernel
    have l6 : (⟨#[c0]⟩ : Str).length = 1 := rfl
    exact ⟨L2.cutS "abcdefghijklmnopqrstuvwxyz" none (some 11) ++ ⟨#[c0]⟩, by rw [str_app_len]; omega, by simp! [b__law_near_word, e1, e2, e3, p0, p1, p2, p3, p4, ix, sl, sl2, l6]⟩
  by_cases p5 : p = 5
  · exact ⟨"0" ++ w, by rw [str_app_len]; omega, by simp! [b__law_near_word, e1, e2, e3, p0, p1, p2, p3, p4, p5, k2 _ (by omega : ("0" : Str).length ≤ 12)]⟩
  by_cases p6 : p = 6
  · exact ⟨w ++ "_", by rw [str_app_len]; omega, by simp! [b__law_near_word, e1, e2, e3, p0, p1, p2, p3, p4, p5, p6, k1 _ l3]⟩
  · exact ⟨w, by omega, by simp! [b__law_near_word, e1, e2, e3, p0, p1, p2, p3, p4, p5, p6]⟩
theorem near_number (n : Nat) (S : Hs) (c : Int) : ∃ a : Int, callN pr (n + 2) "_law_near_number" [.int c] S = .ok (false, .int a) S := by
  rw [cl__law_near_number]
  obtain ⟨p, h2, h3, e1⟩ := draw_spec n S c 0 10 (by decide) (by decide) (by decide)
  obtain ⟨r, h0, h1, e2⟩ := draw_spec n S c 1 3 (by decide) (by decide) (by decide)
  by_cases p0 : p = 0
  · exact ⟨_, by simp! [b__law_near_number, e1, e2, p0]; rfl⟩
  by_cases p1 : p = 1
  · exact ⟨_, by simp! [b__law_near_number, e1, e2, p0, p1]; rfl⟩
  · exact ⟨_, by simp! [b__law_near_number, e1, e2, p0, p1]; rfl⟩

/-- each ahead of the next -/
def ascR : List Str → Bool
  | a :: b :: r => sLt a b && ascR (b :: r)
  | _ => true
theorem ascR_range : ∀ ws : List Str, (List.range (ws.length - 1)).all (fun k => sLt (ws.getD k "") (ws.getD (k + 1) "")) = ascR ws
  | [] => rfl
  | [a] => rfl
  | a :: b :: r => by
    have ih := ascR_range (b :: r)
    rw [ascR, ← ih]
    simp only [List.length_cons, Nat.add_sub_cancel, List.range_succ_eq_map, List.all_cons, List.all_map, List.getD_cons_zero, List.getD_cons_succ]
    rfl
theorem isAsc_spec (n : Nat) (S : Hs) (ws : List Str) (hl : ws.length ≤ 1000) : callN pr (n + 1) "is_ascending" [.list (ws.map .str)] S = .ok (false, .bool (ascR ws)) S := by
  rw [cl_is_ascending]
  obtain ⟨L, hL⟩ : ∃ L : Int, (ws.length : Int) = L := ⟨_, rfl⟩
  have r : rangeD 0 (L - 1) = some ((List.range (ws.length - 1)).map fun (k : Nat) => .int (k : Int)) := by
    by_cases h : 0 ≤ L - 1
    · rw [rangeD_of_le h (by omega), range_eq]
      congr 3
      omega
    · have h0 : L = 0 := by omega
      have h1 : ws.length - 1 = 0 := by omega
      rw [h0, h1]; rfl
  have lc := lc_map' (f := lcF ⟨callN pr n, gls⟩ (.one 1) .nil e0_is_ascending [.fz (.list (ws.map .str)), .no]) (S := S) (g := fun k : Nat => PyData.int k) (h := fun k => .bool (sLt (ws.getD k "") (ws.getD (k + 1) ""))) (List.range (ws.length - 1)) (fun k hk => by
    have hk := List.mem_range.mp hk
    obtain ⟨K, hK⟩ : ∃ K : Int, (k : Int) = K := ⟨_, rfl⟩
    have i1 : L2.atI (ws.map PyData.str) K = some (.str (ws.getD k "")) := by
      rw [← hK]; refine atI_nat ?_
      rw [List.getElem?_map, List.getElem?_eq_getElem (by omega), List.getD_eq_getElem?_getD, List.getElem?_eq_getElem (by omega)]; rfl
    have i2 : L2.atI (ws.map PyData.str) (K + 1) = some (.str (ws.getD (k + 1) "")) := by
      rw [← hK, show ((k : Int) + 1) = ((k + 1 : Nat) : Int) by omega]; refine atI_nat ?_
      rw [List.getElem?_map, List.getElem?_eq_getElem (by omega), List.getD_eq_getElem?_getD, List.getElem?_eq_getElem (by omega)]; rfl
    rw [hK, lcF_eq (ρ' := [.fz (.list (ws.map .str)), .fz (.int K)]) rfl]
    simp! [u_e0_is_ascending, i1, i2]) (by rw [List.length_range]; omega)
  have ab := all_bools (fun k => sLt (ws.getD k "") (ws.getD (k + 1) "")) (List.range (ws.length - 1))
  rw [ascR_range] at ab
  simp! [b_is_ascending, List.length_map, hL, r, lc, ab]
theorem ascR_of : ∀ ws : List Str, ascS ws → ascR ws = true
  | [], _ => rfl
  | [a], _ => rfl
  | a :: b :: r, h => by
    have h1 := (List.pairwise_cons.mp h).1 b List.mem_cons_self
    rw [ascR, h1, ascR_of (b :: r) (List.pairwise_cons.mp h).2]; rfl

/-- a value, of any length and size -/
def sm : FW.D → Prop
  | .int _ => True
  | .str w => w.length ≤ 1000
  | _ => False
def wdV : FW.D → Bool
  | .int a => nb a
  | .str w => wd w
  | _ => false
theorem let_mem : ∀ c : Fin 26, inS (97 + c.val) LET = true := by decide +kernel
theorem wd_of {w : Str} (h : isW w) : wd w = true := by
  unfold wd
  rw [decide_eq_true h.1, decide_eq_true h.2.1, Bool.true_and, Bool.true_and, List.all_eq_true]
  intro c hc
  have := h.2.2 c hc
  have q := let_mem ⟨c - 97, by omega⟩
  rw [show 97 + (c - 97) = c by omega] at q
  exact q

theorem lawIsValue_spec (n : Nat) (S : Hs) (v : FW.D) (h : sm v) : callN pr (n + 2) "_law_is_value" [v] S = .ok (false, .bool (wdV v)) S := by
  rw [cl__law_is_value]
  cases v with
  | int a =>
    by_cases h : -999999 ≤ a
    · simp! [b__law_is_value, h]; simp [wdV, nb, h]
    · simp! [b__law_is_value, h]; simp [wdV, nb, h]
  | str w =>
    have e2 := lw_spec n S w h
    simp! [b__law_is_value, e2]; rfl
  | _ => cases h

/-! a walk that looks at each one and at the name ahead of it -/
def ahead (p : Option Str) (x : Str) : Bool := match p with | none => true | some q => sLt q x
def wk {α : Type} (nm : α → Str) (ok : α → Bool) : Option Str → List α → Bool
  | _, [] => true
  | p, f :: r => ok f && ahead p (nm f) && wk nm ok (some (nm f)) r
theorem wk_cons {α : Type} {nm : α → Str} {ok : α → Bool} (p : Option Str) (f : α) (r : List α) : wk nm ok p (f :: r) = (ok f && ahead p (nm f) && wk nm ok (some (nm f)) r) := by cases p <;> rfl
theorem wk_some {α : Type} {nm : α → Str} {ok : α → Bool} : ∀ (q : Str) (fs : List α), wk nm ok (some q) fs = (fs.all ok && ascR (q :: fs.map nm))
  | q, [] => rfl
  | q, f :: r => by
    rw [wk_cons, wk_some (nm f) r, List.all_cons, List.map_cons, ascR]
    show (ok f && sLt q (nm f) && _) = _
    cases ok f <;> cases sLt q (nm f) <;> simp
theorem wk_none {α : Type} {nm : α → Str} {ok : α → Bool} (fs : List α) : wk nm ok none fs = (fs.all ok && ascR (fs.map nm)) := by
  cases fs with
  | nil => rfl
  | cons f r =>
    rw [wk_cons, wk_some, List.all_cons, List.map_cons]
    show (ok f && true && _) = _
    cases ok f <;> simp
def prvN {α : Type} (nm : α → Str) (fs : List α) : Nat → Option Str
  | 0 => none
  | j + 1 => (fs[j]?).map nm

/-! ### columns -/
structure Col where
  n : Str
  s : Str
  v : FW.D
def Col.d (c : Col) : FW.D := .tuple [.str c.n, .str c.s, c.v]
def colB (c : Col) : Bool := wd c.n && (match c.v with | .int a => nb a && decide (c.s = "int") | .str w => wd w && decide (c.s = "word") | _ => false)
def schB (k : Str) (cs : List Col) : Bool := wd k && decide (cs.length ≤ 6) && (cs.all colB && ascR (cs.map (·.n)))
structure smC (c : Col) : Prop where
  n : c.n.length ≤ 1000
  s : c.s.length ≤ 1000
  v : sm c.v
theorem isColumn_spec (n : Nat) (S : Hs) (c : Col) (h : smC c) : callN pr (n + 2) "is_column" [c.d] S = .ok (false, .bool (colB c)) S := by
  rw [cl_is_column]
  obtain ⟨cn, cs, cv⟩ := c
  have b1 : bindTg (.many [1, 2, 3]) (Col.d ⟨cn, cs, cv⟩) [.fz (Col.d ⟨cn, cs, cv⟩), .no, .no, .no] = some [.fz (Col.d ⟨cn, cs, cv⟩), .fz (.str cn), .fz (.str cs), .fz cv] := rfl
  have w1 := is_word_str n S cn h.n
  cases hw : wd cn with
  | false => rw [hw] at w1; simp! [b_is_column, b1, w1]; simp [colB, hw]
  | true =>
    rw [hw] at w1
    cases cv with
    | int a =>
      have w2 := is_number_int n S a
      have w3 := is_word_int n S a
      by_cases h1 : cs = "int"
      · subst h1; simp! [b_is_column, b1, w1, w2]; simp [colB, hw]
      · by_cases h2 : cs = "word"
        · subst h2; simp! [b_is_column, b1, w1, w3, h1]; simp [colB, hw, h1]
        · simp! [b_is_column, b1, w1, h1, h2]; simp [colB, hw, h1]
    | str w =>
      have w2 := is_number_str n S w
      have w3 := is_word_str n S w h.v
      by_cases h1 : cs = "int"
      · have h2 : ¬ (Str.ofString "int") = "word" := by decide +kernel
        subst h1; simp! [b_is_column, b1, w1, w2]; simp [colB, hw, h2]
      · by_cases h2 : cs = "word"
        · subst h2; simp! [b_is_column, b1, w1, w3, h1]; simp [colB, hw]
        · simp! [b_is_column, b1, w1, h1, h2]; simp [colB, hw, h2]
    | _ => exact absurd h.v id
theorem isSchema_spec (n : Nat) (S : Hs) (k : Str) (cs : List Col) (hk : k.length ≤ 1000) (h : ∀ c, c ∈ cs → smC c) (hl : cs.length ≤ 1000) : callN pr (n + 3) "is_schema" [.str k, .list (cs.map Col.d)] S = .ok (false, .bool (schB k cs)) S := by
  rw [cl_is_schema]
  have w1 := is_word_str (n + 1) S k hk
  obtain ⟨L, hL⟩ : ∃ L : Int, (cs.length : Int) = L := ⟨_, rfl⟩
  unfold schB
  cases hw : wd k with
  | false => rw [hw] at w1; simp! [b_is_schema, w1]
  | true =>
    rw [hw] at w1
    by_cases h6 : 6 < L
    · rw [decide_eq_false (by omega)]
      simp! [b_is_schema, w1, List.length_map, hL, g_MOST_COLUMNS, h6]
    rw [decide_eq_true (by omega)]
    have lc1 := lc_map' (f := lcF ⟨callN pr (n + 2), gls⟩ (.many [3, 4, 5]) .nil e0_is_schema [.fz (.str k), .fz (.list (cs.map Col.d)), .no, .no, .no, .no, .no]) (S := S) (g := Col.d) (h := fun c => .str c.n) cs (fun c hc => by
      rw [lcF_eq (ρ' := [.fz (.str k), .fz (.list (cs.map Col.d)), .no, .fz (.str c.n), .fz (.str c.s), .fz c.v, .no]) rfl]
      simp! [u_e0_is_schema]) (by omega)
    rw [show cs.map (fun c => PyData.str c.n) = (cs.map (·.n)).map .str by rw [List.map_map]; rfl] at lc1
    have lc2 := lc_map' (f := lcF ⟨callN pr (n + 2), gls⟩ (.one 6) .nil e1_is_schema [.fz (.str k), .fz (.list (cs.map Col.d)), .fz (.list ((cs.map (·.n)).map .str)), .no, .no, .no, .no]) (S := S) (g := Col.d) (h := fun c => .bool (colB c)) cs (fun c hc => by
      have e := isColumn_spec n S c (h c hc)
      rw [lcF_eq (ρ' := [.fz (.str k), .fz (.list (cs.map Col.d)), .fz (.list ((cs.map (·.n)).map .str)), .no, .no, .no, .fz c.d]) rfl]
      simp! [u_e1_is_schema, e]) (by omega)
    have ab := all_bools colB cs
    have as := isAsc_spec (n + 1) S (cs.map (·.n)) (by rw [List.length_map]; exact hl)
    cases ha : cs.all colB with
    | true => rw [ha] at ab; simp! [b_is_schema, w1, List.length_map, hL, g_MOST_COLUMNS, h6, lc1, lc2, ab, as]
    | false => rw [ha] at ab; simp! [b_is_schema, w1, List.length_map, hL, g_MOST_COLUMNS, h6, lc1, lc2, ab]

theorem checkSchema_spec (n : Nat) (S : Hs) (k : Str) (cs : List Col) (hk : k.length ≤ 1000) (h : ∀ c, c ∈ cs → smC c) (hl : cs.length ≤ 1000) : callN pr (n + 4) "check_schema" [.str k, .list (cs.map Col.d)] S = if schB k cs = true then .ok (false, .none) S else .exc "InvalidSchema" S := by
  rw [cl_check_schema]
  have e := isSchema_spec n S k cs hk h hl
  cases hb : schB k cs with
  | true => rw [hb] at e; simp! [b_check_schema, e]
  | false => rw [hb] at e; simp! [b_check_schema, e]
theorem takes_spec (n : Nat) (S : Hs) (k : Str) (cs : List Col) (hk : k.length ≤ 1000) (h : ∀ c, c ∈ cs → smC c) (hl : cs.length ≤ 1000) : callN pr (n + 5) "_law_takes_schema" [.str k, .list (cs.map Col.d)] S = .ok (false, if schB k cs = true then .bool true else .none) S := by
  rw [cl__law_takes_schema]
  have e := checkSchema_spec n S k cs hk h hl
  cases hb : schB k cs with
  | true => rw [hb, if_pos rfl] at e; simp! [b__law_takes_schema, e]
  | false =>
    rw [hb, if_neg Bool.false_ne_true] at e
    simp! [b__law_takes_schema, e, xi_InvalidSchema, xs_InvalidSchema_InvalidSchema, runHd, Hd.val, xs_InvalidSchema_ShedError]
theorem sch_loop (n : Nat) (S : Hs) (k : Str) (cs : List Col) (h : ∀ c, c ∈ cs → smC c) : ∀ (r j : Nat), j + r = cs.length → ∀ s2 s3 s4 s5 : Sl,
    forB ⟨callN pr (n + 2), gls⟩ pr.xc pr.L (.one 2) l0__law_is_schema [2, 3, 4, 5] ((List.range' j r).map fun (k : Nat) => .int (k : Int)) [.fz (.str k), .fz (.list (cs.map Col.d)), s2, s3, s4, s5] S = if wk Col.n colB (prvN Col.n cs j) (cs.drop j) = true then .nx [.fz (.str k), .fz (.list (cs.map Col.d)), .no, .no, .no, .no] S else .rt false (.bool false) S
  | 0, j, hj, s2, s3, s4, s5 => by
    rw [List.drop_eq_nil_of_le (by omega)]
    cases prvN Col.n cs j <;> rfl
  | r + 1, j, hj, s2, s3, s4, s5 => by
    have h1 : j < cs.length := by omega
    obtain ⟨J, hJ⟩ : ∃ J : Int, (j : Int) = J := ⟨_, rfl⟩
    have a1 : L2.atI (cs.map Col.d) J = some (cs[j].d) := by rw [← hJ, atI_list (by rw [List.length_map]; exact h1), List.getElem_map]
    have hf := h _ (List.getElem_mem h1)
    have e1 := lw_spec (n + 1) S cs[j].n hf.n
    have e2 := lawIsValue_spec n S cs[j].v hf.v
    have ih := sch_loop n S k cs h r (j + 1) (by omega)
    rw [List.drop_eq_getElem_cons h1, wk_cons]
    rw [List.range'_succ, List.map_cons, forB_cons, hJ]
    have ep : prvN Col.n cs (j + 1) = some cs[j].n := by rw [prvN, List.getElem?_eq_getElem h1]; rfl
    rw [ep] at ih
    have bt : ∀ ρ : List Sl, bindTg (.many [3, 4, 5]) cs[j].d ρ = some (setL [3, 4, 5] [.str cs[j].n, .str cs[j].s, cs[j].v] ρ) := fun _ => rfl
    rcases Bool.eq_false_or_eq_true (wd cs[j].n) with b1 | b1
    rotate_left
    · rw [b1] at e1
      have : colB cs[j] = false := by unfold colB; rw [b1]; rfl
      rw [this]
      simp! [u_l0__law_is_schema, a1, bt, setL, e1]
    rw [b1] at e1
    rcases Bool.eq_false_or_eq_true (wdV cs[j].v) with b2 | b2
    rotate_left
    · rw [b2] at e2
      have : colB cs[j] = false := by
        unfold colB; rw [b1]
        cases hv : cs[j].v with
        | int a => rw [hv] at b2; have b2 : nb a = false := b2; simp [b2]
        | str w => rw [hv] at b2; have b2 : wd w = false := b2; simp [b2]
        | _ => rfl
      rw [this]
      simp! [u_l0__law_is_schema, a1, bt, setL, e1, e2]
    rw [b2] at e2
    obtain ⟨T, hT1, hT2⟩ : ∃ T : Str, colB cs[j] = decide (cs[j].s = T) ∧ ((∃ a, cs[j].v = .int a) ∧ T = "int" ∨ (∃ w, cs[j].v = .str w) ∧ T = "word") := by
      cases hv : cs[j].v with
      | int a => rw [hv] at b2; have b2 : nb a = true := b2; exact ⟨"int", by unfold colB; rw [b1, hv]; simp [b2], .inl ⟨⟨_, rfl⟩, rfl⟩⟩
      | str w => rw [hv] at b2; have b2 : wd w = true := b2; exact ⟨"word", by unfold colB; rw [b1, hv]; simp [b2], .inr ⟨⟨_, rfl⟩, rfl⟩⟩
      | _ => have := hf.v; rw [hv] at this; exact absurd this id
    rw [hT1]
    have key : ∀ q : Sl, True := fun _ => trivial
    by_cases b3 : cs[j].s = T
    rotate_left
    · rw [decide_eq_false b3]
      rcases hT2 with ⟨⟨a, hv⟩, rfl⟩ | ⟨⟨w, hv⟩, rfl⟩
      · rw [hv] at e2
        simp! [u_l0__law_is_schema, a1, bt, setL, hv, e1, e2, b3]
      · rw [hv] at e2
        simp! [u_l0__law_is_schema, a1, bt, setL, hv, e1, e2, b3]
    rw [decide_eq_true b3, Bool.true_and]
    cases j with
    | zero =>
      have hJ0 : ¬ 0 < J := by omega
      rcases hT2 with ⟨⟨a, hv⟩, rfl⟩ | ⟨⟨w, hv⟩, rfl⟩
      · rw [hv] at e2
        simp! [u_l0__law_is_schema, a1, bt, setL, hv, e1, e2, b3, hJ0]
        simp only [prvN, ahead, Bool.true_and]
        exact ih _ _ _ _
      · rw [hv] at e2
        simp! [u_l0__law_is_schema, a1, bt, setL, hv, e1, e2, b3, hJ0]
        simp only [prvN, ahead, Bool.true_and]
        exact ih _ _ _ _
    | succ j =>
      have hJ0 : 0 < J := by omega
      have a2 : L2.atI (cs.map Col.d) (J - 1) = some cs[j].d := by rw [show J - 1 = (j : Int) by omega, atI_list (by rw [List.length_map]; omega), List.getElem_map]
      have i0 : ixD cs[j].d (.int 0) = some (.str cs[j].n) := rfl
      have ep : prvN Col.n cs (j + 1) = some cs[j].n := by rw [prvN, List.getElem?_eq_getElem (by omega)]; rfl
      rw [ep]
      simp only [ahead]
      rcases Bool.eq_false_or_eq_true (sLt cs[j].n cs[j + 1].n) with b4 | b4
      · rcases hT2 with ⟨⟨a, hv⟩, rfl⟩ | ⟨⟨w, hv⟩, rfl⟩
        · rw [hv] at e2
          simp! [u_l0__law_is_schema, a1, a2, i0, bt, setL, hv, e1, e2, b3, hJ0, b4]
          exact ih _ _ _ _
        · rw [hv] at e2
          simp! [u_l0__law_is_schema, a1, a2, i0, bt, setL, hv, e1, e2, b3, hJ0, b4]
          exact ih _ _ _ _
      · rcases hT2 with ⟨⟨a, hv⟩, rfl⟩ | ⟨⟨w, hv⟩, rfl⟩
        · rw [hv] at e2
          simp! [u_l0__law_is_schema, a1, a2, i0, bt, setL, hv, e1, e2, b3, hJ0, b4]
        · rw [hv] at e2
          simp! [u_l0__law_is_schema, a1, a2, i0, bt, setL, hv, e1, e2, b3, hJ0, b4]
theorem lawSchema_spec (n : Nat) (S : Hs) (k : Str) (cs : List Col) (hk : k.length ≤ 1000) (h : ∀ c, c ∈ cs → smC c) (hl : cs.length ≤ 1000) : callN pr (n + 3) "_law_is_schema" [.str k, .list (cs.map Col.d)] S = .ok (false, .bool (schB k cs)) S := by
  rw [cl__law_is_schema]
  have w1 := lw_spec (n + 1) S k hk
  obtain ⟨L, hL⟩ : ∃ L : Int, (cs.length : Int) = L := ⟨_, rfl⟩
  have lp := sch_loop n S k cs h cs.length 0 (by omega) .no .no .no .no
  have r : rangeD 0 L = some ((List.range' 0 cs.length).map fun (k : Nat) => .int (k : Int)) := by
    rw [rangeD_of_le (by omega) (by omega), range_eq, ← List.range_eq_range']
    congr 3; omega
  rw [List.drop_zero, prvN, wk_none] at lp
  unfold schB
  rcases Bool.eq_false_or_eq_true (wd k) with hw | hw
  rotate_left
  · rw [hw] at w1 ⊢; simp! [b__law_is_schema, w1]
  rw [hw] at w1 ⊢
  by_cases h6 : 6 < L
  · rw [decide_eq_false (by omega)]
    simp! [b__law_is_schema, w1, List.length_map, hL, h6]
  rw [decide_eq_true (by omega)]
  rcases Bool.eq_false_or_eq_true (cs.all colB && ascR (cs.map (·.n))) with hv | hv
  · rw [hv] at lp ⊢
    rw [if_pos rfl] at lp
    simp! [b__law_is_schema, w1, List.length_map, hL, h6, r, lp]
  · rw [hv] at lp ⊢
    rw [if_neg Bool.false_ne_true] at lp
    simp! [b__law_is_schema, w1, List.length_map, hL, h6, r, lp]
theorem column_spec (n : Nat) (S : Hs) (w : Str) (c k : Int) (hw : isW w) (hk : 0 ≤ k) (hk2 : k < 900000) : ∃ col : Col, smC col ∧ callN pr (n + 2) "_law_column" [.str w, .int c, .int k] S = .ok (false, col.d) S := by
  rw [cl__law_column]
  obtain ⟨p, p0, p1, ep⟩ := draw_spec n S c k 2 (by omega) (by omega) (by decide)
  obtain ⟨a, a0, a1, ea⟩ := draw_spec n S c (k + 1) 500 (by omega) (by omega) (by decide)
  obtain ⟨b, b0, b1, eb⟩ := draw_spec n S c (k + 1) 700 (by omega) (by omega) (by decide)
  have ew := word_of n S b
  have hl : w.length ≤ 1000 := Nat.le_trans hw.2.1 (by decide)
  by_cases h : p = 0
  · exact ⟨⟨w, "int", .int (a - 250)⟩, ⟨hl, (by decide +kernel : ("int" : Str).length ≤ 1000), trivial⟩, by simp! [b__law_column, ep, h, ea]; rfl⟩
  · exact ⟨⟨w, "word", .str (wordS b.natAbs)⟩, ⟨hl, (by decide +kernel : ("word" : Str).length ≤ 1000), Nat.le_trans (word_isW _).2.1 (by decide)⟩, by simp! [b__law_column, ep, h, eb, ew]; rfl⟩
theorem columns_spec (n : Nat) (S : Hs) (c : Int) (ws : List Str) (hl : ws.length ≤ 1000) (hw : ∀ w, w ∈ ws → isW w) : ∃ cs : List Col, cs.length = ws.length ∧ (∀ c, c ∈ cs → smC c) ∧ callN pr (n + 3) "_law_columns" [.int c, .list (ws.map .str)] S = .ok (false, .list (cs.map Col.d)) S := by
  rw [cl__law_columns]
  obtain ⟨L, hL⟩ : ∃ L : Int, (ws.length : Int) = L := ⟨_, rfl⟩
  obtain ⟨cs, h1, h2, h3⟩ := lc_choose (f := lcF ⟨callN pr (n + 2), gls⟩ (.one 2) .nil e0__law_columns [.fz (.int c), .fz (.list (ws.map .str)), .no]) (S := S) (g := fun k : Nat => PyData.int k) (h := Col.d) (P := fun _ c => smC c) (List.range ws.length) (fun k hk => by
    have hk : k < ws.length := List.mem_range.mp hk
    obtain ⟨K, hK⟩ : ∃ K : Int, (k : Int) = K := ⟨_, rfl⟩
    obtain ⟨col, hc, e⟩ := column_spec n S ws[k] c (3 + 2 * K) (hw _ (List.getElem_mem hk)) (by omega) (by omega)
    have ix : L2.atI (ws.map PyData.str) K = some (.str ws[k]) := by rw [← hK, atI_list (by rw [List.length_map]; exact hk), List.getElem_map]
    have m1 : bmul 2 K = true := bmul_l (by decide)
    refine ⟨col, hc, ?_⟩
    rw [hK, lcF_eq (ρ' := [.fz (.int c), .fz (.list (ws.map .str)), .fz (.int K)]) rfl]
    simp! [u_e0__law_columns, ix, m1, e]) [] (by rw [List.length_nil, List.length_range]; omega)
  rw [List.length_range] at h1
  rw [List.nil_append] at h3
  have r := rangeD_of_le (b := L) (by omega) (by omega)
  rw [show L.toNat = ws.length by omega, range_eq] at r
  refine ⟨cs, h1, fun c hc => ?_, ?_⟩
  · obtain ⟨_, _, h⟩ := h2 c hc
    exact h
  · simp! [b__law_columns, List.length_map, hL, r, h3]
theorem spoil_spec (n : Nat) (S : Hs) (c : Int) (cs : List Col) (h0 : 0 < cs.length) (hl : cs.length ≤ 100) (h : ∀ c, c ∈ cs → smC c) : ∃ ds : List Col, ds.length ≤ 1000 ∧ (∀ c, c ∈ ds → smC c) ∧ callN pr (n + 3) "_law_spoil_columns" [.list (cs.map Col.d), .int c] S = .ok (false, .list (ds.map Col.d)) S := by
  rw [cl__law_spoil_columns]
  obtain ⟨L, hL⟩ : ∃ L : Int, (cs.length : Int) = L := ⟨_, rfl⟩
  obtain ⟨a, a0, a1, ea⟩ := draw_spec (n + 1) S c 50 L (by decide) (by decide) (by omega)
  obtain ⟨p, p0, p1, ep⟩ := draw_spec (n + 1) S c 51 7 (by decide) (by decide) (by decide)
  obtain ⟨q, q0, q1, eq⟩ := draw_spec (n + 1) S c 52 4 (by decide) (by decide) (by decide)
  obtain ⟨w, hw1, e1⟩ := near_word n S c
  obtain ⟨m, e2⟩ := near_number n S c
  obtain ⟨k, hk⟩ : ∃ k : Nat, a = k := ⟨a.toNat, by omega⟩
  have hk2 : k < cs.length := by omega
  have ix : L2.atI (cs.map Col.d) a = some cs[k].d := by rw [hk, atI_list (by rw [List.length_map]; exact hk2), List.getElem_map]
  have hc := h _ (List.getElem_mem hk2)
  have bt : ∀ ρ : List Sl, bindTg (.many [3, 4, 5]) cs[k].d ρ = some (setL [3, 4, 5] [.str cs[k].n, .str cs[k].s, cs[k].v] ρ) := fun _ => rfl
  have s1 := slD_map Col.d cs none (some a)
  have s2 := slD_map Col.d cs (some (a + 1)) none
  have l1 := cutL_len cs none (some a)
  have l2 := cutL_len cs (some (a + 1)) none
  obtain ⟨t, ht⟩ : ∃ t : Str, t.length ≤ 1000 ∧ L2.atI [PyData.str "int", .str "word", .str "text", .str ""] q = some (.str t) := by
    have : q = 0 ∨ q = 1 ∨ q = 2 ∨ q = 3 := by omega
    rcases this with rfl | rfl | rfl | rfl
    · exact ⟨"int", by decide +kernel, atI_zero⟩
    · exact ⟨"word", by decide +kernel, atI_one⟩
    · exact ⟨"text", by decide +kernel, atI_two⟩
    · exact ⟨"", by decide +kernel, atI_three⟩
  have fin : ∀ d : Col, smC d → ∀ s3 s4 s5 : FW.D, d.d = .tuple [s3, s4, s5] → ∃ ds : List Col, ds.length ≤ 1000 ∧ (∀ c, c ∈ ds → smC c) ∧
      binD .add (.list ((cutL cs none (some a)).map Col.d)) (.list [.tuple [s3, s4, s5]]) = some (.list ((cutL cs none (some a) ++ [d]).map Col.d)) ∧
      binD .add (.list ((cutL cs none (some a) ++ [d]).map Col.d)) (.list ((cutL cs (some (a + 1)) none).map Col.d)) = some (.list (ds.map Col.d)) ∧ ds.length ≤ 300 := fun d hd s3 s4 s5 hs => by
    refine ⟨cutL cs none (some a) ++ [d] ++ cutL cs (some (a + 1)) none, ?_, fun x hx => ?_, ?_, ?_, ?_⟩
    · simp only [List.length_append, List.length_singleton]; omega
    · simp only [List.mem_append, List.mem_singleton] at hx
      rcases hx with (hx | rfl) | hx
      · exact h x (cutL_mem hx)
      · exact hd
      · exact h x (cutL_mem hx)
    · rw [add_list (by rw [List.length_map]; show _ + 1 ≤ _; omega), List.map_append, ← hs]; rfl
    · rw [add_list (by rw [List.length_map, List.length_map, List.length_append, List.length_singleton]; omega), ← List.map_append]
    · simp only [List.length_append, List.length_singleton]; omega
  by_cases h0 : p = 0
  · subst h0
    obtain ⟨ds, d1, d2, d3, d4, _⟩ := fin ⟨w, cs[k].s, cs[k].v⟩ ⟨hw1, hc.s, hc.v⟩ _ _ _ rfl
    exact ⟨ds, d1, d2, by simp! [b__law_spoil_columns, List.length_map, hL, ea, ep, ix, bt, setL, e1, s1, s2, d3, d4]⟩
  by_cases h1 : p = 1
  · subst h1
    obtain ⟨ds, d1, d2, d3, d4, _⟩ := fin ⟨cs[k].n, t, cs[k].v⟩ ⟨hc.n, ht.1, hc.v⟩ _ _ _ rfl
    exact ⟨ds, d1, d2, by simp! [b__law_spoil_columns, List.length_map, hL, ea, ep, ix, bt, setL, eq, ht.2, s1, s2, d3, d4]⟩
  by_cases h2 : p = 2
  · subst h2
    obtain ⟨ds, d1, d2, d3, d4, _⟩ := fin ⟨cs[k].n, cs[k].s, .int m⟩ ⟨hc.n, hc.s, trivial⟩ _ _ _ rfl
    exact ⟨ds, d1, d2, by simp! [b__law_spoil_columns, List.length_map, hL, ea, ep, ix, bt, setL, e2, s1, s2, d3, d4]⟩
  by_cases h3 : p = 3
  · subst h3
    obtain ⟨ds, d1, d2, d3, d4, _⟩ := fin ⟨cs[k].n, cs[k].s, .str w⟩ ⟨hc.n, hc.s, hw1⟩ _ _ _ rfl
    exact ⟨ds, d1, d2, by simp! [b__law_spoil_columns, List.length_map, hL, ea, ep, ix, bt, setL, e1, s1, s2, d3, d4]⟩
  obtain ⟨ds, d1, d2, d3, d4, d5⟩ := fin cs[k] hc _ _ _ rfl
  have c1 := slD_map Col.d ds none (some 1)
  have c2 := slD_map Col.d ds (some 1) none
  have m1 := cutL_len ds none (some 1)
  have m2 := cutL_len ds (some 1) none
  by_cases h4 : p = 4
  · subst h4
    have ad : binD .add (.list (ds.map Col.d)) (.list ((cutL ds none (some 1)).map Col.d)) = some (.list ((ds ++ cutL ds none (some 1)).map Col.d)) := by rw [add_list (by rw [List.length_map, List.length_map]; omega), ← List.map_append]
    refine ⟨ds ++ cutL ds none (some 1), by rw [List.length_append]; omega, fun x hx => ?_, by simp! [b__law_spoil_columns, List.length_map, hL, ea, ep, ix, bt, setL, s1, s2, d3, d4, c1, ad]⟩
    rcases List.mem_append.mp hx with hx | hx
    · exact d2 x hx
    · exact d2 x (cutL_mem hx)
  by_cases h5 : p = 5
  · subst h5
    have ad : binD .add (.list ((cutL ds (some 1) none).map Col.d)) (.list ((cutL ds none (some 1)).map Col.d)) = some (.list ((cutL ds (some 1) none ++ cutL ds none (some 1)).map Col.d)) := by rw [add_list (by rw [List.length_map, List.length_map]; omega), ← List.map_append]
    refine ⟨cutL ds (some 1) none ++ cutL ds none (some 1), by rw [List.length_append]; omega, fun x hx => ?_, by simp! [b__law_spoil_columns, List.length_map, hL, ea, ep, ix, bt, setL, s1, s2, d3, d4, c1, c2, ad]⟩
    rcases List.mem_append.mp hx with hx | hx
    · exact d2 x (cutL_mem hx)
    · exact d2 x (cutL_mem hx)
  · exact ⟨ds, d1, d2, by simp! [b__law_spoil_columns, List.length_map, hL, ea, ep, ix, bt, setL, h0, h1, h2, h3, h4, h5, s1, s2, d3, d4]⟩
theorem colD_flat {c : Col} (h : smC c) : flat 1 c.d := flat_tuple fun x hx => by
  simp only [List.mem_cons, List.not_mem_nil, or_false] at hx
  rcases hx with rfl | rfl | rfl
  · exact flat_str _ _
  · exact flat_str _ _
  · cases hv : c.v with
    | int a => exact flat_int _ _
    | str w => exact flat_str _ _
    | _ => have := h.v; rw [hv] at this; exact absurd this id
theorem law_loop (s0 : Sl) : ∀ (cs : List Int) (s1 s2 s3 s4 s5 : Sl), forB ⟨callN pr 50, gls⟩ pr.xc pr.L (.one 1) l0_law [1, 2, 3, 4, 5] (cs.map .int) [s0, s1, s2, s3, s4, s5] [] = .nx [s0, .no, .no, .no, .no, .no] []
  | [], s1, s2, s3, s4, s5 => rfl
  | c :: cs, s1, s2, s3, s4, s5 => by
    obtain ⟨p, p0, p1, ep⟩ := draw_spec 49 [] c 0 7 (by decide) (by decide) (by decide)
    have ep : callN pr 50 "_law_draw" [.int c, .int 0, .int 7] [] = .ok (false, .int p) [] := ep
    obtain ⟨m, hm⟩ : ∃ m : Nat, 1 + p = m := ⟨(1 + p).toNat, by omega⟩
    obtain ⟨ws, w1, _, w3, ew⟩ := words_spec 48 [] c m (by omega)
    have ew : callN pr 50 "_law_words" [.int c, .int (1 + p)] [] = .ok (false, .list (ws.map .str)) [] := by rw [hm]; exact ew
    obtain ⟨gs, g1, g2, eg⟩ := columns_spec 47 [] c ws (by omega) w3
    have eg : callN pr 50 "_law_columns" [.int c, .list (ws.map .str)] [] = .ok (false, .list (gs.map Col.d)) [] := eg
    obtain ⟨ds, d1, d2, ed⟩ := spoil_spec 47 [] c gs (by omega) (by omega) g2
    have ed : callN pr 50 "_law_spoil_columns" [.list (gs.map Col.d), .int c] [] = .ok (false, .list (ds.map Col.d)) [] := ed
    obtain ⟨k, hk, ek⟩ := near_word 48 [] (c + 1)
    have ek : callN pr 50 "_law_near_word" [.int (c + 1)] [] = .ok (false, .str k) [] := ek
    have e1 : callN pr 50 "_law_takes_schema" [.str k, .list (ds.map Col.d)] [] = .ok (false, if schB k ds = true then .bool true else .none) [] := takes_spec 45 [] k ds hk d2 d1
    have e2 : callN pr 50 "_law_is_schema" [.str k, .list (ds.map Col.d)] [] = .ok (false, .bool (schB k ds)) [] := lawSchema_spec 47 [] k ds hk d2 d1
    have fl : flat 2 (.list (ds.map Col.d)) := flat_list fun x hx => by
      obtain ⟨y, hy, rfl⟩ := List.mem_map.mp hx
      exact colD_flat (d2 y hy)
    have ne := ne_flat fl fl (by decide)
    rw [decide_eq_true rfl] at ne
    rw [List.map_cons, forB_cons]
    rcases Bool.eq_false_or_eq_true (schB k ds) with hb | hb
    · rw [hb] at e1 e2
      rw [if_pos rfl] at e1
      simp! [u_l0_law, ep, ew, eg, ed, ek, e1, e2, ne]
      exact law_loop s0 cs _ _ _ _ _
    · rw [hb] at e1 e2
      rw [if_neg Bool.false_ne_true] at e1
      simp! [u_l0_law, ep, ew, eg, ed, ek, e1, e2, ne]
      exact law_loop s0 cs _ _ _ _ _
theorem law_true (ns : List Int) (_ : ns.length ≤ 63) : ∃ S', callN pr 51 "law" [.list (ns.map .int)] [] = .ok (false, .bool true) S' := by
  refine ⟨[], ?_⟩
  rw [cl_law]
  obtain ⟨c, ec⟩ := cell_spec 49 [] ns 0
  have ec : callN pr 50 "_law_cell" [.list (ns.map .int), .int 0] [] = .ok (false, .int c) [] := ec
  have sl := slD_map PyData.int ns (some 1) (some 30)
  have hl : (cutL ns (some 1) (some 30)).length ≤ 29 := cut_some_len ns 1 30
  have ad : binD .add (.list [.int c]) (.list ((cutL ns (some 1) (some 30)).map .int)) = some (.list ((c :: cutL ns (some 1) (some 30)).map .int)) := add_list (by rw [List.length_map]; show 1 + _ ≤ _; omega)
  have lp := law_loop (.fz (.list (ns.map .int))) (c :: cutL ns (some 1) (some 30)) .no .no .no .no .no
  have t1 : callN pr 50 "_law_takes_schema" [.str "a", .list []] [] = .ok (false, .bool true) [] := by
    have := takes_spec 45 [] "a" [] (by decide +kernel) (fun _ h => nomatch h) (by decide)
    rw [if_pos (show schB "a" [] = true by decide +kernel)] at this
    exact this
  have t2 : callN pr 50 "_law_takes_schema" [.str "", .list []] [] = .ok (false, .none) [] := by
    have := takes_spec 45 [] "" [] (by decide +kernel) (fun _ h => nomatch h) (by decide)
    rw [if_neg (show ¬ schB "" [] = true by decide +kernel)] at this
    exact this
  simp! [b_law, ec, sl, ad, lp, t1, t2]

end Pg

open PySem PySem.W PyProof.Rows
set_option maxRecDepth 100000 in
set_option maxHeartbeats 0 in
theorem PySem.Challenge.cw_shedbook_k10_schemas_are_checked_holds : PySem.Challenge.rw_shedbook_k10_schemas_are_checked.Holds := by
  w_on; o_law; k_head; (case hw => w_witness2)
  k_fill
  refine FW.law_walk (l := PySem.Challenge.rw_shedbook_k10_schemas_are_checked) (p := Pg.pr) Pg.law_true rfl rfl FW.room_top (fun w h Y => PySem.W.kIn_of Y) ?F
  case F =>
    intro w mg fa h KX G hmg
    refine' Pg.top_ok KX G hmg ?h_a0 ?h_l0 ?h_c0 ?h_k0 ?h_a1 ?h_l1 ?h_c1 ?h_k1 ?h_a2 ?h_l2 ?h_c2 ?h_k2 ?h_a3 ?h_l3 ?h_c3 ?h_k3 ?h_a4 ?h_l4 ?h_c4 ?h_k4 ?h_a5 ?h_l5 ?h_c5 ?h_k5 ?h_a6 ?h_l6 ?h_c6 ?h_k6 ?h_a7 ?h_l7 ?h_c7 ?h_k7 ?h_a8 ?h_l8 ?h_c8 ?h_k8 ?h_a9 ?h_l9 ?h_c9 ?h_k9 ?h_a10 ?h_l10 ?h_c10 ?h_k10 ?h_a11 ?h_l11 ?h_c11 ?h_k11 ?h_a12 ?h_l12 ?h_c12 ?h_k12 ?h_a13 ?h_l13 ?h_c13 ?h_k13 ?h_a14 ?h_l14 ?h_c14 ?h_k14 ?h_a15 ?h_l15 ?h_c15 ?h_k15 ?h_a16 ?h_l16 ?h_c16 ?h_k16 ?h_a17 ?h_l17 ?h_c17 ?h_k17 ?h_a18 ?h_l18 ?h_c18 ?h_k18 ?h_a19 ?h_l19 ?h_c19 ?h_k19 ?h_z0 ?h_z1 ?h_z2 ?h_z3 ?h_z4 ?h_z5 ?h_z6 ?h_z7 ?h_z8 ?h_z9 ?h_z10 ?h_z11 ?h_z12 ?h_z13 ?h_z14 ?h_z15 ?h_z16 ?h_z17 ?h_g0 ?h_g1 ?h_g2 ?h_g3 ?h_xa0 ?h_xb0 ?h_xk0 ?h_xs0 ?h_xt0 ?h_xg0 ?h_xh0 ?h_xd0 ?h_xc0 ?h_xm0 ?h_xa1 ?h_xb1 ?h_xk1 ?h_xs1 ?h_xt1 ?h_xg1 ?h_xh1 ?h_xd1 ?h_xc1 ?h_xm1 ?h_xp ?h_xq ?h_xe0_0 ?h_xe0_1 ?h_xe1_0 ?h_xe1_1
    (case h_a0 => k_is)
    (case h_l0 => k_is)
    (case h_c0 => k_is)
    (case h_k0 => k_is)
    (case h_a1 => k_is)
    (case h_l1 => k_is)
    (case h_c1 => k_is)
    (case h_k1 => k_is)
    (case h_a2 => k_is)
    (case h_l2 => k_is)
    (case h_c2 => k_is)
    (case h_k2 => k_is)
    (case h_a3 => k_is)
    (case h_l3 => k_is)
    (case h_c3 => k_is)
    (case h_k3 => k_is)
    (case h_a4 => k_is)
    (case h_l4 => k_is)
    (case h_c4 => k_is)
    (case h_k4 => k_is)
    (case h_a5 => k_is)
    (case h_l5 => k_is)
    (case h_c5 => k_is)
    (case h_k5 => k_is)
    (case h_a6 => k_is)
    (case h_l6 => k_is)
    (case h_c6 => k_is)
    (case h_k6 => k_is)
    (case h_a7 => k_is)
    (case h_l7 => k_is)
    (case h_c7 => k_is)
    (case h_k7 => k_is)
    (case h_a8 => k_is)
    (case h_l8 => k_is)
    (case h_c8 => k_is)
    (case h_k8 => k_is)
    (case h_a9 => k_is)
    (case h_l9 => k_is)
    (case h_c9 => k_is)
    (case h_k9 => k_is)
    (case h_a10 => k_is)
    (case h_l10 => k_is)
    (case h_c10 => k_is)
    (case h_k10 => k_is)
    (case h_a11 => k_is)
    (case h_l11 => k_is)
    (case h_c11 => k_is)
    (case h_k11 => k_is)
    (case h_a12 => k_is)
    (case h_l12 => k_is)
    (case h_c12 => k_is)
    (case h_k12 => k_is)
    (case h_a13 => k_is)
    (case h_l13 => k_is)
    (case h_c13 => k_is)
    (case h_k13 => k_is)
    (case h_a14 => k_is)
    (case h_l14 => k_is)
    (case h_c14 => k_is)
    (case h_k14 => k_is)
    (case h_a15 => k_is)
    (case h_l15 => k_is)
    (case h_c15 => k_is)
    (case h_k15 => k_is)
    (case h_a16 => k_is)
    (case h_l16 => k_is)
    (case h_c16 => k_is)
    (case h_k16 => k_is)
    (case h_a17 => k_is)
    (case h_l17 => k_is)
    (case h_c17 => k_is)
    (case h_k17 => k_is)
    (case h_a18 => k_is)
    (case h_l18 => k_is)
    (case h_c18 => k_is)
    (case h_k18 => k_is)
    (case h_a19 => k_is)
    (case h_l19 => k_is)
    (case h_c19 => k_is)
    (case h_k19 => k_is)
    (case h_z0 => k_is)
    (case h_z1 => k_is)
    (case h_z2 => k_is)
    (case h_z3 => k_is)
    (case h_z4 => k_is)
    (case h_z5 => k_is)
    (case h_z6 => k_is)
    (case h_z7 => k_is)
    (case h_z8 => k_is)
    (case h_z9 => k_is)
    (case h_z10 => k_is)
    (case h_z11 => k_is)
    (case h_z12 => k_is)
    (case h_z13 => k_is)
    (case h_z14 => k_is)
    (case h_z15 => k_is)
    (case h_z16 => k_is)
    (case h_z17 => k_is)
    (case h_g0 => k_is)
    (case h_g1 => k_is)
    (case h_g2 => k_is)
    (case h_g3 => k_is)
    (case h_xa0 => k_is)
    (case h_xb0 => k_exc)
    (case h_xk0 => k_is)
    (case h_xs0 => k_is)
    (case h_xt0 => k_is)
    (case h_xg0 => k_is)
    (case h_xh0 => k_is)
    (case h_xd0 => k_is)
    (case h_xc0 => k_is)
    (case h_xm0 => k_is)
    (case h_xa1 => k_is)
    (case h_xb1 => k_exc)
    (case h_xk1 => k_is)
    (case h_xs1 => k_is)
    (case h_xt1 => k_is)
    (case h_xg1 => k_is)
    (case h_xh1 => k_is)
    (case h_xd1 => k_is)
    (case h_xc1 => k_is)
    (case h_xm1 => k_is)
    (case h_xp => k_is)
    (case h_xq => k_is)
    (case h_xe0_0 => first | rfl | k_is)
    (case h_xe0_1 => first | rfl | k_is)
    (case h_xe1_0 => first | rfl | k_is)
    (case h_xe1_1 => first | rfl | k_is)
#print axioms PySem.Challenge.cw_shedbook_k10_schemas_are_checked_holds
