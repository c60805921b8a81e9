import PyProof.Rows.All
import Wide.All
import OpenK.AllK
import Wide.FinOn
import PyProof.P3Statements
import HandS.ForMost
import HandS.ForExc
import HandS.Flow
import HandS.TupAny
import HandS.TupMul
import HandS.Walk
import HandS.Zip
import HandS.Deep
import HandS.Rev
import HandS.Style
import HandS.Conv
import HandS.Defaults
import HandS.TryMany
import HandS.ExcField
import HandS.ExcIs
import HandS.Small
import PyProof.Rows.InDataRows
import HandS.IsInst
import KE.DataMinMax
import HandS.WordsDict
import KE.DataAny
import KE.SortData
import KE.GoesEnum
import KE.GoesZip
import KE.GoesMore
import HandS.Sort
import HandS.SetKeys
import KE.DataFind
import HandS.Flt
import HandS.RevRange
import HandS.SortKw
import HandS.More
import KE.KDictZip
import HandS.Keys
import HandS.GenList
import HandS.ExcInit
import HandS.Codes
import PyProof.ExcFactsAll.LookupError
import KE.KExcIs
import PyProof.AssignAttr
import KE.KExcInit
import PyProof.ExcBaseAll.LookupError
import HandS.HeadHook4
import HandS.HeadWalk
import HandS.EndTab
import HandS.Head0
import HandS.Head1
import HandS.Head2
import HandS.HeadEnd
import PySem.Challenge.RW_manrods_k52_weights_steam_and_lacks_by_h
set_option Elab.async false
set_option linter.all false
set_option maxRecDepth 100000
set_option maxHeartbeats 0
namespace Rk
open PySem
inductive IV where
  | non | bl (b : Bool) | int (i : Int) | str (s : Str) | tup (xs : List IV) | rng (lo : Int) (n : Nat) | ref (n : Nat) | exn (c : Nat) (v : IV) | rol (xs : List IV) | fn (i : Nat)
structure DD where
  t : Bool
  lk : Bool
  kvs : List (IV × IV)
inductive IO where
  | lst (xs : List IV) | dict (d : DD) | inst (c : Nat) (fs : List (Nat × IV))
inductive Tr where
  | nil | nd (l : Tr) (o : IO) (r : Tr)
noncomputable def Tr.get (t : Tr) : Nat → Option IO := @Tr.rec (fun _ => Nat → Option IO) (fun _ => none) (fun _ o _ gl gr n =>
  @Bool.rec (fun _ => Option IO) (@Bool.rec (fun _ => Option IO) (gr (Nat.sub (Nat.div n 2) 1)) (gl (Nat.div n 2)) (Nat.beq (Nat.mod n 2) 1)) (some o) (Nat.beq n 0)) t
theorem Tr.get_nil (n : Nat) : Tr.nil.get n = none := rfl
theorem Tr.get_nd (l : Tr) (o : IO) (r : Tr) (n : Nat) : (Tr.nd l o r).get n = match Nat.beq n 0 with
    | true => some o
    | false => match Nat.beq (Nat.mod n 2) 1 with
      | true => l.get (Nat.div n 2)
      | false => r.get (Nat.sub (Nat.div n 2) 1) := by
  cases e : Nat.beq n 0 with
  | true =>
    show @Bool.rec (fun _ => Option IO) _ (some o) (Nat.beq n 0) = _
    rw [e]
  | false =>
    show @Bool.rec (fun _ => Option IO) (@Bool.rec (fun _ => Option IO) (r.get (Nat.sub (Nat.div n 2) 1)) (l.get (Nat.div n 2)) (Nat.beq (Nat.mod n 2) 1)) (some o) (Nat.beq n 0) = _
    rw [e]
    cases Nat.beq (Nat.mod n 2) 1 <;> rfl
noncomputable def Tr.set (t : Tr) : Nat → IO → Option Tr := @Tr.rec (fun _ => Nat → IO → Option Tr) (fun n u => @Bool.rec (fun _ => Option Tr) none (some (.nd .nil u .nil)) (Nat.beq n 0)) (fun l o r sl sr n u =>
  @Bool.rec (fun _ => Option Tr) (@Bool.rec (fun _ => Option Tr)
    (@Option.rec Tr (fun _ => Option Tr) none (fun r' => some (.nd l o r')) (sr (Nat.sub (Nat.div n 2) 1) u))
    (@Option.rec Tr (fun _ => Option Tr) none (fun l' => some (.nd l' o r)) (sl (Nat.div n 2) u)) (Nat.beq (Nat.mod n 2) 1)) (some (.nd l u r)) (Nat.beq n 0)) t
theorem Tr.set_nil (n : Nat) (u : IO) : Tr.nil.set n u = match Nat.beq n 0 with
    | true => some (.nd .nil u .nil)
    | false => none := by
  show @Bool.rec (fun _ => Option Tr) _ _ (Nat.beq n 0) = _
  cases Nat.beq n 0 <;> rfl
theorem Tr.set_nd (l : Tr) (o : IO) (r : Tr) (n : Nat) (u : IO) : (Tr.nd l o r).set n u = match Nat.beq n 0 with
    | true => some (.nd l u r)
    | false => match Nat.beq (Nat.mod n 2) 1 with
      | true => match l.set (Nat.div n 2) u with
        | some l' => some (.nd l' o r)
        | none => none
      | false => match r.set (Nat.sub (Nat.div n 2) 1) u with
        | some r' => some (.nd l o r')
        | none => none := by
  show @Bool.rec (fun _ => Option Tr) (@Bool.rec (fun _ => Option Tr)
    (@Option.rec Tr (fun _ => Option Tr) none (fun r' => some (.nd l o r')) (r.set (Nat.sub (Nat.div n 2) 1) u))
    (@Option.rec Tr (fun _ => Option Tr) none (fun l' => some (.nd l' o r)) (l.set (Nat.div n 2) u)) (Nat.beq (Nat.mod n 2) 1)) (some (.nd l u r)) (Nat.beq n 0) = _
  cases Nat.beq n 0 with
  | true => rfl
  | false =>
    cases Nat.beq (Nat.mod n 2) 1 with
    | true => cases l.set (Nat.div n 2) u <;> rfl
    | false => cases r.set (Nat.sub (Nat.div n 2) 1) u <;> rfl
structure Hh where
  nx : Nat
  t : Tr
noncomputable def Hh.get (h : Hh) (n : Nat) : Option IO := h.t.get n
noncomputable def Hh.set (h : Hh) (n : Nat) (u : IO) : Option Hh := match h.t.set n u with
  | some t => some ⟨h.nx, t⟩
  | none => none
noncomputable def Hh.new (h : Hh) (u : IO) : Option Hh := match h.t.set h.nx u with
  | some t => match Nat.succ h.nx with
    | 0 => none
    | m + 1 => some ⟨m + 1, t⟩
  | none => none
structure Ex where
  c : Nat
  v : Option IV
inductive R (α : Type) where
  | ok (a : α) (h : Hh) | exc (x : Ex) (h : Hh) | fail
noncomputable def R.bd {α β : Type} (r : R α) (k : α → Hh → R β) : R β := @R.rec α (fun _ => R β) (fun a h => k a h) (fun x h => .exc x h) .fail r
abbrev Rho := List (Option IV)
inductive Op where | add | sub | mul | fdiv | mod | pow
inductive Cp where | eq | ne | lt | le | gt | ge | is | isnt | inn | nin
inductive Bi where | len | abs | int | list | tuple | all | any | sum | min | max | sorted | rng1 | rng2
inductive Bm where | append | extend | count | index | pop | get | setdefault
inductive Ty where | int | bool | str | tuple | list | own (c : Nat) | blt (n : Nat)
inductive Tg where
  | nm (i : Nat) | tp (ts : List Tg)
mutual
inductive E where
  | var (i : Nat) | cst (v : IV) | glo (g : Nat)
  | tup (es : List E) | lst (es : List E) | tupS (es : List E) (e : E)
  | bin (o : Op) (a b : E) | neg (a : E) | not (a : E) | and (a b : E) | or (a b : E)
  | cmp (o : Cp) (a b : E) | chain (o p : Cp) (a b c : E) | ite (c a b : E)
  | call (f : Nat) (as : List E) | callk (f : Nat) (as : List E) (ks : List Nat) (ws : List E)
  | bi (b : Bi) (as : List E) | bid (b : Bi) (a d : E) | bi2 (b : Bi) (x y : E)
  | mth (m : Nat) (o : E) (as : List E) | mk (c : Nat) (as : List E) | att (o : E) (f : Nat)
  | idx (a b : E) | sl (a : E) (lo hi : Option E) | slr (a : E)
  | bm (m : Bm) (o : E) (as : List E)
  | lc (own : List Nat) (elt : E) (t : Tg) (it : It) (cs : List E)
  | lc2 (own : List Nat) (elt : E) (t : Tg) (it : It) (cs : List E) (t2 : Tg) (it2 : It) (cs2 : List E)
  | dc (kt : Bool) (own : List Nat) (k v : E) (t : Tg) (it : It) (cs : List E)
  | fnv (i : Nat) | callv (e : E) (as : List E) | pack (l : Bool) (a : E) | pn | pc (s : Bool) (a b : E)
  | dnew (kt : Bool) | min3 (b : Bi) (x y z : E) | chain3 (o p q : Cp) (a b c d : E) | isi (a : E) (ts : List Ty) | lit (it : It)
inductive It where
  | ex (e : E) | rng1 (a : E) | rng2 (a b : E) | rng3 (a b : E) | enum (e : E) | zip (a b : E) | rev (e : E) | items (e : E) | values (e : E)
  | revR1 (a : E) | revR (a b : E) | zip3 (a b c : E)
end
inductive Pt where
  | s (x : Str) | f | b (v : Bool)
structure Hc where
  c : Nat
  en : Nat
  ps : List Pt
  into : Option Nat
inductive T2 where
  | nm (i : Nat) | fld (o : E) (f : Nat) | sub (o i : E)
inductive S where
  | set (i : Nat) (e : E) | asg (t : Tg) (e : E) | swap (is : List Nat) (es : List E)
  | sub (o i e : E) | fld (o : E) (f : Nat) (e : E)
  | aug (i : Nat) (o : Op) (e : E) | augS (a i : E) (o : Op) (e : E) | augF (a : E) (f : Nat) (o : Op) (e : E)
  | exp (e : E) | ret (e : E) | pass | brk | cont
  | ifs (c : E) (a b : List S) | whl (c : E) (b : List S) | fors (t : Tg) (it : It) (b : List S)
  | rais (c : Nat) (as : List E) | tryx (b : List S) (hs : List Hc) | del (a i : E) | unp (ts : List T2) (e : E)
def ilt (x y : Int) : Bool := match x with
  | .ofNat a => match y with
    | .ofNat b => Nat.blt a b
    | .negSucc _ => false
  | .negSucc a => match y with
    | .ofNat _ => true
    | .negSucc b => Nat.blt b a
def ile (x y : Int) : Bool := match x with
  | .ofNat a => match y with
    | .ofNat b => Nat.ble a b
    | .negSucc _ => false
  | .negSucc a => match y with
    | .ofNat _ => true
    | .negSucc b => Nat.ble b a
def ieq (x y : Int) : Bool := match x with
  | .ofNat a => match y with
    | .ofNat b => Nat.beq a b
    | .negSucc _ => false
  | .negSucc a => match y with
    | .ofNat _ => false
    | .negSucc b => Nat.beq a b
def nats : List Nat → List Nat → Bool
  | [], [] => true
  | a :: l, b :: r => match Nat.beq a b with
    | true => nats l r
    | false => false
  | _, _ => false
def look {α : Type} (n : Nat) : List (Nat × α) → Option α
  | [] => none
  | p :: r => match Nat.beq p.1 n with
    | true => some p.2
    | false => look n r
def seq (x y : Str) : Bool := nats x.cps.toList y.cps.toList
end Rk
namespace Rk
open PySem
noncomputable section
def nth : List IV → Nat → Option IV
  | [], _ => none
  | x :: r, n => match n with
    | 0 => some x
    | m + 1 => nth r m
def lenR (xs : List IV) : Nat := @List.rec IV (fun _ => Nat) 0 (fun _ _ n => Nat.succ n) xs
def appR (xs ys : List IV) : List IV := @List.rec IV (fun _ => List IV) ys (fun x _ r => x :: r) xs
def nthR (xs : List IV) : Nat → Option IV := @List.rec IV (fun _ => Nat → Option IV) (fun _ => none) (fun x _ r n => @Nat.rec (fun _ => Option IV) (some x) (fun m _ => r m) n) xs
theorem lenR_eq (xs : List IV) : lenR xs = xs.length := by
  induction xs with
  | nil => rfl
  | cons x xs ih => exact congrArg Nat.succ ih
theorem appR_eq (xs ys : List IV) : appR xs ys = xs ++ ys := by
  induction xs with
  | nil => rfl
  | cons x xs ih => exact congrArg (x :: ·) ih
theorem nthR_eq (xs : List IV) : ∀ n, nthR xs n = nth xs n := by
  induction xs with
  | nil => exact fun _ => rfl
  | cons x xs ih =>
    intro n
    cases n with
    | zero => rfl
    | succ n => exact ih n
def revA (xs : List IV) : List IV → List IV := @List.rec IV (fun _ => List IV → List IV) (fun a => a) (fun x _ r a => r (x :: a)) xs
def revR (xs : List IV) : List IV := revA xs []
theorem revA_eq (xs : List IV) : ∀ a, revA xs a = xs.reverse ++ a := by
  induction xs with
  | nil => exact fun _ => rfl
  | cons x xs ih =>
    intro a
    show revA xs (x :: a) = _
    rw [ih, List.reverse_cons, List.append_assoc]
    rfl
theorem revR_eq (xs : List IV) : revR xs = xs.reverse := (revA_eq xs []).trans (List.append_nil _)
theorem revR_revR (xs : List IV) : revR (revR xs) = xs := by rw [revR_eq, revR_eq, List.reverse_reverse]
theorem revR_len (xs : List IV) : (revR xs).length = xs.length := by rw [revR_eq, List.length_reverse]
theorem lenR_rev (xs : List IV) : lenR xs = (revR xs).length := by rw [revR_len, lenR_eq]
theorem revR_cons (y : IV) (q : List IV) : revR (y :: q) = revR q ++ [y] := by
  rw [revR_eq, revR_eq, List.reverse_cons]
def nthQ (q : List IV) (i : Nat) : Option IV := match Nat.blt i (lenR q) with
  | true => nthR q (Nat.sub (Nat.sub (lenR q) i) 1)
  | false => none
theorem nth_get : ∀ (xs : List IV) (i : Nat), nth xs i = xs[i]?
  | [], _ => rfl
  | _ :: _, 0 => rfl
  | _ :: r, i + 1 => by
    show nth r i = _
    rw [nth_get r i]
    rfl
theorem nthQ_eq (q : List IV) (i : Nat) : nthQ q i = nth (revR q) i := by
  unfold nthQ
  rw [nth_get, revR_eq, lenR_eq]
  cases e : Nat.blt i q.length with
  | false =>
    show none = _
    have : ¬ i < q.length := fun z => by
      have : Nat.ble (i + 1) q.length = true := by rw [Nat.ble_eq]; exact z
      have e' : Nat.ble (i + 1) q.length = false := e
      rw [this] at e'
      cases e'
    rw [List.getElem?_eq_none (by rw [List.length_reverse]; omega)]
  | true =>
    show nthR q (q.length - i - 1) = _
    have l : i < q.length := by
      have : Nat.ble (i + 1) q.length = true := e
      rwa [Nat.ble_eq] at this
    rw [nthR_eq, nth_get, List.getElem?_reverse l]
    congr 1
    omega
def mapO {α β : Type} (f : α → Option β) : List α → Option (List β)
  | [] => some []
  | x :: r => match f x with
    | some y => match mapO f r with
      | some s => some (y :: s)
      | none => none
    | none => none
def sOk : List Nat → Bool
  | [] => true
  | c :: r => match Nat.blt c 1114112 with
    | true => sOk r
    | false => false
def toD (h : Hh) : Nat → IV → Option PyData
  | 0, _ => none
  | n + 1, v => match v with
    | .non => some .none
    | .bl b => some (.bool b)
    | .int i => some (.int i)
    | .str x => match sOk x.cps.toList with
      | true => some (.str x)
      | false => none
    | .tup xs => match mapO (toD h n) xs with
      | some ds => some (.tuple ds)
      | none => none
    | .ref m => match h.get m with
      | some (.lst q) => match mapO (toD h n) (revR q) with
        | some ds => some (.list ds)
        | none => none
      | _ => none
    | .rng _ _ => none
    | .exn _ _ => none
    | .rol _ => none
    | .fn _ => none
def b2i (b : Bool) : Int := match b with
  | true => 1
  | false => 0
mutual
def dq : PyData → PyData → Bool
  | .none, e => match e with
    | .none => true
    | _ => false
  | .bool a, e => match e with
    | .bool b => match a, b with
      | true, true => true
      | false, false => true
      | _, _ => false
    | .int j => ieq (b2i a) j
    | _ => false
  | .int i, e => match e with
    | .int j => ieq i j
    | .bool b => ieq i (b2i b)
    | _ => false
  | .str x, e => match e with
    | .str y => seq x y
    | _ => false
  | .list xs, e => match e with
    | .list ys => dqs xs ys
    | _ => false
  | .tuple xs, e => match e with
    | .tuple ys => dqs xs ys
    | _ => false
  | .dict _, _ => false
def dqs : List PyData → List PyData → Bool
  | [], ys => match ys with
    | [] => true
    | _ :: _ => false
  | x :: xs, ys => match ys with
    | [] => false
    | y :: ys => match dq x y with
      | true => dqs xs ys
      | false => false
end
def ceqD (h : Hh) (a b : IV) : Option Bool := match toD h 60 a with
    | some d => match toD h 60 b with
      | some e => some (dq d e)
      | none => none
    | none => none
def ceq (h : Hh) (a b : IV) : Option Bool := match a with
  | .int i => match b with
    | .int j => some (ieq i j)
    | _ => ceqD h a b
  | .non => match b with
    | .non => some true
    | _ => ceqD h a b
  | .str x => match b with
    | .str y => match sOk x.cps.toList with
      | true => match sOk y.cps.toList with
        | true => some (seq x y)
        | false => none
      | false => none
    | _ => ceqD h a b
  | _ => ceqD h a b
def tru (h : Hh) : IV → Option Bool
  | .non => some false
  | .bl b => some b
  | .int i => match ieq i 0 with
    | true => some false
    | false => some true
  | .str x => match Nat.ble x.length 1000 with
    | true => match Nat.beq x.length 0 with
      | true => some false
      | false => some true
    | false => none
  | .tup xs => match xs with
    | [] => some false
    | _ :: _ => some true
  | .ref n => match h.get n with
    | some (.lst xs) => match xs with
      | [] => some false
      | _ :: _ => some true
    | some (.dict d) => match d.t with
      | true => none
      | false => match d.lk with
        | true => none
        | false => match d.kvs with
          | [] => some false
          | _ :: _ => some true
    | _ => none
  | .rng _ _ => none
  | .exn _ _ => none
  | .rol _ => none
  | .fn _ => none
def anyD (d : PyData) : List PyData → Bool
  | [] => false
  | z :: r => match dq z d with
    | true => true
    | false => anyD d r
def idxD (d : PyData) (k : Nat) : List PyData → Option Nat
  | [] => none
  | z :: r => match dq z d with
    | true => some k
    | false => idxD d (Nat.succ k) r
def cntD (d : PyData) (k : Nat) : List PyData → Nat
  | [] => k
  | z :: r => match dq z d with
    | true => cntD d (Nat.succ k) r
    | false => cntD d k r
def len : List IV → Nat
  | [] => 0
  | _ :: r => match len r with
    | 0 => 1
    | n + 1 => n + 2
def onot : Option Bool → Option Bool
  | some true => some false
  | some false => some true
  | none => none
def at? {α : Type} (l : List α) (i : Nat) : Option α := match l with
  | [] => none
  | x :: r => match i with
    | 0 => some x
    | n + 1 => at? r n
def kOk : IV → Bool
  | .int _ => true
  | .str _ => true
  | _ => false
def dkey (t : Bool) (v : IV) : Bool := match t with
  | false => kOk v
  | true => false
def kq (a b : IV) : Bool := match a with
  | .int i => match b with
    | .int j => ieq i j
    | _ => false
  | .str x => match b with
    | .str y => seq x y
    | _ => false
  | _ => false
def keq (a b : IV) : Bool := kq a b
def dlook (k : IV) : List (IV × IV) → Option IV
  | [] => none
  | p :: r => match keq p.1 k with
    | true => some p.2
    | false => dlook k r
def drep (k v : IV) : List (IV × IV) → List (IV × IV)
  | [] => []
  | p :: r => match keq p.1 k with
    | true => (p.1, v) :: drep k v r
    | false => p :: drep k v r
def dsnoc (p : IV × IV) : List (IV × IV) → List (IV × IV)
  | [] => [p]
  | q :: r => q :: dsnoc p r
def dput (k v : IV) (l : List (IV × IV)) : List (IV × IV) := match dlook k l with
  | some _ => drep k v l
  | none => dsnoc (k, v) l
def ddrop (k : IV) : List (IV × IV) → List (IV × IV)
  | [] => []
  | p :: r => match keq p.1 k with
    | true => ddrop k r
    | false => p :: ddrop k r
def isS {α : Type} : Option α → Bool
  | some _ => true
  | none => false
def ofO (o : Option IV) (h : Hh) : R IV := match o with
  | some v => .ok v h
  | none => .fail
def newLst (h : Hh) (xs : List IV) : Option Hh := h.new (.lst (revR xs))
def setLst (h : Hh) (n : Nat) (xs : List IV) : Option Hh := h.set n (.lst (revR xs))
def newL (xs : List IV) (h : Hh) : R IV := match newLst h xs with
  | some h' => .ok (.ref h.nx) h'
  | none => .fail
def newQ (q : List IV) (h : Hh) : R IV := match h.new (.lst q) with
  | some h' => .ok (.ref h.nx) h'
  | none => .fail
theorem newQ_eq (q : List IV) (h : Hh) : newQ q h = newL (revR q) h := by
  unfold newQ newL newLst
  rw [revR_revR]
theorem revR_app (q2 q : List IV) : revR (appR q2 q) = revR q ++ revR q2 := by
  rw [revR_eq, revR_eq, revR_eq, appR_eq, List.reverse_append]
def big : Nat := 18446744073709551616
def smallI (i : Int) : Bool := Nat.blt (Int.natAbs i) big
def ipow (i : Int) (n : Nat) : Int := match i with
  | .ofNat a => .ofNat (Nat.pow a n)
  | .negSucc a => i ^ n
def fewL : Nat := 100000
def repl (xs : List IV) : Nat → List IV
  | 0 => []
  | n + 1 => xs ++ repl xs n
def opr (o : Op) (a b : IV) (h : Hh) : R IV := match a with
  | .int i => match b with
    | .int j => match o with
      | .add => .ok (.int (Int.add i j)) h
      | .sub => .ok (.int (Int.sub i j)) h
      | .mul => match smallI i with
        | true => .ok (.int (Int.mul i j)) h
        | false => match smallI j with
          | true => .ok (.int (Int.mul i j)) h
          | false => .fail
      | .fdiv => match ilt 0 j with
        | true => match ilt j 1073741824 with
          | true => .ok (.int (Int.ediv i j)) h
          | false => .fail
        | false => .fail
      | .mod => match ilt 0 j with
        | true => .ok (.int (Int.emod i j)) h
        | false => .fail
      | .pow => match ile 0 j with
        | true => match ile j 1000 with
          | true => match smallI i with
            | true => .ok (.int (ipow i (Int.toNat j))) h
            | false => .fail
          | false => .fail
        | false => .fail
    | _ => .fail
  | .tup xs => match b with
    | .tup ys => match o with
      | .add => match Nat.ble (Nat.add xs.length ys.length) fewL with
        | true => .ok (.tup (xs ++ ys)) h
        | false => .fail
      | _ => .fail
    | .int k => match o with
      | .mul => match ile k 1000 with
        | true => match ile 1 k with
          | true => match Nat.ble xs.length 1000 with
            | true => .ok (.tup (repl xs (Int.toNat k))) h
            | false => .fail
          | false => .fail
        | false => .fail
      | _ => .fail
    | _ => .fail
  | .ref n => match h.get n with
    | some (.lst q) => match b with
      | .ref m => match h.get m with
        | some (.lst q2) => match o with
          | .add => match Nat.ble (Nat.add (lenR q) (lenR q2)) fewL with
            | true => newQ (appR q2 q) h
            | false => .fail
          | _ => .fail
        | _ => .fail
      | .int k => match o with
        | .mul => match ile k 1000 with
          | true => match ile (-1000) k with
            | true => match Nat.ble (lenR q) 1000 with
              | true => newL (repl (revR q) (Int.toNat k)) h
              | false => .fail
            | false => .fail
          | false => .fail
        | _ => .fail
      | _ => .fail
    | _ => .fail
  | _ => .fail
def obl (o : Option Bool) (h : Hh) : R IV := match o with
  | some b => .ok (.bl b) h
  | none => .fail
def items (v : IV) (h : Hh) : Option (List IV) := match v with
  | .tup xs => some xs
  | .ref n => match h.get n with
    | some (.lst q) => some (revR q)
    | _ => none
  | _ => none
def cinS (h : Hh) (x y : IV) : Option Bool := match toD h 60 x with
  | some d => match items y h with
    | some xs => match mapO (toD h 60) xs with
      | some ds => some (anyD d ds)
      | none => none
    | none => none
  | none => none
def cinD (x : IV) (d : DD) : Option Bool := match dkey d.t x with
  | true => some (isS (dlook x d.kvs))
  | false => none
def cin (h : Hh) (x y : IV) : Option Bool := match y with
  | .ref n => match h.get n with
    | some (.dict d) => cinD x d
    | _ => cinS h x y
  | _ => cinS h x y
def cmp (o : Cp) (a b : IV) (h : Hh) : R IV := match o with
  | .eq => obl (ceq h a b) h
  | .ne => obl (onot (ceq h a b)) h
  | .is => match b with
    | .non => match a with
      | .non => .ok (.bl true) h
      | .exn _ _ => .fail
      | .rol _ => .fail
      | .fn _ => .fail
      | _ => .ok (.bl false) h
    | .bl d => match a with
      | .bl c => match c, d with
        | true, true => .ok (.bl true) h
        | false, false => .ok (.bl true) h
        | _, _ => .ok (.bl false) h
      | _ => .fail
    | _ => .fail
  | .isnt => match b with
    | .non => match a with
      | .non => .ok (.bl false) h
      | .exn _ _ => .fail
      | .rol _ => .fail
      | .fn _ => .fail
      | _ => .ok (.bl true) h
    | .bl d => match a with
      | .bl c => match c, d with
        | true, true => .ok (.bl false) h
        | false, false => .ok (.bl false) h
        | _, _ => .ok (.bl true) h
      | _ => .fail
    | _ => .fail
  | .inn => obl (cin h a b) h
  | .nin => obl (onot (cin h a b)) h
  | .lt => match a with
    | .int i => match b with
      | .int j => .ok (.bl (ilt i j)) h
      | _ => .fail
    | _ => .fail
  | .le => match a with
    | .int i => match b with
      | .int j => .ok (.bl (ile i j)) h
      | _ => .fail
    | _ => .fail
  | .gt => match a with
    | .int i => match b with
      | .int j => .ok (.bl (ilt j i)) h
      | _ => .fail
    | _ => .fail
  | .ge => match a with
    | .int i => match b with
      | .int j => .ok (.bl (ile j i)) h
      | _ => .fail
    | _ => .fail
def place (n : Nat) (i : Int) : Option Nat := match i with
  | .ofNat k => match Nat.blt k n with
    | true => some k
    | false => none
  | .negSucc k => match Nat.blt k n with
    | true => some (Nat.sub (Nat.sub n k) 1)
    | false => none
def lastR (xs : List IV) : IV → IV := @List.rec IV (fun _ => IV → IV) (fun d => d) (fun x _ r _ => r x) xs
theorem lastR_eq (xs : List IV) : ∀ x, nth (x :: xs) xs.length = some (lastR xs x) := by
  induction xs with
  | nil => exact fun _ => rfl
  | cons y xs ih => exact fun x => ih y
def itemN (xs : List IV) (i : Int) : Option IV := match place (lenR xs) i with
  | some k => nthR xs k
  | none => none
def itemAt (xs : List IV) (i : Int) : Option IV := match i with
  | .ofNat _ => itemN xs i
  | .negSucc k => match Nat.beq k 0 with
    | true => match xs with
      | [] => none
      | x :: t => some (lastR t x)
    | false => itemN xs i
theorem itemAt_eq (xs : List IV) (i : Int) : itemAt xs i = match place xs.length i with
    | some k => nth xs k
    | none => none := by
  have e : itemN xs i = match place xs.length i with
    | some k => nth xs k
    | none => none := by
    unfold itemN
    rw [lenR_eq]
    cases place xs.length i with
    | none => rfl
    | some k => exact nthR_eq xs k
  cases i with
  | ofNat _ => exact e
  | negSucc k =>
    show (match Nat.beq k 0 with
    | true => match xs with
      | [] => none
      | x :: t => some (lastR t x)
    | false => itemN xs (.negSucc k)) = _
    cases q : Nat.beq k 0 with
    | false => exact e
    | true =>
      have k0 : k = 0 := Nat.eq_of_beq_eq_true q
      subst k0
      cases xs with
      | nil => rfl
      | cons x t =>
        have : place (x :: t).length (.negSucc 0) = some t.length := by
          show (match Nat.blt 0 (t.length + 1) with
            | true => some (Nat.sub (Nat.sub (t.length + 1) 0) 1)
            | false => none) = _
          have b : Nat.blt 0 (t.length + 1) = true := by
            show Nat.ble 1 (t.length + 1) = true
            rw [Nat.ble_eq]
            omega
          rw [b]
          rfl
        rw [this]
        exact (lastR_eq t x).symm
def bnd (n d : Nat) : Option Int → Nat
  | none => d
  | some (.ofNat k) => match Nat.ble k n with
    | true => k
    | false => n
  | some (.negSucc k) => Nat.sub n (Nat.succ k)
def cut (xs : List IV) (lo hi : Option Int) : List IV :=
  (xs.drop (bnd xs.length 0 lo)).take (Nat.sub (bnd xs.length xs.length hi) (bnd xs.length 0 lo))
def idxS (xs : List IV) (b : IV) (h : Hh) : R IV := match b with
  | .int i => ofO (itemAt xs i) h
  | _ => .fail
def itemQ (q : List IV) (i : Int) : Option IV := match place (lenR q) i with
  | some k => nthR q (Nat.sub (Nat.sub (lenR q) k) 1)
  | none => none
def idxQ (q : List IV) (b : IV) (h : Hh) : R IV := match b with
  | .int i => ofO (itemQ q i) h
  | _ => .fail
def idxK (d : DD) (b : IV) (h : Hh) : R IV := match dkey d.t b with
  | true => ofO (dlook b d.kvs) h
  | false => .fail
def idx (a b : IV) (h : Hh) : R IV := match a with
  | .tup xs => idxS xs b h
  | .ref n => match h.get n with
    | some (.lst q) => idxQ q b h
    | some (.dict d) => idxK d b h
    | _ => .fail
  | _ => .fail
def slc (a : IV) (lo hi : Option Int) (h : Hh) : R IV := match a with
  | .tup xs => .ok (.tup (cut xs lo hi)) h
  | .rol xs => newL (cut xs lo hi) h
  | .ref n => match h.get n with
    | some (.lst q) => newL (cut (revR q) lo hi) h
    | _ => .fail
  | _ => .fail
def slcR (a : IV) (h : Hh) : R IV := match a with
  | .ref n => match h.get n with
    | some (.lst q) => newQ (revR q) h
    | _ => .fail
  | _ => .fail
def allB : List IV → Option Bool
  | [] => some true
  | x :: r => match x with
    | .bl b => match b with
      | true => allB r
      | false => match allB r with
        | some _ => some false
        | none => none
    | _ => none
def anyB : List IV → Option Bool
  | [] => some false
  | x :: r => match x with
    | .bl b => match b with
      | false => anyB r
      | true => match anyB r with
        | some _ => some true
        | none => none
    | _ => none
def intsL : List IV → Option (List Int)
  | [] => some []
  | x :: r => match x with
    | .int i => match intsL r with
      | some s => some (i :: s)
      | none => none
    | _ => none
def anyI : List Int → Bool
  | [] => false
  | i :: r => match ieq i 0 with
    | true => anyI r
    | false => true
def isum : List Int → Int
  | [] => 0
  | i :: r => Int.add i (isum r)
def maxF (m : Int) : List Int → Int
  | [] => m
  | i :: r => match ilt m i with
    | true => maxF i r
    | false => maxF m r
def minF (m : Int) : List Int → Int
  | [] => m
  | i :: r => match ilt i m with
    | true => minF i r
    | false => minF m r
def ltL : List Int → List Int → Bool
  | [], ys => match ys with
    | [] => false
    | _ :: _ => true
  | x :: xs, ys => match ys with
    | [] => false
    | y :: ys => match ieq x y with
      | true => ltL xs ys
      | false => ilt x y
def minT (m : List Int) : List (List Int) → List Int
  | [] => m
  | t :: r => match ltL t m with
    | true => minT t r
    | false => minT m r
def maxT (m : List Int) : List (List Int) → List Int
  | [] => m
  | t :: r => match ltL m t with
    | true => maxT t r
    | false => maxT m r
def tupsL : List IV → Option (List (List Int))
  | [] => some []
  | x :: r => match x with
    | .tup xs => match intsL xs with
      | some t => match tupsL r with
        | some s => some (t :: s)
        | none => none
      | none => none
    | _ => none
def insT (t : List Int) : List (List Int) → List (List Int)
  | [] => [t]
  | u :: r => match ltL u t with
    | true => u :: insT t r
    | false => t :: u :: r
def sortT : List (List Int) → List (List Int)
  | [] => []
  | t :: r => insT t (sortT r)
def mapI : List Int → List IV
  | [] => []
  | i :: r => .int i :: mapI r
def mapT : List (List Int) → List IV
  | [] => []
  | t :: r => .tup (mapI t) :: mapT r
def oint (o : Option Int) (h : Hh) : R IV := match o with
  | some i => .ok (.int i) h
  | none => .fail
def least (xs : List IV) : Option Int := match intsL xs with
  | some (i :: r) => some (minF i r)
  | _ => none
def most (xs : List IV) : Option Int := match intsL xs with
  | some (i :: r) => some (maxF i r)
  | _ => none
def insI (i : Int) : List Int → List Int
  | [] => [i]
  | j :: r => match ile i j with
    | true => i :: j :: r
    | false => j :: insI i r
def sortF : List Int → List Int
  | [] => []
  | i :: r => insI i (sortF r)
def lstOf (v : IV) (h : Hh) : Option (List IV) := match v with
  | .ref _ => items v h
  | _ => none
def bestT (mx : Bool) (o : Option (List (List Int))) (h : Hh) : R IV := match o with
  | some (t :: r) => match mx with
    | true => .ok (.tup (mapI (maxT t r))) h
    | false => .ok (.tup (mapI (minT t r))) h
  | _ => .fail
def bestK (mx : Bool) (xs : List IV) (h : Hh) : R IV := match intsL xs with
  | some ns => match ns with
    | i :: r => match mx with
      | true => .ok (.int (maxF i r)) h
      | false => .ok (.int (minF i r)) h
    | [] => .fail
  | none => bestT mx (tupsL xs) h
def neT : List (List Int) → Bool
  | [] => true
  | t :: r => match t with
    | [] => false
    | _ :: _ => neT r
def sortK (o : Option (List (List Int))) (h : Hh) : R IV := match o with
  | some ts => match neT ts with
    | true => newL (mapT (sortT ts)) h
    | false => .fail
  | none => .fail
def within62 (i : Int) : Bool := Nat.ble (Int.natAbs i) 4611686018427387903
def rgI : Int → Nat → List IV
  | _, 0 => []
  | lo, n + 1 => .int lo :: rgI (Int.add lo 1) n
def rngI (a : IV) : Option (List IV) := match a with
  | .rng lo n => match Nat.ble n 100000 with
    | true => some (rgI lo n)
    | false => none
  | _ => none
def dOf (a : IV) (h : Hh) : Option DD := match a with
  | .ref n => match h.get n with
    | some (.dict d) => some d
    | _ => none
  | _ => none
def lenD (d : DD) (h : Hh) : R IV := match d.t with
  | false => match d.lk with
    | false => .ok (.int (.ofNat d.kvs.length)) h
    | true => .fail
  | true => .fail
def bi1 (b : Bi) (a : IV) (h : Hh) : R IV := match b with
  | .len => match items a h with
    | some xs => .ok (.int (.ofNat xs.length)) h
    | none => match dOf a h with
      | some d => lenD d h
      | none => .fail
  | .abs => match a with
    | .int i => match i with
      | .ofNat _ => .ok a h
      | .negSucc k => .ok (.int (.ofNat (Nat.succ k))) h
    | _ => .fail
  | .int => match a with
    | .int _ => .ok a h
    | .bl b => .ok (.int (b2i b)) h
    | _ => .fail
  | .list => match rngI a with
    | some xs => newL xs h
    | none => match items a h with
    | some xs => newL xs h
    | none => .fail
  | .tuple => match rngI a with
    | some xs => .ok (.tup xs) h
    | none => match items a h with
    | some xs => .ok (.tup xs) h
    | none => .fail
  | .all => match lstOf a h with
    | some xs => obl (allB xs) h
    | none => .fail
  | .any => match lstOf a h with
    | some xs => match anyB xs with
      | some b => .ok (.bl b) h
      | none => match intsL xs with
        | some ns => .ok (.bl (anyI ns)) h
        | none => .fail
    | none => .fail
  | .sum => match items a h with
    | some xs => match intsL xs with
      | some ns => .ok (.int (isum ns)) h
      | none => .fail
    | none => .fail
  | .min => match items a h with
    | some xs => bestK false xs h
    | none => .fail
  | .max => match items a h with
    | some xs => bestK true xs h
    | none => .fail
  | .sorted => match lstOf a h with
    | some xs => match Nat.blt xs.length 64 with
      | true => match intsL xs with
        | some ns => newL (mapI (sortF ns)) h
        | none => sortK (tupsL xs) h
      | false => .fail
    | none => .fail
  | .rng1 => match a with
    | .int j => match within62 j with
      | true => .ok (.rng 0 (Int.toNat j)) h
      | false => .fail
    | _ => .fail
  | .rng2 => .fail
def bi2 (b : Bi) (x y : IV) (h : Hh) : R IV := match x with
  | .int i => match y with
    | .int j => match b with
      | .min => match ilt j i with
        | true => .ok y h
        | false => .ok x h
      | .max => match ilt i j with
        | true => .ok y h
        | false => .ok x h
      | .rng2 => match within62 i with
        | true => match within62 j with
          | true => .ok (.rng i (Int.toNat (Int.sub j i))) h
          | false => .fail
        | false => .fail
      | _ => .fail
    | _ => .fail
  | _ => .fail
def tyIs (bs : List Nat) (a : IV) (t : Ty) (h : Hh) : Option Bool := match a with
  | .rol _ => none
  | .fn _ => none
  | .exn c _ => match t with
    | .own d => some (Nat.beq c d)
    | .blt b => match at? bs c with
      | some b' => some (Nat.beq b b')
      | none => none
    | _ => none
  | .non => match t with
    | .own _ | .blt _ => none
    | _ => some false
  | .bl _ => match t with
    | .own _ | .blt _ => none
    | .int => some true
    | .bool => some true
    | _ => some false
  | .int _ => match t with
    | .own _ | .blt _ => none
    | .int => some true
    | _ => some false
  | .str _ => match t with
    | .own _ | .blt _ => none
    | .str => some true
    | _ => some false
  | .tup _ => match t with
    | .own _ | .blt _ => none
    | .tuple => some true
    | _ => some false
  | .ref n => match h.get n with
    | some (.lst _) => match t with
      | .own _ | .blt _ => none
      | .list => some true
      | _ => some false
    | _ => none
  | .rng _ _ => none
def tyAny (bs : List Nat) (a : IV) (h : Hh) : List Ty → Option Bool
  | [] => some false
  | t :: r => match tyIs bs a t h with
    | some true => some true
    | some false => tyAny bs a h r
    | none => none
def onat (o : Option Nat) (h : Hh) : R IV := match o with
  | some k => .ok (.int (.ofNat k)) h
  | none => .fail
def bmt (m : Bm) (o : IV) (as : List IV) (h : Hh) : R IV := match m with
  | .append => match as with
    | [y] => match o with
      | .ref n => match h.get n with
        | some (.lst q) => match Nat.blt (lenR q) fewL with
          | true => match h.set n (.lst (y :: q)) with
            | some h' => .ok .non h'
            | none => .fail
          | false => .fail
        | _ => .fail
      | _ => .fail
    | _ => .fail
  | .index => match as with
    | [y] => match items o h with
      | some xs => match toD h 60 y with
        | some d => match mapO (toD h 60) xs with
          | some ds => onat (idxD d 0 ds) h
          | none => .fail
        | none => .fail
      | none => .fail
    | _ => .fail
  | .count => match as with
    | [y] => match items o h with
      | some xs => match toD h 60 y with
        | some d => match mapO (toD h 60) xs with
          | some ds => .ok (.int (.ofNat (cntD d 0 ds))) h
          | none => .fail
        | none => .fail
      | none => .fail
    | _ => .fail
  | .pop => match as with
    | [] => match o with
      | .ref n => match h.get n with
        | some (.lst q) => match q with
          | y :: s => match h.set n (.lst s) with
            | some h' => .ok y h'
            | none => .fail
          | [] => .fail
        | _ => .fail
      | _ => .fail
    | _ => .fail
  | .extend => match as with
    | [y] => match o with
      | .ref n => match h.get n with
        | some (.lst q) => match y with
          | .ref m => match h.get m with
            | some (.lst q2) => match Nat.ble (Nat.add (lenR q) (lenR q2)) fewL with
              | true => match h.set n (.lst (appR q2 q)) with
                | some h' => .ok .non h'
                | none => .fail
              | false => .fail
            | _ => .fail
          | _ => .fail
        | _ => .fail
      | _ => .fail
    | _ => .fail
  | .get => match o with
    | .ref n => match h.get n with
      | some (.dict d) => match as with
        | [k] => match dkey d.t k with
          | true => match dlook k d.kvs with
            | some v => .ok v h
            | none => .ok .non h
          | false => .fail
        | [k, z] => match dkey d.t k with
          | true => match dlook k d.kvs with
            | some v => .ok v h
            | none => .ok z h
          | false => .fail
        | _ => .fail
      | _ => .fail
    | _ => .fail
  | .setdefault => match o with
    | .ref n => match h.get n with
      | some (.dict d) => match as with
        | [k, z] => match d.t with
          | true => .fail
          | false => match d.lk with
            | true => .fail
            | false => match kOk k with
              | true => match dlook k d.kvs with
                | some v => .ok v h
                | none => match Nat.blt d.kvs.length 1000 with
                  | true => match h.set n (.dict ⟨false, false, dput k z d.kvs⟩) with
                    | some h' => .ok z h'
                    | none => .fail
                  | false => .fail
              | false => .fail
        | _ => .fail
      | _ => .fail
    | _ => .fail
def setAtK (n : Nat) (d : DD) (k v : IV) (h : Hh) : Option Hh := match d.lk with
  | true => none
  | false => match dkey d.t k with
    | true => match Nat.blt d.kvs.length 1000 with
      | true => h.set n (.dict ⟨d.t, false, dput k v d.kvs⟩)
      | false => none
    | false => none
def setAtL (n : Nat) (q : List IV) (k v : IV) (h : Hh) : Option Hh := match k with
  | .int i => match place (lenR q) i with
    | some j => h.set n (.lst (q.set (Nat.sub (Nat.sub (lenR q) j) 1) v))
    | none => none
  | _ => none
def setAt (o k v : IV) (h : Hh) : Option Hh := match o with
  | .ref n => match h.get n with
    | some (.lst q) => setAtL n q k v h
    | some (.dict d) => setAtK n d k v h
    | _ => none
  | _ => none
def delAt (o k : IV) (h : Hh) : Option Hh := match o with
  | .ref n => match h.get n with
    | some (.dict d) => match d.t with
      | true => none
      | false => match d.lk with
        | true => none
        | false => match kOk k with
          | true => match dlook k d.kvs with
            | some _ => h.set n (.dict ⟨false, false, ddrop k d.kvs⟩)
            | none => none
          | false => none
    | _ => none
  | _ => none
def fput (f : Nat) (v : IV) : List (Nat × IV) → List (Nat × IV)
  | [] => [(f, v)]
  | p :: r => match Nat.beq p.1 f with
    | true => (f, v) :: r
    | false => p :: fput f v r
def fget (o : IV) (f : Nat) (h : Hh) : R IV := match o with
  | .ref n => match h.get n with
    | some (.inst _ fs) => ofO (look f fs) h
    | _ => .fail
  | _ => .fail
def fset (o : IV) (f : Nat) (v : IV) (h : Hh) : Option Hh := match o with
  | .ref n => match h.get n with
    | some (.inst c fs) => match Nat.blt fs.length 900 with
      | true => h.set n (.inst c (fput f v fs))
      | false => none
    | _ => none
  | _ => none
def mfind (T : List (List (Nat × Nat))) (o : IV) (m : Nat) (h : Hh) : Option Nat := match o with
  | .ref n => match h.get n with
    | some (.inst c _) => match at? T c with
      | some ms => look m ms
      | none => none
    | _ => none
  | _ => none
def spr (s : Bool) (x : IV) (h : Hh) : Option (List IV) := match s with
  | false => some [x]
  | true => items x h
def pcK (xs : List IV) (y : IV) (h : Hh) : R IV := match y with
  | .tup ys => .ok (.tup (appR xs ys)) h
  | _ => .fail
def packK (l : Bool) (y : IV) (h : Hh) : R IV := match y with
  | .tup ys => match Nat.ble (lenR ys) fewL with
    | true => match l with
      | true => newL ys h
      | false => .ok (.tup ys) h
    | false => .fail
  | _ => .fail
def bidO (mx : Bool) (o : Option (List IV)) (y : IV) (h : Hh) : R IV := match o with
  | some xs => match xs with
    | [] => .ok y h
    | _ :: _ => bestK mx xs h
  | none => .fail
def bidK (b : Bi) (x y : IV) (h : Hh) : R IV := match b with
  | .min => bidO false (items x h) y h
  | .max => bidO true (items x h) y h
  | _ => .fail
def min3K (b : Bi) (u v w : IV) (h : Hh) : R IV := match b with
  | .min => match bi2 .min u v h with
    | .ok q h => bi2 .min q w h
    | _ => .fail
  | .max => match bi2 .max u v h with
    | .ok q h => bi2 .max q w h
    | _ => .fail
  | _ => .fail
end
end Rk
namespace Rk
open PySem
noncomputable section
def get (r : Rho) : Nat → Option IV := @List.rec (Option IV) (fun _ => Nat → Option IV) (fun _ => none) (fun x _ g i => @Nat.rec (fun _ => Option IV) x (fun n _ => g n) i) r
def put (r : Rho) : Nat → Option IV → Rho := @List.rec (Option IV) (fun _ => Nat → Option IV → Rho) (fun _ _ => []) (fun x t p i v => @Nat.rec (fun _ => Rho) (v :: t) (fun n _ => x :: p n v) i) r
def wip (r : Rho) : List Nat → Rho
  | [] => r
  | i :: is => put (wip r is) i none
mutual
def asg : Tg → IV → Rho → Hh → Option Rho
  | .nm i, v, r, _ => some (put r i (some v))
  | .tp ts, v, r, h => match items v h with
    | some xs => asgs ts xs r h
    | none => none
def asgs : List Tg → List IV → Rho → Hh → Option Rho
  | [], xs, r, _ => match xs with
    | [] => some r
    | _ :: _ => none
  | t :: ts, xs, r, h => match xs with
    | [] => none
    | x :: xs => match asg t x r h with
      | some r' => asgs ts xs r' h
      | none => none
end
inductive Sc where
  | tup (xs : List IV) | lst (n i : Nat)
inductive Ir where
  | one (s : Sc) | rng (lo st : Int) (n : Nat) | en (i : Nat) (s : Sc) | zi (s t : Sc) | rvL (n i : Nat) | z3 (s t u : Sc)
inductive Nx (α : Type) where
  | stop | yld (v : IV) (k : α) | fail
def nxs (k : Sc) (h : Hh) : Nx Sc := match k with
  | .tup xs => match xs with
    | [] => .stop
    | x :: r => .yld x (.tup r)
  | .lst n i => match h.get n with
    | some (.lst q) => match nthQ q i with
      | some x => .yld x (.lst n (Nat.succ i))
      | none => match Nat.beq (lenR q) i with
        | true => .stop
        | false => .fail
    | _ => .fail
def nxt (k : Ir) (h : Hh) : Nx Ir := match k with
  | .one s => match nxs s h with
    | .stop => .stop
    | .yld v s => .yld v (.one s)
    | .fail => .fail
  | .rng lo st n => match n with
    | 0 => .stop
    | m + 1 => .yld (.int lo) (.rng (Int.add lo st) st m)
  | .en i s => match nxs s h with
    | .stop => .stop
    | .yld v s => .yld (.tup [.int (.ofNat i), v]) (.en (Nat.succ i) s)
    | .fail => .fail
  | .zi s t => match nxs s h with
    | .stop => match nxs t h with
      | .fail => .fail
      | _ => .stop
    | .yld v s => match nxs t h with
      | .stop => .stop
      | .yld w t => .yld (.tup [v, w]) (.zi s t)
      | .fail => .fail
    | .fail => .fail
  | .z3 s t u => match nxs s h with
    | .stop => match nxs t h with
      | .fail => .fail
      | _ => match nxs u h with
        | .fail => .fail
        | _ => .stop
    | .yld v s => match nxs t h with
      | .stop => match nxs u h with
        | .fail => .fail
        | _ => .stop
      | .yld w t => match nxs u h with
        | .stop => .stop
        | .yld z u => .yld (.tup [v, w, z]) (.z3 s t u)
        | .fail => .fail
      | .fail => .fail
    | .fail => .fail
  | .rvL n i => match i with
    | 0 => .stop
    | j + 1 => match h.get n with
      | some (.lst q) => match nthQ q j with
        | some x => .yld x (.rvL n j)
        | none => .fail
      | _ => .fail
def scL (n : Nat) (o : Option IO) : Option Sc := match o with
  | some u => match u with
    | .lst _ => some (.lst n 0)
    | _ => none
  | none => none
def scOf (v : IV) (h : Hh) : Option Sc := match v with
  | .tup xs => some (.tup xs)
  | .ref n => scL n (h.get n)
  | _ => none
inductive RS where
  | nx (r : Rho) (h : Hh) | brk (r : Rho) (h : Hh) | cont (r : Rho) (h : Hh) | ret (v : IV) (h : Hh)
  | exc (x : Ex) (r : Rho) (h : Hh) | fail
def R.st {α : Type} (a : R α) (r : Rho) (k : α → Hh → RS) : RS := @R.rec α (fun _ => RS) (fun a h => k a h) (fun x h => .exc x r h) .fail a
def forL (t : Tg) (body : Rho → Hh → RS) : Nat → Ir → Rho → Hh → RS
  | 0, _, _, _ => .fail
  | f + 1, k, r, h => match nxt k h with
    | .stop => .nx r h
    | .fail => .fail
    | .yld v k' => match asg t v r h with
      | some r' => match body r' h with
        | .nx r h => forL t body f k' r h
        | .cont r h => forL t body f k' r h
        | .brk r h => .nx r h
        | .ret v h => .ret v h
        | .exc x r h => .exc x r h
        | .fail => .fail
      | none => .fail
def whlL (c : Rho → Hh → R Bool) (body : Rho → Hh → RS) : Nat → Rho → Hh → RS
  | 0, _, _ => .fail
  | f + 1, r, h => match c r h with
    | .ok b h => match b with
      | true => match body r h with
        | .nx r h => whlL c body f r h
        | .cont r h => whlL c body f r h
        | .brk r h => .nx r h
        | .ret v h => .ret v h
        | .exc x r h => .exc x r h
        | .fail => .fail
      | false => .nx r h
    | .exc x h => .exc x r h
    | .fail => .fail
def lcL (t : Tg) (r : Rho) (c : Rho → Hh → R Bool) (e : Rho → Hh → R IV) (d : Nat) : Nat → Ir → Hh → R Unit
  | 0, _, _ => .fail
  | f + 1, k, h => match nxt k h with
    | .stop => .ok () h
    | .fail => .fail
    | .yld v k' => match asg t v r h with
      | some r' => match c r' h with
        | .ok b h => match b with
          | true => match e r' h with
            | .ok y h => match bmt .append (.ref d) [y] h with
              | .ok _ h => lcL t r c e d f k' h
              | _ => .fail
            | _ => .fail
          | false => lcL t r c e d f k' h
        | _ => .fail
      | none => .fail
def lcO (t : Tg) (r : Rho) (c : Rho → Hh → R Bool) (e : Rho → Hh → R Unit) : Nat → Ir → Hh → R Unit
  | 0, _, _ => .fail
  | f + 1, k, h => match nxt k h with
    | .stop => .ok () h
    | .fail => .fail
    | .yld v k' => match asg t v r h with
      | some r' => match c r' h with
        | .ok b h => match b with
          | true => match e r' h with
            | .ok _ h => lcO t r c e f k' h
            | _ => .fail
          | false => lcO t r c e f k' h
        | _ => .fail
      | none => .fail
mutual
def nmsT : Tg → List Nat
  | .nm i => [i]
  | .tp ts => nmsTs ts
def nmsTs : List Tg → List Nat
  | [] => []
  | t :: ts => nmsT t ++ nmsTs ts
end
def all? : Nat → Ir → Hh → Option (List IV)
  | 0, _, _ => none
  | f + 1, k, h => match nxt k h with
    | .stop => some []
    | .fail => none
    | .yld v k' => match all? f k' h with
      | some vs => some (v :: vs)
      | none => none
def turns : Nat := 1000000
structure Tab where
  glo : List IV
  /-- a class's __init__: a def -/
  ini : List Nat
  /-- a class's methods: a method's name to a def -/
  mth : List (List (Nat × Nat))
  /-- exceptions: which built-in class they stand under -/
  exs : List Nat
def mkE (n : Nat) (v : IV) (h : Hh) : R IV := match v with
  | .non => .ok (.ref n) h
  | _ => .fail
def mkK (ini : List Nat) (cf : Nat → List IV → Hh → R IV) (c : Nat) (vs : List IV) (h : Hh) : R IV := match at? ini c with
  | some f => match h.new (.inst c []) with
    | some h' => (cf f (.ref h.nx :: vs) h').bd (mkE h.nx)
    | none => .fail
  | none => .fail
def newD (t : Bool) (h : Hh) : R IV := match h.new (.dict ⟨t, false, []⟩) with
  | some h' => .ok (.ref h.nx) h'
  | none => .fail
def isR : IV → Bool
  | .ref _ => true
  | _ => false
def isList (x : IV) (h : Hh) : Bool := match x with
  | .ref n => match h.get n with
    | some (.lst _) => true
    | _ => false
  | _ => false
def isDct (x : IV) (h : Hh) : Bool := match x with
  | .ref n => match h.get n with
    | some (.dict d) => match d.t with
      | false => true
      | true => false
    | _ => false
  | _ => false
def recv (m : Bm) (x : IV) (h : Hh) : Bool := match m with
  | .get => isDct x h
  | .setdefault => isDct x h
  | _ => isList x h
def idxL (x y : IV) (h : Hh) : R IV := match isR x with
  | true => idx x y h
  | false => .fail
def rvR (x y : IV) (h : Hh) : R Ir := match x with
  | .int i => match y with
    | .int j => match within62 i with
      | true => match within62 j with
        | true => .ok (.rng (Int.sub (Int.add i (Int.ofNat (Int.toNat (Int.sub j i)))) 1) (-1) (Int.toNat (Int.sub j i))) h
        | false => .fail
      | false => .fail
    | _ => .fail
  | _ => .fail
def revK (x : IV) (h : Hh) : R Ir := match x with
  | .ref n => match h.get n with
    | some (.lst q) => .ok (.rvL n (lenR q)) h
    | _ => .fail
  | _ => .fail
def litK (k : Ir) (h : Hh) : R IV := match all? turns k h with
  | some xs => match Nat.blt xs.length fewL with
    | true => newL xs h
    | false => .fail
  | none => .fail
section
variable (T : Tab) (cf : Nat → List IV → Hh → R IV)
def putK (vs : List (Option IV)) (ks : List Nat) (ws : List IV) : List (Option IV) := match ks with
  | [] => vs
  | k :: ks => match ws with
    | [] => vs
    | w :: ws => putK (put vs k (some w)) ks ws
def allK : List (Option IV) → Option (List IV)
  | [] => some []
  | x :: r => match x with
    | some v => match allK r with
      | some s => some (v :: s)
      | none => none
    | none => none
mutual
def ev : E → Rho → Hh → R IV
  | .var i, r, h => ofO (get r i) h
  | .cst v, _, h => .ok v h
  | .glo g, _, h => ofO (at? T.glo g) h
  | .tup es, r, h => (evs es r h).bd fun vs h => .ok (.tup vs) h
  | .tupS es e, r, h => (evs es r h).bd fun vs h => (ev e r h).bd fun w h => match items w h with
    | some ws => .ok (.tup (vs ++ ws)) h
    | none => .fail
  | .lst es, r, h => (evs es r h).bd newL
  | .bin o a b, r, h => (ev a r h).bd fun x h => (ev b r h).bd fun y h => opr o x y h
  | .neg a, r, h => (ev a r h).bd fun x h => match x with
    | .int i => .ok (.int (Int.neg i)) h
    | _ => .fail
  | .not a, r, h => (ev a r h).bd fun x h => obl (onot (tru h x)) h
  | .and a b, r, h => (ev a r h).bd fun x h => match tru h x with
    | some true => ev b r h
    | some false => .ok x h
    | none => .fail
  | .or a b, r, h => (ev a r h).bd fun x h => match tru h x with
    | some true => .ok x h
    | some false => ev b r h
    | none => .fail
  | .cmp o a b, r, h => (ev a r h).bd fun x h => (ev b r h).bd fun y h => cmp o x y h
  | .chain o p a b c, r, h => (ev a r h).bd fun x h => (ev b r h).bd fun y h => (cmp o x y h).bd fun z h => match z with
    | .bl true => (ev c r h).bd fun w h => cmp p y w h
    | .bl false => .ok z h
    | _ => .fail
  | .chain3 o p q a b c d, r, h => (ev a r h).bd fun x h => (ev b r h).bd fun y h => (cmp o x y h).bd fun z h => match z with
    | .bl true => (ev c r h).bd fun w h => (cmp p y w h).bd fun z h => match z with
      | .bl true => (ev d r h).bd fun u h => cmp q w u h
      | .bl false => .ok z h
      | _ => .fail
    | .bl false => .ok z h
    | _ => .fail
  | .ite c a b, r, h => (ev c r h).bd fun x h => match tru h x with
    | some true => ev a r h
    | some false => ev b r h
    | none => .fail
  | .call f as, r, h => (evs as r h).bd fun vs h => cf f vs h
  | .callk f as ks ws, r, h => (evs as r h).bd fun vs h => (evs ws r h).bd fun us h =>
    match allK (putK (vs.map some ++ ks.map fun _ => none) ks us) with
    | some vs => cf f vs h
    | none => .fail
  | .bi b as, r, h => (evs as r h).bd fun vs h => match vs with
    | [x] => bi1 b x h
    | [x, y] => bi2 b x y h
    | _ => .fail
  | .bid b a d, r, h => (ev a r h).bd fun x h => (ev d r h).bd fun y h => bidK b x y h
  | .bi2 b a c, r, h => (ev a r h).bd fun x h => (ev c r h).bd fun y h => bi2 b x y h
  | .mth m o as, r, h => (ev o r h).bd fun x h => match mfind T.mth x m h with
    | some f => (evs as r h).bd fun vs h => cf f (x :: vs) h
    | none => .fail
  | .mk c as, r, h => (evs as r h).bd fun vs h => mkK T.ini cf c vs h
  | .att o f, r, h => (ev o r h).bd fun x h => fget x f h
  | .fnv i, _, h => .ok (.fn i) h
  | .callv e as, r, h => (ev e r h).bd fun x h => match x with
    | .fn i => (evs as r h).bd fun vs h => cf i vs h
    | _ => .fail
  | .pack l a, r, h => (ev a r h).bd fun y h => packK l y h
  | .pn, _, h => .ok (.tup []) h
  | .pc s a b, r, h => (ev a r h).bd fun x h => match spr s x h with
    | some xs => (ev b r h).bd fun y h => pcK xs y h
    | none => .fail
  | .min3 b x y z, r, h => (ev x r h).bd fun u h => (ev y r h).bd fun v h => (ev z r h).bd fun w h => min3K b u v w h
  | .idx a b, r, h => (ev a r h).bd fun x h => (ev b r h).bd fun y h => idx x y h
  | .sl a lo hi, r, h => (ev a r h).bd fun x h => (evo lo r h).bd fun l h => (evo hi r h).bd fun u h => slc x l u h
  | .slr a, r, h => (ev a r h).bd slcR
  | .bm m o as, r, h => (ev o r h).bd fun x h => match recv m x h with
    | true => (evs as r h).bd fun vs h => bmt m x vs h
    | false => .fail
  | .lc own elt t it cs, r, h => (evi it r h).bd fun k h => (newL [] h).bd fun d h => match d with
    | .ref n => (lcL t (wip r own) (evt cs) (ev elt) n turns k h).bd fun _ h => .ok d h
    | _ => .fail
  | .lc2 own elt t it cs t2 it2 cs2, r, h => (evi it r h).bd fun k h => (newL [] h).bd fun d h => match d with
    | .ref n => (lcO t (wip r own) (evt cs) (fun r h => (evi it2 r h).bd fun k2 h => lcL t2 (wip r (nmsT t2)) (evt cs2) (ev elt) n turns k2 h) turns k h).bd fun _ h => .ok d h
    | _ => .fail
  | .dc .., _, _ => .fail
  | .dnew t, _, h => newD t h
  | .lit it, r, h => (evi it r h).bd litK
  | .isi a ts, r, h => (ev a r h).bd fun x h => obl (tyAny T.exs x h ts) h
def evs : List E → Rho → Hh → R (List IV)
  | [], _, h => .ok [] h
  | e :: es, r, h => (ev e r h).bd fun x h => (evs es r h).bd fun xs h => .ok (x :: xs) h
def evo : Option E → Rho → Hh → R (Option Int)
  | none, _, h => .ok none h
  | some e, r, h => (ev e r h).bd fun x h => match x with
    | .int i => .ok (some i) h
    | _ => .fail
def evt : List E → Rho → Hh → R Bool
  | [], _, h => .ok true h
  | e :: _, r, h => (ev e r h).bd fun x h => match tru h x with
    | some b => .ok b h
    | none => .fail
def evi : It → Rho → Hh → R Ir
  | .ex e, r, h => (ev e r h).bd fun x h => match x with
    | .rng lo n => .ok (.rng lo 1 n) h
    | _ => match scOf x h with
      | some s => .ok (.one s) h
      | none => .fail
  | .rng1 a, r, h => (ev a r h).bd fun x h => match x with
    | .int j => match within62 j with
      | true => .ok (.rng 0 1 (Int.toNat j)) h
      | false => .fail
    | _ => .fail
  | .rng2 a b, r, h => (ev a r h).bd fun x h => (ev b r h).bd fun y h => match x with
    | .int i => match y with
      | .int j => match within62 i with
        | true => match within62 j with
          | true => .ok (.rng i 1 (Int.toNat (Int.sub j i))) h
          | false => .fail
        | false => .fail
      | _ => .fail
    | _ => .fail
  | .rng3 a b, r, h => (ev a r h).bd fun x h => (ev b r h).bd fun y h => match x with
    | .int i => match y with
      | .int j => match within62 i with
        | true => match within62 j with
          | true => .ok (.rng i (-1) (Int.toNat (Int.sub i j))) h
          | false => .fail
        | false => .fail
      | _ => .fail
    | _ => .fail
  | .enum e, r, h => (ev e r h).bd fun x h => match scOf x h with
    | some s => .ok (.en 0 s) h
    | none => .fail
  | .zip a b, r, h => (ev a r h).bd fun x h => (ev b r h).bd fun y h => match scOf x h with
    | some s => match scOf y h with
      | some t => .ok (.zi s t) h
      | none => .fail
    | none => .fail
  | .rev e, r, h => (ev e r h).bd fun x h => revK x h
  | .items e, r, h => .fail
  | .values e, r, h => .fail
  | .revR1 a, r, h => (ev a r h).bd fun y h => rvR (.int 0) y h
  | .revR a b, r, h => (ev a r h).bd fun x h => (ev b r h).bd fun y h => rvR x y h
  | .zip3 a b c, r, h => (ev a r h).bd fun x h => (ev b r h).bd fun y h => (ev c r h).bd fun z h => match scOf x h with
    | some s => match scOf y h with
      | some t => match scOf z h with
        | some u => .ok (.z3 s t u) h
        | none => .fail
      | none => .fail
    | none => .fail
end
def evb (e : E) (r : Rho) (h : Hh) : R Bool := (ev T cf e r h).bd fun x h => match tru h x with
  | some b => .ok b h
  | none => .fail
def ptV (v : Option IV) : Pt → Option IV
  | .s x => some (.str x)
  | .f => v
  | .b b => some (.bl b)
def ptVs (v : Option IV) : List Pt → Option (List IV)
  | [] => some []
  | p :: ps => match ptV v p with
    | some x => match ptVs v ps with
      | some xs => some (x :: xs)
      | none => none
    | none => none
def clause (n : Nat) (x : Ex) : List Hc → Rho → Hh → RS
  | [], r, h => .exc x r h
  | k :: hs, r, h => match Nat.beq x.c k.c with
    | true => match ptVs x.v k.ps with
      | some vs => match newLst h vs with
        | some h' => match Nat.blt k.en r.length with
          | true => match k.into with
            | some j => .nx (put (put r j (some (.ref h.nx))) k.en none) h'
            | none => .ret (.ref h.nx) h'
          | false => .fail
        | none => .fail
      | none => .fail
    | false => match Nat.blt x.c n with
      | true => clause n x hs r h
      | false => .fail
def kls (x : IV) (h : Hh) : Option Nat := match x with
  | .ref n => match h.get n with
    | some (.inst k _) => some k
    | _ => none
  | _ => none
def fsetS (a b : Option Nat) (x : IV) (f : Nat) (u : IV) (h3 : Hh) : Option Hh := match a with
  | some i => match b with
    | some j => match Nat.beq i j with
      | true => fset x f u h3
      | false => none
    | none => none
  | none => none
def fsetK (h : Hh) (x : IV) (f : Nat) (u : IV) (h3 : Hh) : Option Hh := fsetS (kls x h) (kls x h3) x f u h3
def nxO (r : Rho) (o : Option Hh) : RS := match o with
  | some h => .nx r h
  | none => .fail
def opi (o : Op) (x y : IV) (h : Hh) : R IV := match x with
  | .int i => match y with
    | .int j => match o with
      | .add => .ok (.int (Int.add i j)) h
      | .sub => .ok (.int (Int.sub i j)) h
      | _ => .fail
    | _ => .fail
  | _ => .fail
def sq (z : RS) (k : Rho → Hh → RS) : RS := match z with
  | .nx r h => k r h
  | .brk r h => .brk r h
  | .cont r h => .cont r h
  | .ret v h => .ret v h
  | .exc x r h => .exc x r h
  | .fail => .fail
def st2 : T2 → IV → Rho → Hh → RS
  | .nm i, v, r, h => .nx (put r i (some v)) h
  | .fld o f, v, r, h => (ev T cf o r h).st r fun x h => nxO r (fset x f v h)
  | .sub o i, v, r, h => (ev T cf o r h).st r fun x h => (ev T cf i r h).st r fun y h => nxO r (setAt x y v h)
def st2s : List T2 → List IV → Rho → Hh → RS
  | [], xs, r, h => match xs with
    | [] => .nx r h
    | _ :: _ => .fail
  | t :: ts, xs, r, h => match xs with
    | [] => .fail
    | x :: xs => sq (st2 T cf t x r h) fun r h => st2s ts xs r h
def unpK (n : Nat) (k : List IV → Rho → Hh → RS) (r : Rho) (v : IV) (h : Hh) : RS := match items v h with
  | some xs => match Nat.beq (lenR xs) n with
    | true => k xs r h
    | false => .fail
  | none => .fail
mutual
def ex : S → Rho → Hh → RS
  | .set i e, r, h => (ev T cf e r h).st r fun v h => .nx (put r i (some v)) h
  | .asg t e, r, h => (ev T cf e r h).st r fun v h => match asg t v r h with
    | some r => .nx r h
    | none => .fail
  | .swap is es, r, h => (evs T cf es r h).st r fun vs h => match asgs (is.map .nm) vs r h with
    | some r => .nx r h
    | none => .fail
  | .sub o i e, r, h => (ev T cf e r h).st r fun v h => (ev T cf o r h).st r fun x h => (ev T cf i r h).st r fun y h => nxO r (setAt x y v h)
  | .fld o f e, r, h => (ev T cf e r h).st r fun v h => (ev T cf o r h).st r fun x h => nxO r (fset x f v h)
  | .aug i o e, r, h => match get r i with
    | some x => (ev T cf e r h).st r fun y h => (opi o x y h).st r fun z h => .nx (put r i (some z)) h
    | none => .fail
  | .augS a i o e, r, h => (ev T cf a r h).st r fun x h => (ev T cf i r h).st r fun y h => (idxL x y h).st r fun z h =>
    (ev T cf e r h).st r fun w h => (opi o z w h).st r fun u h => nxO r (setAt x y u h)
  | .augF a f o e, r, h => (ev T cf a r h).st r fun x h => (fget x f h).st r fun z h1 => (ev T cf e r h1).st r fun w h2 => (opi o z w h2).st r fun u h3 => nxO r (fsetK h x f u h3)
  | .exp e, r, h => (ev T cf e r h).st r fun _ h => .nx r h
  | .ret e, r, h => (ev T cf e r h).st r fun v h => .ret v h
  | .pass, r, h => .nx r h
  | .brk, r, h => .brk r h
  | .cont, r, h => .cont r h
  | .ifs c a b, r, h => (evb T cf c r h).st r fun z h => match z with
    | true => exs a r h
    | false => exs b r h
  | .whl c b, r, h => whlL (evb T cf c) (exs b) turns r h
  | .fors t it b, r, h => (evi T cf it r h).st r fun k h => forL t (exs b) turns k r h
  | .rais c as, r, h => (evs T cf as r h).st r fun vs h => match vs with
    | [] => .exc ⟨c, none⟩ r h
    | v :: _ => .exc ⟨c, some v⟩ r h
  | .tryx b hs, r, h => match exs b r h with
    | .exc x r h => clause T.exs.length x hs r h
    | z => z
  | .unp ts e, r, h => (ev T cf e r h).st r (unpK ts.length (st2s T cf ts) r)
  | .del a i, r, h => (ev T cf a r h).st r fun x h => (ev T cf i r h).st r fun y h => nxO r (delAt x y h)
def exs : List S → Rho → Hh → RS
  | [], r, h => .nx r h
  | s :: ss, r, h => match ex s r h with
    | .nx r h => exs ss r h
    | z => z
end
end
structure Fd where
  ps : Nat
  ns : Nat
  body : List S
def slots (vs : List IV) (n : Nat) : Rho := @Nat.rec (fun _ => List IV → Rho) (fun _ => []) (fun _ go vs => @List.rec IV (fun _ => Rho) (none :: go []) (fun v vs _ => some v :: go vs) vs) n vs
def body (T : Tab) (cf : Nat → List IV → Hh → R IV) (d : Fd) (vs : List IV) (h : Hh) : R IV := match Nat.beq vs.length d.ps with
  | true => match exs T cf d.body (slots vs d.ns) h with
    | .nx _ h => .ok .non h
    | .ret v h => .ok v h
    | .exc x _ h => .exc x h
    | _ => .fail
  | false => .fail
def cfn (T : Tab) (F : List Fd) : Nat → Nat → List IV → Hh → R IV
  | 0 => fun _ _ _ => .fail
  | n + 1 => fun f vs h => match at? F f with
    | some d => body T (cfn T F n) d vs h
    | none => .fail
def h0 : Hh := ⟨0, .nil⟩
def noRef (v : IV) : Bool := @IV.rec (fun _ => Bool) (fun _ => Bool) true (fun _ => true) (fun _ => true) (fun _ => true) (fun _ ih => ih) (fun _ _ => true) (fun _ => false) (fun _ _ _ => false) (fun _ _ => false) (fun _ => false) true (fun _ _ a b => @Bool.rec (fun _ => Bool) false b a) v
def noRefs (vs : List IV) : Bool := @List.rec IV (fun _ => Bool) true (fun v _ b => @Bool.rec (fun _ => Bool) false b (noRef v)) vs
def noRefO (o : Option IV) : Bool := match o with
  | none => true
  | some v => noRef v
def pur (cf : Nat → List IV → Hh → R IV) (f : Nat) (vs : List IV) (h : Hh) (z : R IV) : R IV := match z with
  | .ok v _ => match noRef v with
    | true => .ok v h
    | false => cf f vs h
  | .exc x _ => match noRefO x.v with
    | true => .exc x h
    | false => cf f vs h
  | .fail => cf f vs h
def cfP (cf : Nat → List IV → Hh → R IV) (f : Nat) (vs : List IV) (h : Hh) : R IV := match noRefs vs with
  | true => pur cf f vs h (cf f vs h0)
  | false => cf f vs h
def cfnP (T : Tab) (F : List Fd) : Nat → Nat → List IV → Hh → R IV
  | 0 => fun _ _ _ => .fail
  | n + 1 => fun f vs h => match at? F f with
    | some d => body T (cfP (cfnP T F n)) d vs h
    | none => .fail
def isT : R IV → Bool
  | .ok v _ => match v with
    | .bl b => b
    | _ => false
  | _ => false
end
end Rk
namespace Rk
open PySem PySem.Spec PyProof.Rows L2
abbrev Mp := Nat → Option Addr
structure Pd where
  K : PySem.W.Frag
  cA : Nat → Addr
  fN : Nat → Str
  kA : Nat → Addr
  nc : Nat
  nf : Nat
  fl : Nat → Str
  fi : ∀ i j, i < nf → j < nf → fl i = fl j → i = j
  nd : Nat
  dA : Nat → Addr
instance : Coe Pd PySem.W.Frag := ⟨Pd.K⟩
def RngAt (H : Hp) (a : Addr) (lo : Int) (n : Nat) : Prop := ∃ hi : Int, H a = some (.rng lo hi) ∧ (hi - lo).toNat = n ∧ -(2 ^ 62) ≤ lo ∧ lo < 2 ^ 62 ∧ -(2 ^ 62) ≤ hi ∧ hi < 2 ^ 62
def RoL (K : Pd) (m : Mp) (H : Hp) (a : Addr) (vs : List V) : Prop :=
  (H a = some (.lst vs) ∧ ∀ n, m n ≠ some a) ∨ (∃ o, H a = some (.frz o (.lst vs))) ∨ ∃ (o : Obj) (its : Array Value) (n : Nat), K.K.lookup a = some o ∧ o.cls = .type "list" ∧ o.dict = none ∧ o.data = .seq its n ∧ its.size ≤ sizeLine ∧ Vals vs its.toList
theorem RoL.sq {K : Pd} {m : Mp} {H : Hp} {a : Addr} {vs : List V} (h : RoL K m H a vs) : SqL K H a vs := by
  rcases h with ⟨h, _⟩ | h | h
  · exact .inl (.inl h)
  · exact .inl (.inr h)
  · exact .inr h
mutual
inductive RV (K : Pd) (m : Mp) (H : Hp) : IV → V → Prop
  | non : RV K m H .non .non
  | bl (b : Bool) : RV K m H (.bl b) (.bl b)
  | int (i : Int) : RV K m H (.int i) (.int i)
  | str (x : Str) : RV K m H (.str x) (.str x)
  | tup {xs : List IV} {a : Addr} {vs : List V} : SqT K H a vs → RVs K m H xs vs → RV K m H (.tup xs) (.ref a)
  | rng {lo : Int} {n : Nat} {a : Addr} : RngAt H a lo n → RV K m H (.rng lo n) (.ref a)
  | ref {n : Nat} {a : Addr} : m n = some a → RV K m H (.ref n) (.ref a)
  | exn {c : Nat} {v : IV} {x : V} : RV K m H (.exn c v) x
  | rol {xs : List IV} {a : Addr} {vs : List V} : RoL K m H a vs → RVs K m H xs vs → RV K m H (.rol xs) (.ref a)
  | fn {i : Nat} : i < K.nd → RV K m H (.fn i) (.ref (K.dA i))
inductive RVs (K : Pd) (m : Mp) (H : Hp) : List IV → List V → Prop
  | nil : RVs K m H [] []
  | cons {x : IV} {v : V} {xs : List IV} {vs : List V} : RV K m H x v → RVs K m H xs vs → RVs K m H (x :: xs) (v :: vs)
end
def kyOf : IV → Option Key
  | .int i => some (.inl i)
  | .str x => some (.inr x)
  | _ => none
def kyS : List IV → Option (List Key)
  | [] => some []
  | x :: r => match kyOf x with
    | some k => match kyS r with
      | some s => some (k :: s)
      | none => none
    | none => none
def kyT : IV → Option (List Key)
  | .tup xs => kyS xs
  | _ => none
inductive RKv {κ : Type} (f : IV → Option κ) (K : Pd) (m : Mp) (H : Hp) : List (IV × IV) → List (κ × V) → Prop
  | nil : RKv f K m H [] []
  | cons {k v : IV} {q : κ} {x : V} {kvs : List (IV × IV)} {r : List (κ × V)} : f k = some q → RV K m H v x → RKv f K m H kvs r → RKv f K m H ((k, v) :: kvs) ((q, x) :: r)
def RdL (lk : Bool) (H : Hp) (a : Addr) (u : HO) : Prop := match lk with
  | false => H a = some u
  | true => ∃ o, H a = some (.frz o u)
inductive RFs (K : Pd) (m : Mp) (H : Hp) : List (Nat × IV) → List (Str × V) → Prop
  | nil : RFs K m H [] []
  | cons {i : Nat} {v : IV} {x : V} {fs : List (Nat × IV)} {gs : List (Str × V)} : i < K.nf → RV K m H v x → RFs K m H fs gs → RFs K m H ((i, v) :: fs) ((K.fl i, x) :: gs)
def RO (K : Pd) (m : Mp) (H : Hp) (a : Addr) : IO → Prop
  | .lst q => ∃ vs, H a = some (.lst vs) ∧ RVs K m H (revR q) vs
  | .dict d => match d.t with
    | false => ∃ r, RdL d.lk H a (.dK r) ∧ RKv kyOf K m H d.kvs r
    | true => ∃ r, RdL d.lk H a (.dT r) ∧ RKv kyT K m H d.kvs r
  | .inst c fs => c < K.nc ∧ ∃ dx gs, H a = some (.ins (K.kA c) dx gs) ∧ H dx = some (.own a) ∧ RFs K m H fs gs
def frO : IO → Bool
  | .dict d => match d.lk with
    | true => false
    | false => true
  | _ => true
structure RH (K : Pd) (m : Mp) (h : Hh) (H : Hp) : Prop where
  lo : ∀ n a, m n = some a → n < h.nx
  obj : ∀ n o, h.get n = some o → ∃ a, m n = some a ∧ RO K m H a o
  un : ∀ n a, m n = some a → ∃ o, h.get n = some o
  inj : ∀ n n' a, m n = some a → m n' = some a → n = n'
def MutO : HO → Prop
  | .lst _ => True
  | .dK _ => True
  | .dT _ => True
  | .set _ _ => True
  | .ins _ _ _ => True
  | _ => False
structure Xt (m : Mp) (H : Hp) (m' : Mp) (H' : Hp) : Prop where
  mp : ∀ n a, m n = some a → m' n = some a
  nw : ∀ n a, m' n = some a → m n = some a ∨ H a = none
  st : ∀ a, H' a = none → H a = none
  kp : ∀ a u, H a = some u → (MutO u → ∀ n, m n ≠ some a) → H' a = some u
theorem Xt.refl {m : Mp} {H : Hp} : Xt m H m H := ⟨fun _ _ h => h, fun _ _ h => .inl h, fun _ h => h, fun _ _ h _ => h⟩
theorem Xt.trans {m m' m2 : Mp} {H H' H2 : Hp} (p : Xt m H m' H') (q : Xt m' H' m2 H2) : Xt m H m2 H2 := by
  refine ⟨fun n a e => q.mp n a (p.mp n a e), fun n a e => ?_, fun a e => p.st a (q.st a e), fun a u e g => ?_⟩
  · rcases q.nw n a e with e1 | e1
    · exact p.nw n a e1
    · exact .inr (p.st a e1)
  · refine q.kp a u (p.kp a u e g) fun mu n hn => ?_
    rcases p.nw n a hn with e1 | e1
    · exact g mu n e1
    · rw [e] at e1
      cases e1
theorem Xt.sqT {K : PySem.W.Frag} {m m' : Mp} {H H' : Hp} (p : Xt m H m' H') {a : Addr} {vs : List V} (h : SqT K H a vs) : SqT K H' a vs := by
  rcases h with (h | ⟨o, h⟩) | h
  · exact .inl (.inl (p.kp a _ h fun z => z.elim))
  · exact .inl (.inr ⟨o, p.kp a _ h fun z => z.elim⟩)
  · exact .inr h
theorem Xt.roL {K : Pd} {m m' : Mp} {H H' : Hp} (p : Xt m H m' H') {a : Addr} {vs : List V} (h : RoL K m H a vs) : RoL K m' H' a vs := by
  rcases h with ⟨h, q⟩ | ⟨o, h⟩ | h
  · refine .inl ⟨p.kp a _ h fun _ => q, fun n e => ?_⟩
    rcases p.nw n a e with z | z
    · exact q n z
    · rw [h] at z
      cases z
  · exact .inr (.inl ⟨o, p.kp a _ h fun z => z.elim⟩)
  · exact .inr (.inr h)
theorem Xt.rngAt {m m' : Mp} {H H' : Hp} (p : Xt m H m' H') {a : Addr} {lo : Int} {n : Nat} (h : RngAt H a lo n) : RngAt H' a lo n := by
  obtain ⟨hi, e, r⟩ := h
  exact ⟨hi, p.kp a _ e fun z => z.elim, r⟩
mutual
theorem RV.mono {K : Pd} {m m' : Mp} {H H' : Hp} (p : Xt m H m' H') : ∀ {x : IV} {v : V}, RV K m H x v → RV K m' H' x v
  | _, _, .non => .non
  | _, _, .bl b => .bl b
  | _, _, .int i => .int i
  | _, _, .str x => .str x
  | _, _, .tup s r => .tup (p.sqT s) (RVs.mono p r)
  | _, _, .rng r => .rng (p.rngAt r)
  | _, _, .ref e => .ref (p.mp _ _ e)
  | _, _, .exn => .exn
  | _, _, .rol s r => .rol (p.roL s) (RVs.mono p r)
  | _, _, .fn h => .fn h
theorem RVs.mono {K : Pd} {m m' : Mp} {H H' : Hp} (p : Xt m H m' H') : ∀ {xs : List IV} {vs : List V}, RVs K m H xs vs → RVs K m' H' xs vs
  | _, _, .nil => .nil
  | _, _, .cons r s => .cons (RV.mono p r) (RVs.mono p s)
end
theorem RVs.length {K : Pd} {m : Mp} {H : Hp} : ∀ {xs : List IV} {vs : List V}, RVs K m H xs vs → xs.length = vs.length
  | _, _, .nil => rfl
  | _, _, .cons _ s => by
    show _ + 1 = _ + 1
    rw [RVs.length s]
theorem RVs.app {K : Pd} {m : Mp} {H : Hp} : ∀ {xs ys : List IV} {vs ws : List V}, RVs K m H xs vs → RVs K m H ys ws → RVs K m H (xs ++ ys) (vs ++ ws)
  | _, _, _, _, .nil, s => s
  | _, _, _, _, .cons r q, s => .cons r (RVs.app q s)
theorem RVs.at {K : Pd} {m : Mp} {H : Hp} : ∀ {xs : List IV} {vs : List V} {i : Nat} {x : IV}, RVs K m H xs vs → nth xs i = some x → ∃ v, vs[i]? = some v ∧ RV K m H x v
  | _, _, _, _, .nil, e => by cases e
  | _, _, 0, _, .cons r _, e => by
    cases e
    exact ⟨_, rfl, r⟩
  | _, _, i + 1, _, .cons _ s, e => by
    obtain ⟨v, h1, h2⟩ := RVs.at (i := i) s e
    exact ⟨v, by simpa using h1, h2⟩
theorem RVs.drop {K : Pd} {m : Mp} {H : Hp} : ∀ {xs : List IV} {vs : List V} (n : Nat), RVs K m H xs vs → RVs K m H (xs.drop n) (vs.drop n)
  | _, _, 0, r => r
  | _, _, _ + 1, .nil => .nil
  | _, _, n + 1, .cons _ s => RVs.drop n s
theorem RVs.take {K : Pd} {m : Mp} {H : Hp} : ∀ {xs : List IV} {vs : List V} (n : Nat), RVs K m H xs vs → RVs K m H (xs.take n) (vs.take n)
  | _, _, 0, _ => .nil
  | _, _, _ + 1, .nil => .nil
  | _, _, n + 1, .cons r s => .cons r (RVs.take n s)
theorem RVs.set {K : Pd} {m : Mp} {H : Hp} {x : IV} {v : V} (r : RV K m H x v) : ∀ {xs : List IV} {vs : List V} (n : Nat), RVs K m H xs vs → RVs K m H (xs.set n x) (vs.set n v)
  | _, _, _, .nil => .nil
  | _, _, 0, .cons _ s => .cons r s
  | _, _, n + 1, .cons q s => .cons q (RVs.set r n s)
theorem RVs.rev {K : Pd} {m : Mp} {H : Hp} : ∀ {xs : List IV} {vs : List V}, RVs K m H xs vs → RVs K m H xs.reverse vs.reverse
  | _, _, .nil => .nil
  | _, _, .cons r s => by
    rw [List.reverse_cons, List.reverse_cons]
    exact RVs.app (RVs.rev s) (.cons r .nil)
theorem RVs.nilOf {K : Pd} {m : Mp} {H : Hp} {vs : List V} (r : RVs K m H [] vs) : vs = [] := by
  cases r
  rfl
theorem nth_of {xs : List IV} {i : Nat} (h : i < xs.length) : ∃ x, nth xs i = some x := by
  induction xs generalizing i with
  | nil => cases h
  | cons x r ih =>
    cases i with
    | zero => exact ⟨x, rfl⟩
    | succ j => exact ih (i := j) (by simpa using h)
theorem nth_none {xs : List IV} {i : Nat} (h : nth xs i = none) : xs.length ≤ i := by
  rcases Nat.lt_or_ge i xs.length with q | q
  · obtain ⟨x, e⟩ := nth_of q
    rw [e] at h
    cases h
  · exact q
theorem Tr.set_get : ∀ {t t' : Tr} {n : Nat} {u : IO}, t.set n u = some t' → (t'.get n = some u) ∧ ∀ k, k ≠ n → t'.get k = t.get k
  | .nil, t', n, u, h => by
    rw [Tr.set_nil] at h
    cases e : Nat.beq n 0 with
    | false =>
      rw [e] at h
      cases h
    | true =>
      rw [e] at h
      cases h
      have hn : n = 0 := Nat.eq_of_beq_eq_true e
      subst hn
      refine ⟨rfl, fun k hk => ?_⟩
      rw [Tr.get_nd, Tr.get_nil]
      have hb : Nat.beq k 0 = false := by
        cases q : Nat.beq k 0 with
        | false => rfl
        | true => exact absurd (Nat.eq_of_beq_eq_true q) hk
      rw [hb]
      cases Nat.beq (Nat.mod k 2) 1 <;> rfl
  | .nd l o r, t', n, u, h => by
    rw [Tr.set_nd] at h
    cases e : Nat.beq n 0 with
    | true =>
      rw [e] at h
      cases h
      have hn : n = 0 := Nat.eq_of_beq_eq_true e
      subst hn
      refine ⟨rfl, fun k hk => ?_⟩
      rw [Tr.get_nd, Tr.get_nd]
      have hb : Nat.beq k 0 = false := by
        cases q : Nat.beq k 0 with
        | false => rfl
        | true => exact absurd (Nat.eq_of_beq_eq_true q) hk
      rw [hb]
    | false =>
      rw [e] at h
      have n0 : n ≠ 0 := fun z => by
        subst z
        cases e
      cases e2 : Nat.beq (Nat.mod n 2) 1 with
      | true =>
        rw [e2] at h
        have m1 : n % 2 = 1 := Nat.eq_of_beq_eq_true e2
        cases q : l.set (Nat.div n 2) u with
        | none =>
          rw [q] at h
          cases h
        | some l' =>
          rw [q] at h
          cases h
          obtain ⟨h1, h2⟩ := Tr.set_get q
          refine ⟨?_, fun k hk => ?_⟩
          · rw [Tr.get_nd]
            rw [e, e2]
            exact h1
          · rw [Tr.get_nd, Tr.get_nd]
            cases ek : Nat.beq k 0 with
            | true => rfl
            | false =>
              cases ek2 : Nat.beq (Nat.mod k 2) 1 with
              | false => rfl
              | true =>
                have m2 : k % 2 = 1 := Nat.eq_of_beq_eq_true ek2
                exact h2 _ fun z => hk (by
                  have z' : k / 2 = n / 2 := z
                  omega)
      | false =>
        rw [e2] at h
        have m1 : n % 2 ≠ 1 := fun z => by
          have : Nat.beq (Nat.mod n 2) 1 = true := by
            show Nat.beq (n % 2) 1 = true
            rw [z]
            rfl
          rw [e2] at this
          cases this
        cases q : r.set (Nat.sub (Nat.div n 2) 1) u with
        | none =>
          rw [q] at h
          cases h
        | some r' =>
          rw [q] at h
          cases h
          obtain ⟨h1, h2⟩ := Tr.set_get q
          refine ⟨?_, fun k hk => ?_⟩
          · rw [Tr.get_nd]
            rw [e, e2]
            exact h1
          · rw [Tr.get_nd, Tr.get_nd]
            cases ek : Nat.beq k 0 with
            | true => rfl
            | false =>
              have k0 : k ≠ 0 := fun z => by
                subst z
                cases ek
              cases ek2 : Nat.beq (Nat.mod k 2) 1 with
              | true => rfl
              | false =>
                have m2 : k % 2 ≠ 1 := fun z => by
                  have : Nat.beq (Nat.mod k 2) 1 = true := by
                    show Nat.beq (k % 2) 1 = true
                    rw [z]
                    rfl
                  rw [ek2] at this
                  cases this
                exact h2 _ fun z => hk (by
                  have z' : k / 2 - 1 = n / 2 - 1 := z
                  omega)
theorem Hh.set_ok {h h' : Hh} {n : Nat} {u : IO} (e : h.set n u = some h') : h'.nx = h.nx ∧ h'.get n = some u ∧ ∀ k, k ≠ n → h'.get k = h.get k := by
  unfold Hh.set at e
  cases q : h.t.set n u with
  | none =>
    rw [q] at e
    cases e
  | some t =>
    rw [q] at e
    cases e
    exact ⟨rfl, (Tr.set_get q).1, (Tr.set_get q).2⟩
theorem Hh.new_ok {h h' : Hh} {u : IO} (e : h.new u = some h') : h'.nx = h.nx + 1 ∧ h'.get h.nx = some u ∧ ∀ k, k ≠ h.nx → h'.get k = h.get k := by
  unfold Hh.new at e
  cases q : h.t.set h.nx u with
  | none =>
    rw [q] at e
    cases e
  | some t =>
    rw [q] at e
    cases e
    exact ⟨rfl, (Tr.set_get q).1, (Tr.set_get q).2⟩
theorem RKv.mono {κ : Type} {f : IV → Option κ} {K : Pd} {m m' : Mp} {H H' : Hp} (p : Xt m H m' H') : ∀ {kvs : List (IV × IV)} {r : List (κ × V)}, RKv f K m H kvs r → RKv f K m' H' kvs r
  | _, _, .nil => .nil
  | _, _, .cons e r s => .cons e (r.mono p) (RKv.mono p s)
theorem RFs.mono {K : Pd} {m m' : Mp} {H H' : Hp} (p : Xt m H m' H') : ∀ {fs : List (Nat × IV)} {gs : List (Str × V)}, RFs K m H fs gs → RFs K m' H' fs gs
  | _, _, .nil => .nil
  | _, _, .cons e r s => .cons e (r.mono p) (RFs.mono p s)
theorem RFs.len {K : Pd} {m : Mp} {H : Hp} : ∀ {fs : List (Nat × IV)} {gs : List (Str × V)}, RFs K m H fs gs → fs.length = gs.length
  | _, _, .nil => rfl
  | _, _, .cons _ _ s => congrArg (· + 1) s.len
theorem RFs.at_ {K : Pd} {m : Mp} {H : Hp} {i : Nat} {v : IV} (hi : i < K.nf) : ∀ {fs : List (Nat × IV)} {gs : List (Str × V)}, RFs K m H fs gs → look i fs = some v → ∃ x, gs.lookup (K.fl i) = some x ∧ RV K m H v x
  | _, _, .nil, e => by cases e
  | _, _, .cons (i := j) (v := w) (x := y) (fs := fs) (gs := gs) hj r s, e => by
    have e : (match Nat.beq j i with
      | true => some w
      | false => look i fs) = some v := e
    cases q : Nat.beq j i with
    | true =>
      rw [q] at e
      cases e
      have z := Nat.eq_of_beq_eq_true q
      subst z
      exact ⟨y, by simp [List.lookup], r⟩
    | false =>
      rw [q] at e
      obtain ⟨x, h1, h2⟩ := RFs.at_ hi s e
      have ne : ¬ K.fl i = K.fl j := fun z => by
        rw [K.fi i j hi hj z, Nat.beq_refl] at q
        cases q
      have nb : (K.fl i == K.fl j) = false := beq_eq_false_iff_ne.mpr ne
      exact ⟨x, by simp only [List.lookup, nb]; exact h1, h2⟩
theorem RFs.on {K : Pd} {m : Mp} {H : Hp} {y : Str} {x : V} : ∀ {fs : List (Nat × IV)} {gs : List (Str × V)}, RFs K m H fs gs → gs.lookup y = some x → ∃ i, i < K.nf ∧ K.fl i = y
  | _, _, .nil, e => by cases e
  | _, _, .cons (i := j) hj r s, e => by
    cases q : (y == K.fl j) with
    | true => exact ⟨j, hj, (beq_iff_eq.mp q).symm⟩
    | false =>
      simp only [List.lookup, q] at e
      exact RFs.on s e
theorem RdL.same {lk : Bool} {H H' : Hp} {a : Addr} {u : HO} (e : H' a = H a) (h : RdL lk H a u) : RdL lk H' a u := by
  cases lk with
  | false => exact e.trans h
  | true =>
    obtain ⟨o, h⟩ := h
    exact ⟨o, e.trans h⟩
theorem RdL.any {lk : Bool} {H : Hp} {a : Addr} {u : HO} (h : RdL lk H a u) : ∃ w, H a = some w := by
  cases lk with
  | false => exact ⟨_, h⟩
  | true =>
    obtain ⟨o, h⟩ := h
    exact ⟨_, h⟩
section
variable {K : Pd} {m : Mp} {h h' : Hh} {H : Hp}
theorem RO.any {a : Addr} {o : IO} (ro : RO K m H a o) : ∃ u, H a = some u := by
  cases o with
  | lst xs =>
    obtain ⟨vs, q, _⟩ := ro
    exact ⟨_, q⟩
  | dict d =>
    obtain ⟨t, lk, kvs⟩ := d
    cases t with
    | false =>
      obtain ⟨r, q, _⟩ := ro
      exact q.any
    | true =>
      obtain ⟨r, q, _⟩ := ro
      exact q.any
  | inst c fs =>
    obtain ⟨_, dx, gs, q, _⟩ := ro
    exact ⟨_, q⟩
theorem RO.mu {a : Addr} {o : IO} (ro : RO K m H a o) (hf : frO o = true) : ∃ u, H a = some u ∧ MutO u := by
  cases o with
  | lst xs =>
    obtain ⟨vs, q, _⟩ := ro
    exact ⟨_, q, trivial⟩
  | dict d =>
    obtain ⟨t, lk, kvs⟩ := d
    cases lk with
    | true => cases hf
    | false =>
      cases t with
      | false =>
        obtain ⟨r, q, _⟩ := ro
        exact ⟨_, q, trivial⟩
      | true =>
        obtain ⟨r, q, _⟩ := ro
        exact ⟨_, q, trivial⟩
  | inst c fs =>
    obtain ⟨_, dx, gs, q, _⟩ := ro
    exact ⟨_, q, trivial⟩
theorem RH.sm (r : RH K m h H) {n : Nat} {a : Addr} (e : m n = some a) : ∃ u, H a = some u := by
  obtain ⟨o, ho⟩ := r.un n a e
  obtain ⟨b, hb, ro⟩ := r.obj n o ho
  rw [e] at hb
  cases hb
  exact ro.any
theorem RH.here (r : RH K m h H) {n : Nat} {a : Addr} {o : IO} (e : m n = some a) (q : h.get n = .some o) : RO K m H a o := by
  obtain ⟨b, hb, ro⟩ := r.obj n _ q
  rw [e] at hb
  cases hb
  exact ro
theorem RH.mu (r : RH K m h H) {n : Nat} {a : Addr} {o : IO} (e : m n = some a) (q : h.get n = .some o) (hf : frO o = true) : ∃ u, H a = some u ∧ MutO u := (r.here e q).mu hf
theorem RO.mono {m' : Mp} {H' : Hp} (p : Xt m H m' H') {a : Addr} {o : IO} (e : H' a = H a) (r : RO K m H a o) : RO K m' H' a o := by
  cases o with
  | lst xs =>
    obtain ⟨vs, q, s⟩ := r
    exact ⟨vs, by rw [e]; exact q, s.mono p⟩
  | dict d =>
    obtain ⟨t, lk, kvs⟩ := d
    cases t with
    | false =>
      obtain ⟨r, q, s⟩ := r
      exact ⟨r, q.same e, s.mono p⟩
    | true =>
      obtain ⟨r, q, s⟩ := r
      exact ⟨r, q.same e, s.mono p⟩
  | inst c fs =>
    obtain ⟨hc, dx, gs, q, w, s⟩ := r
    exact ⟨hc, dx, gs, by rw [e]; exact q, p.kp dx _ w fun z => z.elim, s.mono p⟩
theorem Xt.laid {p : Addr} {u : HO} (e : H p = none) : Xt m H m (upd H p u) := by
  refine ⟨fun _ _ z => z, fun _ _ z => .inl z, fun a z => ?_, fun a o z _ => ?_⟩
  · by_cases ha : a = p
    · rw [ha]; exact e
    · rw [upd_ne ha] at z; exact z
  · rw [upd_ne (ne_of_none z e)]; exact z
theorem RH.laid (r : RH K m h H) {p : Addr} {u : HO} (e : H p = none) : RH K m h (upd H p u) := by
  refine ⟨r.lo, fun n o ho => ?_, r.un, r.inj⟩
  obtain ⟨a, ha, ro⟩ := r.obj n o ho
  refine ⟨a, ha, ro.mono (Xt.laid e) (upd_ne ?_)⟩
  obtain ⟨w, hw⟩ := r.sm ha
  exact ne_of_none hw e
theorem RH.newO (r : RH K m h H) {p : Addr} {o : IO} {u : HO} (e : H p = none) (q : h.new o = .some h') (ro : ∀ m', Xt m H m' (upd H p u) → RO K m' (upd H p u) p o) :
    ∃ m', Xt m H m' (upd H p u) ∧ RH K m' h' (upd H p u) ∧ m' h.nx = .some p := by
  obtain ⟨q1, q2, q3⟩ := Hh.new_ok q
  have hx : Xt m H (fun n => if n = h.nx then .some p else m n) (upd H p u) := by
    refine ⟨fun n a z => ?_, fun n a z => ?_, fun a z => ?_, fun a o z _ => ?_⟩
    · show (if n = h.nx then _ else m n) = _
      rw [if_neg (Nat.ne_of_lt (r.lo n a z))]; exact z
    · by_cases hn : n = h.nx
      · rw [if_pos hn] at z; cases z; exact .inr e
      · rw [if_neg hn] at z; exact .inl z
    · by_cases ha : a = p
      · rw [ha]; exact e
      · rw [upd_ne ha] at z; exact z
    · rw [upd_ne (ne_of_none z e)]; exact z
  refine ⟨_, hx, ⟨fun n a z => ?_, fun n o z => ?_, fun n a z => ?_, fun n n' a z z' => ?_⟩, if_pos rfl⟩
  · rw [q1]
    by_cases hn : n = h.nx
    · rw [hn]; exact Nat.lt_succ_self _
    · rw [if_neg hn] at z; exact Nat.lt_succ_of_lt (r.lo n a z)
  · by_cases hn : n = h.nx
    · subst hn
      rw [q2] at z; cases z
      exact ⟨p, if_pos rfl, ro _ hx⟩
    · rw [q3 n hn] at z
      obtain ⟨a, ha, ro⟩ := r.obj n o z
      obtain ⟨w, hw⟩ := r.sm ha
      exact ⟨a, by show (if n = h.nx then _ else m n) = _; rw [if_neg hn]; exact ha, ro.mono hx (upd_ne (ne_of_none hw e))⟩
  · by_cases hn : n = h.nx
    · subst hn
      exact ⟨_, q2⟩
    · rw [if_neg hn] at z
      obtain ⟨o, ho⟩ := r.un n a z
      exact ⟨o, by rw [q3 n hn]; exact ho⟩
  · by_cases hn : n = h.nx
    · by_cases hn' : n' = h.nx
      · rw [hn, hn']
      · rw [if_pos hn] at z; rw [if_neg hn'] at z'
        cases z
        obtain ⟨w, hw⟩ := r.sm z'
        rw [e] at hw; cases hw
    · by_cases hn' : n' = h.nx
      · rw [if_neg hn] at z; rw [if_pos hn'] at z'
        cases z'
        obtain ⟨w, hw⟩ := r.sm z
        rw [e] at hw; cases hw
      · rw [if_neg hn] at z; rw [if_neg hn'] at z'
        exact r.inj n n' a z z'
theorem RH.newL (r : RH K m h H) {p : Addr} {xs : List IV} {vs : List V} (e : H p = none) (q : newLst h xs = .some h') (rv : RVs K m H xs vs) :
    ∃ m', Xt m H m' (upd H p (.lst vs)) ∧ RH K m' h' (upd H p (.lst vs)) ∧ m' h.nx = .some p := r.newO e q fun _ x => ⟨vs, upd_same, by rw [revR_revR]; exact rv.mono x⟩
theorem RH.setO (r : RH K m h H) {n : Nat} {a : Addr} {o' : IO} {u' : HO} (e : m n = some a) (mu : ∃ u, H a = some u ∧ MutO u) (q : h.set n o' = .some h') (ro : Xt m H m (upd H a u') → RO K m (upd H a u') a o') :
    Xt m H m (upd H a u') ∧ RH K m h' (upd H a u') := by
  obtain ⟨q1, q2, q3⟩ := Hh.set_ok q
  have hx : Xt m H m (upd H a u') := by
    refine ⟨fun _ _ z => z, fun _ _ z => .inl z, fun b z => ?_, fun b o z g => ?_⟩
    · by_cases hb : b = a
      · rw [hb, upd_same] at z; cases z
      · rw [upd_ne hb] at z; exact z
    · by_cases hb : b = a
      · subst hb
        obtain ⟨w, hw, mw⟩ := mu
        rw [z] at hw; cases hw
        exact absurd e (g mw n)
      · rw [upd_ne hb]; exact z
  refine ⟨hx, ⟨fun k b z => by rw [q1]; exact r.lo k b z, fun k o z => ?_, fun k b z => ?_, r.inj⟩⟩
  · by_cases hk : k = n
    · subst hk
      rw [q2] at z; cases z
      exact ⟨a, e, ro hx⟩
    · rw [q3 k hk] at z
      obtain ⟨b, hb, ro⟩ := r.obj k o z
      exact ⟨b, hb, ro.mono hx (upd_ne fun z => hk (r.inj k n a (by rw [← z]; exact hb) e))⟩
  · by_cases hk : k = n
    · exact ⟨_, by rw [hk]; exact q2⟩
    · obtain ⟨o, ho⟩ := r.un k b z
      exact ⟨o, by rw [q3 k hk]; exact ho⟩
theorem RH.lst (r : RH K m h H) {n : Nat} {a : Addr} {xs : List IV} (e : m n = some a) (q : h.get n = .some (.lst xs)) : ∃ vs, H a = .some (.lst vs) ∧ RVs K m H (revR xs) vs := r.here e q
theorem RH.setL (r : RH K m h H) {n : Nat} {a : Addr} {ys : List IV} {vs ws : List V} (e : m n = some a) (mu : H a = some (.lst vs)) (q : h.set n (.lst ys) = .some h') (rv : RVs K m H (revR ys) ws) :
    Xt m H m (upd H a (.lst ws)) ∧ RH K m h' (upd H a (.lst ws)) := r.setO e ⟨_, mu, trivial⟩ q fun x => ⟨ws, upd_same, rv.mono x⟩
end
end Rk
namespace Rk
noncomputable section
open PySem PySem.Spec PyProof.Rows L2
def FR (p : Pd) (m : Mp) (H : Hp) (x : Ex) (d : Option Addr) : Prop := match x.v with
  | none => d = none
  | some v => ∃ dd V, d = some dd ∧ H dd = some (.xd [(p.fN x.c, V)]) ∧ RV p m H v V
def Ok {α β : Type} (rel : Mp → Hp → α → β → Prop) (p : Pd) (m : Mp) (H : Hp) (E : XK) (r : R α) (Q : β → Hp → Prop) : Prop := match r with
  | .ok a h' => ∀ m' H' b, Xt m H m' H' → RH p m' h' H' → rel m' H' a b → Q b H'
  | .exc x h' => ∀ m' H' d, Xt m H m' H' → RH p m' h' H' → FR p m' H' x d → E (.ref (p.cA x.c)) d H'
  | .fail => False
def rEq (α : Type) : Mp → Hp → α → α → Prop := fun _ _ a b => a = b
section
variable {p : Pd} {α β γ δ : Type} {m m1 : Mp} {H H1 : Hp} {E : XK} {rel : Mp → Hp → α → β → Prop} {rel2 : Mp → Hp → γ → δ → Prop}
theorem Ok.mono {r : R α} {Q Q' : β → Hp → Prop} (h : Ok rel p m H E r Q) (i : ∀ b H', Q b H' → Q' b H') : Ok rel p m H E r Q' := by
  cases r with
  | ok a h' => exact fun m' H' b x y z => i b H' (h m' H' b x y z)
  | exc x h' => exact h
  | fail => exact h
theorem Ok.ext {r : R α} {Q : β → Hp → Prop} (h : Ok rel p m H E r Q) (x : Xt m H m1 H1) : Ok rel p m1 H1 E r Q := by
  cases r with
  | ok a h' => exact fun m' H' b y z q => h m' H' b (x.trans y) z q
  | exc e h' => exact fun m' H' d y z q => h m' H' d (x.trans y) z q
  | fail => exact h
theorem Ok.bd {r : R α} {k : α → Hh → R γ} {Q : δ → Hp → Prop} (h : Ok rel2 p m H E (r.bd k) Q) :
    Ok rel p m H E r fun b H1 => ∃ m1 h1 a, Xt m H m1 H1 ∧ RH p m1 h1 H1 ∧ rel m1 H1 a b ∧ Ok rel2 p m1 H1 E (k a h1) Q := by
  cases r with
  | ok a h' => exact fun m' H' b x y z => ⟨m', h', a, x, y, z, Ok.ext h x⟩
  | exc e h' => exact h
  | fail => exact h
end
def RSl (K : Pd) (m : Mp) (H : Hp) (r : Rho) (σ : L2.St) : Prop := σ.length = r.length ∧ ∀ i v, get r i = some v → ∃ V, σ[i]? = some (some V) ∧ RV K m H v V
theorem RSl.mono {K : Pd} {m m' : Mp} {H H' : Hp} {r : Rho} {σ : L2.St} (h : RSl K m H r σ) (x : Xt m H m' H') : RSl K m' H' r σ :=
  ⟨h.1, fun i v e => by
    obtain ⟨V, e1, q⟩ := h.2 i v e
    exact ⟨V, e1, q.mono x⟩⟩
theorem put_len : ∀ (r : Rho) (i : Nat) (v : Option IV), (put r i v).length = r.length
  | [], _, _ => rfl
  | _ :: _, 0, _ => rfl
  | _ :: t, i + 1, v => by
    show (put t i v).length + 1 = t.length + 1
    rw [put_len t i v]
theorem get_put : ∀ (r : Rho) (i j : Nat) (v : Option IV) (w : IV), get (put r i v) j = some w → (i = j ∧ v = some w) ∨ (i ≠ j ∧ get r j = some w)
  | [], _, _, _, _, e => by cases e
  | _ :: _, 0, 0, _, _, e => .inl ⟨rfl, e⟩
  | _ :: _, 0, j + 1, _, _, e => .inr ⟨(fun z => nomatch z), e⟩
  | _ :: _, i + 1, 0, _, _, e => .inr ⟨(fun z => nomatch z), e⟩
  | _ :: t, i + 1, j + 1, v, w, e => by
    rcases get_put t i j v w e with ⟨a, b⟩ | ⟨a, b⟩
    · exact .inl ⟨by rw [a], b⟩
    · exact .inr ⟨fun z => a (Nat.succ.inj z), b⟩
theorem get_lt : ∀ {r : Rho} {i : Nat} {v : IV}, get r i = some v → i < r.length
  | [], _, _, e => by cases e
  | _ :: _, 0, _, _ => Nat.succ_pos _
  | _ :: t, i + 1, v, e => Nat.succ_lt_succ (get_lt (r := t) e)
theorem RSl.put {K : Pd} {m : Mp} {H : Hp} {r : Rho} {σ : L2.St} {i : Nat} {v : IV} {V : V} (h : RSl K m H r σ) (q : RV K m H v V) : RSl K m H (put r i (some v)) (σ.set i (some V)) := by
  refine ⟨by rw [List.length_set, put_len]; exact h.1, fun j w e => ?_⟩
  rcases get_put r i j _ w e with ⟨a, b⟩ | ⟨a, b⟩
  · cases b
    subst a
    refine ⟨V, ?_, q⟩
    have hl : i < σ.length := by
      have := get_lt e
      rw [put_len] at this
      rw [h.1]; exact this
    exact List.getElem?_set_self hl
  · obtain ⟨W, e1, q1⟩ := h.2 j w b
    exact ⟨W, by rw [List.getElem?_set_ne a]; exact e1, q1⟩
theorem RSl.gone {K : Pd} {m : Mp} {H : Hp} {r : Rho} {σ : L2.St} {i : Nat} (h : RSl K m H r σ) : RSl K m H (Rk.put r i none) (σ.set i none) := by
  refine ⟨by rw [List.length_set, put_len]; exact h.1, fun j w e => ?_⟩
  rcases get_put r i j _ w e with ⟨a, b⟩ | ⟨a, b⟩
  · cases b
  · obtain ⟨W, e1, q1⟩ := h.2 j w b
    exact ⟨W, by rw [List.getElem?_set_ne a]; exact e1, q1⟩
theorem RSl.wip {K : Pd} {m : Mp} {H : Hp} {r : Rho} {σ : L2.St} (h : RSl K m H r σ) : ∀ is : List Nat, RSl K m H (wip r is) (wipe σ is)
  | [] => h
  | i :: is => (RSl.wip h is).gone
abbrev Wx := Value → Option Addr → L2.St → Hp → Prop
def rdG {α β : Type} (rel : Mp → Hp → α → β → Prop) (p : Pd) (W : Wx) (M : Rho → Hh → R α) : L2.St → Hp → (β → Hp → Prop) → Prop := fun σ H Q =>
  ∃ m r h, RSl p m H r σ ∧ RH p m h H ∧ Ok rel p m H (fun c d H => W c d σ H) (M r h) Q
abbrev rdE (p : Pd) (W : Wx) (M : Rho → Hh → R IV) : TE := rdG (RV p) p W M
abbrev rdA (p : Pd) (W : Wx) (M : Rho → Hh → R (List IV)) : TA := rdG (RVs p) p W M
abbrev rdT (p : Pd) (W : Wx) (M : Rho → Hh → R Bool) : TT := rdG (rEq Bool) p W M
abbrev rdP (p : Pd) (W : Wx) (M : Rho → Hh → R (Option Int)) : TO := rdG (rEq (Option Int)) p W M
theorem rdG.bd {α β γ δ : Type} {rel : Mp → Hp → α → β → Prop} {rel2 : Mp → Hp → γ → δ → Prop} {p : Pd} {W : Wx} {M : Rho → Hh → R α} {k : Rho → α → Hh → R γ} {σ : L2.St} {H : Hp} {Q : δ → Hp → Prop}
    (h : rdG rel2 p W (fun r h => (M r h).bd (k r)) σ H Q) :
    rdG rel p W M σ H fun b H1 => ∃ m1 r h1 a, RSl p m1 H1 r σ ∧ RH p m1 h1 H1 ∧ rel m1 H1 a b ∧ Ok rel2 p m1 H1 (fun c d H => W c d σ H) (k r a h1) Q := by
  obtain ⟨m, r, h, s, t, o⟩ := h
  exact ⟨m, r, h, s, t, o.bd.mono fun b H1 ⟨m1, h1, a, x, y, z, q⟩ => ⟨m1, r, h1, a, s.mono x, y, z, q⟩⟩
theorem PE.wk {X : Cx} {e : Expr} {t t' : TE} (h : PE X e t) (i : ∀ σ H Q, t' σ H Q → t σ H Q) : PE X e t' := ⟨fun pn s sg H Q I q => h.run pn s sg H Q I (i sg H Q q)⟩
theorem PT.wk {X : Cx} {e : Expr} {t t' : TT} (h : PT X e t) (i : ∀ σ H Q, t' σ H Q → t σ H Q) : PT X e t' := ⟨fun pn s sg H Q I q => h.run pn s sg H Q I (i sg H Q q)⟩
theorem PA.wk {X : Cx} {e : List Expr} {t t' : TA} (h : PA X e t) (i : ∀ σ H Q, t' σ H Q → t σ H Q) : PA X e t' := ⟨fun po pn s sg H Q I q => h.run po pn s sg H Q I (i sg H Q q)⟩
theorem PS.wk {X : Cx} {e : Stmt} {t t' : TS} (h : PS X e t) (i : ∀ D σ H, t' D σ H → t D σ H) : PS X e t' := ⟨fun pn s sg H D I q => h.run pn s sg H D I (i D sg H q)⟩
theorem PSs.wk {X : Cx} {e : List Stmt} {t t' : TS} (h : PSs X e t) (i : ∀ D σ H, t' D σ H → t D σ H) : PSs X e t' := ⟨fun pn s sg H D I q => h.run pn s sg H D I (i D sg H q)⟩
def rdO (p : Pd) (f : IV → IV → Hh → R IV) : R2 := fun x y H Q => ∃ m h a b E, RH p m h H ∧ RV p m H a x ∧ RV p m H b y ∧ Ok (RV p) p m H E (f a b h) Q
def rdU (p : Pd) (f : IV → Hh → R IV) : V → Hp → VK → Prop := fun x H Q => ∃ m h a E, RH p m h H ∧ RV p m H a x ∧ Ok (RV p) p m H E (f a h) Q
theorem OpR.wk {X : Cx} {f : Value → Value → Sem Value} {r r' : R2} (h : OpR X f r) (i : ∀ x y H Q, r' x y H Q → r x y H Q) : OpR X f r' := fun pn s sg H x y v u Q I a b q => h pn s sg H x y v u Q I a b (i x y H Q q)
theorem ilt_eq : ∀ i j : Int, ilt i j = decide (i < j)
  | .ofNat a, .ofNat b => by
    show Nat.blt a b = _
    rw [Bool.eq_iff_iff, decide_eq_true_iff]
    show Nat.ble (a + 1) b = true ↔ _
    rw [Nat.ble_eq]
    exact ⟨fun h => Int.ofNat_lt.mpr h, fun h => Int.ofNat_lt.mp h⟩
  | .ofNat a, .negSucc b => by
    show false = _
    symm
    rw [decide_eq_false_iff_not]
    intro h
    have h1 : ((a : Int)) < Int.negSucc b := h
    omega
  | .negSucc a, .ofNat b => by
    show true = _
    symm
    rw [decide_eq_true_iff]
    show Int.negSucc a < ((b : Int))
    omega
  | .negSucc a, .negSucc b => by
    show Nat.ble (b + 1) a = _
    rw [Bool.eq_iff_iff, decide_eq_true_iff, Nat.ble_eq]
    constructor
    · intro h
      show Int.negSucc a < Int.negSucc b
      omega
    · intro h
      have h1 : Int.negSucc a < Int.negSucc b := h
      omega
theorem ile_eq : ∀ i j : Int, ile i j = decide (i ≤ j)
  | .ofNat a, .ofNat b => by
    show Nat.ble a b = _
    rw [Bool.eq_iff_iff, decide_eq_true_iff, Nat.ble_eq]
    exact ⟨fun h => Int.ofNat_le.mpr h, fun h => Int.ofNat_le.mp h⟩
  | .ofNat a, .negSucc b => by
    show false = _
    symm
    rw [decide_eq_false_iff_not]
    intro h
    have h1 : ((a : Int)) ≤ Int.negSucc b := h
    omega
  | .negSucc a, .ofNat b => by
    show true = _
    symm
    rw [decide_eq_true_iff]
    show Int.negSucc a ≤ ((b : Int))
    omega
  | .negSucc a, .negSucc b => by
    show Nat.ble b a = _
    rw [Bool.eq_iff_iff, decide_eq_true_iff, Nat.ble_eq]
    constructor
    · intro h
      show Int.negSucc a ≤ Int.negSucc b
      omega
    · intro h
      have h1 : Int.negSucc a ≤ Int.negSucc b := h
      omega
theorem ieq_eq : ∀ i j : Int, ieq i j = decide (i = j)
  | .ofNat a, .ofNat b => by
    show Nat.beq a b = _
    rw [Bool.eq_iff_iff, decide_eq_true_iff, Nat.beq_eq]
    exact ⟨fun h => by rw [h], fun h => Int.ofNat.inj h⟩
  | .ofNat a, .negSucc b => by
    show false = _
    symm
    rw [decide_eq_false_iff_not]
    intro h
    cases h
  | .negSucc a, .ofNat b => by
    show false = _
    symm
    rw [decide_eq_false_iff_not]
    intro h
    cases h
  | .negSucc a, .negSucc b => by
    show Nat.beq a b = _
    rw [Bool.eq_iff_iff, decide_eq_true_iff, Nat.beq_eq]
    exact ⟨fun h => by rw [h], fun h => Int.negSucc.inj h⟩
theorem nats_eq : ∀ l r : List Nat, nats l r = decide (l = r)
  | [], [] => rfl
  | [], _ :: _ => rfl
  | _ :: _, [] => rfl
  | a :: l, b :: r => by
    unfold nats
    cases e : Nat.beq a b with
    | true =>
      have h : a = b := Nat.eq_of_beq_eq_true e
      subst h
      show nats l r = _
      rw [nats_eq l r, Bool.eq_iff_iff, decide_eq_true_iff, decide_eq_true_iff]
      exact ⟨fun h => by rw [h], fun h => (List.cons.inj h).2⟩
    | false =>
      show false = _
      symm
      rw [decide_eq_false_iff_not]
      intro h
      rw [(List.cons.inj h).1, Nat.beq_refl] at e
      cases e
theorem seq_eq (x y : Str) : seq x y = decide (x = y) := by
  unfold seq
  rw [nats_eq, Bool.eq_iff_iff, decide_eq_true_iff, decide_eq_true_iff]
  constructor
  · intro h
    obtain ⟨a⟩ := x
    obtain ⟨b⟩ := y
    have h1 : a.toList = b.toList := h
    rw [Array.toList_inj.mp h1]
  · intro h
    rw [h]
theorem ipow_eq (i : Int) (n : Nat) : ipow i n = i ^ n := by
  cases i with
  | ofNat a =>
    show Int.ofNat (Nat.pow a n) = (Int.ofNat a) ^ n
    have h : ((a ^ n : Nat) : Int) = ((a : Int)) ^ n := by simp
    exact h
  | negSucc a => rfl
theorem smallI_ok {i : Int} (h : smallI i = true) : -(2 ^ 64) < i ∧ i < 2 ^ 64 := by
  have h1 : i.natAbs + 1 ≤ 18446744073709551616 := by
    have : Nat.ble (i.natAbs + 1) 18446744073709551616 = true := h
    rwa [Nat.ble_eq] at this
  constructor <;> omega
section
variable {p : Pd} {m : Mp} {h : Hh} {H : Hp} {E : XK} {Q : VK}
theorem Ok.int {i : Int} (r : RH p m h H) (o : Ok (RV p) p m H E (.ok (.int i) h) Q) : Q (.int i) H := o m H _ Xt.refl r (.int i)
theorem Ok.bl {b : Bool} (r : RH p m h H) (o : Ok (RV p) p m H E (.ok (.bl b) h) Q) : Q (.bl b) H := o m H _ Xt.refl r (.bl b)
theorem Ok.non (r : RH p m h H) (o : Ok (RV p) p m H E (.ok .non h) Q) : Q .non H := o m H _ Xt.refl r .non
theorem Ok.tup {xs : List IV} {vs : List V} (r : RH p m h H) (rv : RVs p m H xs vs) (o : Ok (RV p) p m H E (.ok (.tup xs) h) Q) {q : Addr} (e : H q = none) : Q (.ref q) (upd H q (.tup vs)) :=
  o m _ _ (Xt.laid e) (r.laid e) (.tup (.inl (.inl upd_same)) (rv.mono (Xt.laid e)))
theorem Ok.tupS {xs : List IV} {vs : List V} {a : Addr} (r : RH p m h H) (s : SqT p.K H a vs) (rv : RVs p m H xs vs) (o : Ok (RV p) p m H E (.ok (.tup xs) h) Q) : Q (.ref a) H :=
  o m _ _ Xt.refl r (.tup s rv)
theorem Ok.newL {xs : List IV} {vs : List V} (r : RH p m h H) (rv : RVs p m H xs vs) (o : Ok (RV p) p m H E (newL xs h) Q) {q : Addr} (e : H q = none) : Q (.ref q) (upd H q (.lst vs)) := by
  unfold Rk.newL at o
  cases n : newLst h xs with
  | none =>
    rw [n] at o
    exact o.elim
  | some h' =>
    rw [n] at o
    obtain ⟨m', x, r', e'⟩ := r.newL e n rv
    exact o m' _ _ x r' (.ref e')
end
def opX : Op → Operator
  | .add => .Add
  | .sub => .Sub
  | .mul => .Mult
  | .fdiv => .FloorDiv
  | .mod => .Mod
  | .pow => .Pow
theorem few_ok {n : Nat} (h : Nat.ble n fewL = true) : n ≤ sizeLine := Nat.le_trans (by rwa [Nat.ble_eq] at h) (by decide)
theorem RVs.ne {K : Pd} {m : Mp} {H : Hp} {xs : List IV} {vs : List V} (r : RVs K m H xs vs) : (xs = [] ↔ vs = []) := by
  cases r with
  | nil => exact ⟨fun _ => rfl, fun _ => rfl⟩
  | cons _ _ => exact ⟨(fun h => nomatch h), (fun h => nomatch h)⟩
end
end Rk
namespace Rk
noncomputable section
open PySem PySem.Spec PyProof.Rows L2
theorem tup_mul1 (l : Addr) (items : Array Value) (n : Nat) (x : Int) (u : Tok) (c0 : (decide (x < -(2 ^ 63)) || decide (x ≥ 2 ^ 63)) = false) (c1 : (items.isEmpty || x == 1) = true) :
    Meets (Builtin.«tuple.__mul__» ⟨[.ref l, .int x u], []⟩) (fun _ R s => (∃ dd sl, s.heap.get? l = some { cls := .type "tuple", dict := dd, data := .seq items n, slots := sl }) ∧ R (.ok (.ret (Value.ref l))) s) :=
  .of_wp fun prog w A R s q => by
    obtain ⟨hp, g, d, tk, os⟩ := s
    obtain ⟨⟨dd, sl, hl⟩, q⟩ := q
    have f1 := AutoSeq1.idx_int
    wp_walk using wpAny_loadPart' hl
    repeat (first
      | (refine wpAny_ite_false (decide_eq_false (by rw [c0]; exact Bool.false_ne_true)) ?_; wp_walk using wpAny_loadPart' hl)
      | (refine wpAny_ite_true (decide_eq_true c1) ?_; wp_walk using wpAny_loadPart' hl))
    exact ⟨_, rfl, q⟩
theorem RVs.repl {K : Pd} {m : Mp} {H : Hp} {xs : List IV} {vs : List V} (r : RVs K m H xs vs) : ∀ n : Nat, RVs K m H (Rk.repl xs n) (List.replicate n vs).flatten
  | 0 => .nil
  | n + 1 => by
    rw [List.replicate_succ, List.flatten_cons]
    exact RVs.app r (RVs.repl r n)
theorem repl_nil : ∀ n : Nat, repl [] n = []
  | 0 => rfl
  | n + 1 => repl_nil n
def rMulT1 (K : PySem.W.Frag) : R2 := fun x y H Q => ∃ l k xs, x = .ref l ∧ y = .int k ∧ SqT K H l xs ∧ 1 ≤ k ∧ k ≤ 1000 ∧ (xs = [] ∨ k = 1) ∧ Q (.ref l) H
section
variable {X : Cx} {p : Pd}
theorem op_mulT1 : OpR X (binaryOp .Mult) (rMulT1 X.K) := by
  intro pn s sg H x y v u Q I rx ry q
  obtain ⟨l, k, xs, rfl, rfl, hT, k1, k2, hk, q⟩ := q
  cases rx
  obtain ⟨t, rfl⟩ := ry
  obtain ⟨its, r, ⟨⟨cls, dd, data, sl⟩, ho, hc, n, hd⟩, hs⟩ := I.tuple hT
  simp only at hc hd
  subst hc hd
  have c0 : (decide (k < -(2 ^ 63)) || decide (k ≥ 2 ^ 63)) = false := by
    rw [decide_eq_false (by omega), decide_eq_false (by omega)] <;> rfl
  have c1 : (its.toArray.isEmpty || k == 1) = true := by
    rcases hk with e | e
    · subst e
      cases r
      rfl
    · rw [e]
      simp
  refine wpAny_binaryOp_repeat_ref (T := "tuple") (U := "int") (by decide) ⟨_, ho, rfl⟩ (fun s' => typeIs_int s' k t) noFill_tuple_mul F.fills_int_mul F.slot_int_rmul repeat_tuple F.slot_int_index.lookup
    (call_meets F.slot_int_rmul (typeIs_int s k t) F.entry_int_rmul (F.args_int_rmul_2 _ _) (int_rmul_tuple k t l its.toArray n dd sl)
      ⟨ho, rfl, ⟨_, ho, rfl⟩, call_meets F.slot_tuple_mul ⟨_, ho, rfl⟩ F.entry_tuple_mul (F.args_tuple_mul_2 _ _) (tup_mul1 l its.toArray n k t c0 c1) ⟨⟨dd, sl, ho⟩, .ref l, H, I, rfl, q⟩⟩)
theorem op_int (hK : X.K = p.K) : ∀ (o : Op) (i j : Int), OpR X (binaryOp (opX o)) fun x y H Q => x = .int i ∧ y = .int j ∧ ∃ m h E, RH p m h H ∧ Ok (RV p) p m H E (opr o (.int i) (.int j) h) Q
  | .add, i, j => OpR.wk op_add fun x y H Q ⟨a, b, m, h, E, r, o⟩ => ⟨i, j, a, b, o.int r⟩
  | .sub, i, j => OpR.wk op_sub fun x y H Q ⟨a, b, m, h, E, r, o⟩ => ⟨i, j, a, b, o.int r⟩
  | .mul, i, j => OpR.wk op_mul fun x y H Q ⟨a, b, m, h, E, r, o⟩ => by
    have o1 : Ok (RV p) p m H E (match smallI i with
        | true => .ok (.int (Int.mul i j)) h
        | false => match smallI j with
          | true => .ok (.int (Int.mul i j)) h
          | false => .fail) Q := o
    cases e : smallI i with
    | true =>
      rw [e] at o1
      exact ⟨i, j, a, b, .inl (smallI_ok e), Ok.int r o1⟩
    | false =>
      rw [e] at o1
      cases e2 : smallI j with
      | true =>
        rw [e2] at o1
        exact ⟨i, j, a, b, .inr (smallI_ok e2), Ok.int r o1⟩
      | false =>
        rw [e2] at o1
        exact o1.elim
  | .fdiv, i, j => OpR.wk op_fdiv fun x y H Q ⟨a, b, m, h, E, r, o⟩ => by
    have o1 : Ok (RV p) p m H E (match ilt 0 j with
        | true => match ilt j 1073741824 with
          | true => .ok (.int (Int.ediv i j)) h
          | false => .fail
        | false => .fail) Q := o
    rw [ilt_eq, ilt_eq] at o1
    by_cases e : 0 < j
    · rw [decide_eq_true e] at o1
      by_cases e2 : j < 1073741824
      · rw [decide_eq_true e2] at o1
        exact ⟨i, j, a, b, ⟨e, e2⟩, Ok.int r o1⟩
      · rw [decide_eq_false e2] at o1
        exact o1.elim
    · rw [decide_eq_false e] at o1
      exact o1.elim
  | .mod, i, j => OpR.wk op_mod fun x y H Q ⟨a, b, m, h, E, r, o⟩ => by
    have o1 : Ok (RV p) p m H E (match ilt 0 j with
        | true => .ok (.int (Int.emod i j)) h
        | false => .fail) Q := o
    rw [ilt_eq] at o1
    by_cases e : 0 < j
    · rw [decide_eq_true e] at o1
      exact ⟨i, j, a, b, e, Ok.int r o1⟩
    · rw [decide_eq_false e] at o1
      exact o1.elim
  | .pow, i, j => OpR.wk op_pow fun x y H Q ⟨a, b, m, h, E, r, o⟩ => by
    have o1 : Ok (RV p) p m H E (match ile 0 j with
        | true => match ile j 1000 with
          | true => match smallI i with
            | true => .ok (.int (ipow i (Int.toNat j))) h
            | false => .fail
          | false => .fail
        | false => .fail) Q := o
    rw [ile_eq, ile_eq] at o1
    by_cases e : 0 ≤ j
    · rw [decide_eq_true e] at o1
      by_cases e2 : j ≤ 1000
      · rw [decide_eq_true e2] at o1
        cases e3 : smallI i with
        | true =>
          rw [e3] at o1
          have q := Ok.int r o1
          rw [ipow_eq] at q
          have e4 := smallI_ok e3
          exact ⟨i, j, a, b, ⟨e, by omega, by omega⟩, q⟩
        | false =>
          rw [e3] at o1
          exact o1.elim
      · rw [decide_eq_false e2] at o1
        exact o1.elim
    · rw [decide_eq_false e] at o1
      exact o1.elim
theorem op_ok (hK : X.K = p.K) (o : Op) : OpR X (binaryOp (opX o)) (rdO p (opr o)) := by
  intro pn s sg H x y u v Q I ru rv q
  obtain ⟨m, h, a, b, E, rh, ra, rb, ok⟩ := q
  cases ra with
  | non => cases ok
  | bl _ => cases ok
  | str _ => cases ok
  | exn => cases ok
  | rol _ _ => cases ok
  | fn _ => cases ok
  | rng _ => cases ok
  | int i =>
    cases rb with
    | int j => exact op_int hK o i j pn s sg H _ _ u v Q I ru rv ⟨rfl, rfl, m, h, E, rh, ok⟩
    | non => cases ok
    | bl _ => cases ok
    | str _ => cases ok
    | tup _ _ => cases ok
    | rng _ => cases ok
    | ref _ => cases ok
    | exn => cases ok
    | rol _ _ => cases ok
    | fn _ => cases ok
  | tup s1 r1 =>
    rename_i xs l1 vs
    cases rb with
    | non => cases ok
    | bl _ => cases ok
    | str _ => cases ok
    | rng _ => cases ok
    | ref _ => cases ok
    | exn => cases ok
    | rol _ _ => cases ok
    | fn _ => cases ok
    | int k =>
      cases o with
      | add => cases ok
      | sub => cases ok
      | fdiv => cases ok
      | mod => cases ok
      | pow => cases ok
      | mul =>
        have ok1 : Ok (RV p) p m H E (match ile k 1000 with
          | true => match ile 1 k with
            | true => match Nat.ble xs.length 1000 with
              | true => .ok (.tup (repl xs (Int.toNat k))) h
              | false => .fail
            | false => .fail
          | false => .fail) Q := ok
        rw [ile_eq, ile_eq] at ok1
        by_cases e : k ≤ 1000
        · rw [decide_eq_true e] at ok1
          by_cases e2 : 1 ≤ k
          · rw [decide_eq_true e2] at ok1
            cases e3 : Nat.ble xs.length 1000 with
            | true =>
              rw [e3] at ok1
              have lx : xs.length ≤ 1000 := by rwa [Nat.ble_eq] at e3
              by_cases z : vs = [] ∨ k = 1
              · refine op_mulT1 pn s sg H _ _ u v Q I ru rv ⟨_, k, vs, rfl, rfl, by rw [hK]; exact s1, e2, e, z, ?_⟩
                refine Ok.tupS rh s1 ?_ ok1
                rcases z with z | z
                · have zx : xs = [] := r1.ne.mpr z
                  rw [zx, repl_nil, z]
                  exact .nil
                · rw [z]
                  show RVs p m H (xs ++ []) vs
                  rw [List.append_nil]
                  exact r1
              · have z1 : vs ≠ [] := fun w => z (.inl w)
                have z2 : k ≠ 1 := fun w => z (.inr w)
                exact op_repT pn s sg H _ _ u v Q I ru rv ⟨_, k, vs, rfl, rfl, by rw [hK]; exact s1, z1, by omega, e, by rw [← r1.length]; exact lx, fun q hq => Ok.tup rh (RVs.repl r1 _) ok1 hq⟩
            | false =>
              rw [e3] at ok1
              cases ok1
          · rw [decide_eq_false e2] at ok1
            cases ok1
        · rw [decide_eq_false e] at ok1
          cases ok1
    | tup s2 r2 =>
      rename_i ys l2 ws
      cases o with
      | sub => cases ok
      | mul => cases ok
      | fdiv => cases ok
      | mod => cases ok
      | pow => cases ok
      | add =>
        have ok1 : Ok (RV p) p m H E (match Nat.ble (Nat.add xs.length ys.length) fewL with
          | true => .ok (.tup (xs ++ ys)) h
          | false => .fail) Q := ok
        cases e : Nat.ble (Nat.add xs.length ys.length) fewL with
        | false =>
          rw [e] at ok1
          cases ok1
        | true =>
          rw [e] at ok1
          have l : vs.length + ws.length ≤ sizeLine := by
            rw [← r1.length, ← r2.length]
            exact few_ok e
          refine op_catA pn s sg H _ _ u v Q I ru rv ⟨_, _, vs, ws, rfl, rfl, by rw [hK]; exact s1, by rw [hK]; exact s2, l, fun z => ?_, fun _ z => ?_, fun _ _ q hq => ?_⟩
          · have zx : xs = [] := r1.ne.mpr z
            subst zx
            exact Ok.tupS rh s2 r2 ok1
          · have zx : ys = [] := r2.ne.mpr z
            subst zx
            rw [List.append_nil] at ok1
            exact Ok.tupS rh s1 r1 ok1
          · exact Ok.tup rh (r1.app r2) ok1 hq
  | ref e1 =>
    rename_i n a1
    cases g1 : h.get n with
    | none =>
      have ok1 : Ok (RV p) p m H E (match h.get n with
        | some (.lst xs) => _
        | _ => .fail) Q := ok
      rw [g1] at ok1
      cases ok1
    | some o1 =>
      cases o1 with
      | dict _ =>
        simp only [opr, g1] at ok
        cases ok
      | inst _ _ =>
        simp only [opr, g1] at ok
        cases ok
      | lst xs =>
        obtain ⟨vs, hv, r1⟩ := rh.lst e1 g1
        cases rb with
        | non => simp only [opr, g1] at ok; cases ok
        | bl _ => simp only [opr, g1] at ok; cases ok
        | str _ => simp only [opr, g1] at ok; cases ok
        | tup _ _ => simp only [opr, g1] at ok; cases ok
        | rng _ => simp only [opr, g1] at ok; cases ok
        | exn => simp only [opr, g1] at ok; cases ok
        | rol _ _ => simp only [opr, g1] at ok; cases ok
        | fn _ => simp only [opr, g1] at ok; cases ok
        | int k =>
          simp only [opr, g1] at ok
          cases o with
          | add => cases ok
          | sub => cases ok
          | fdiv => cases ok
          | mod => cases ok
          | pow => cases ok
          | mul =>
            have ok1 : Ok (RV p) p m H E (match ile k 1000 with
              | true => match ile (-1000) k with
                | true => match Nat.ble (lenR xs) 1000 with
                  | true => newL (repl (revR xs) (Int.toNat k)) h
                  | false => .fail
                | false => .fail
              | false => .fail) Q := ok
            rw [ile_eq, ile_eq] at ok1
            by_cases e : k ≤ 1000
            · rw [decide_eq_true e] at ok1
              by_cases e2 : -1000 ≤ k
              · rw [decide_eq_true e2] at ok1
                cases e3 : Nat.ble (lenR xs) 1000 with
                | false =>
                  rw [e3] at ok1
                  cases ok1
                | true =>
                  rw [e3] at ok1
                  have lx : vs.length ≤ 1000 := by
                    rw [← r1.length, ← lenR_rev]
                    rwa [Nat.ble_eq] at e3
                  refine op_rep pn s sg H _ _ u v Q I ru rv ⟨_, k, vs, rfl, rfl, hv, by omega, by omega, ?_, fun q hq => Ok.newL rh (RVs.repl r1 _) ok1 hq⟩
                  have : vs.length * k.toNat ≤ 1000 * 1000 := Nat.mul_le_mul lx (by omega)
                  exact Nat.le_trans this (by decide)
              · rw [decide_eq_false e2] at ok1
                cases ok1
            · rw [decide_eq_false e] at ok1
              cases ok1
        | ref e2 =>
          rename_i n2 a2
          simp only [opr, g1] at ok
          cases g2 : h.get n2 with
          | none =>
            have ok1 : Ok (RV p) p m H E (match h.get n2 with
              | some (.lst ys) => _
              | _ => .fail) Q := ok
            rw [g2] at ok1
            cases ok1
          | some o2 =>
            cases o2 with
            | dict _ =>
              simp only [g2] at ok
              cases ok
            | inst _ _ =>
              simp only [g2] at ok
              cases ok
            | lst ys =>
              obtain ⟨ws, hw, r2⟩ := rh.lst e2 g2
              simp only [g2] at ok
              cases o with
              | sub => cases ok
              | mul => cases ok
              | fdiv => cases ok
              | mod => cases ok
              | pow => cases ok
              | add =>
                have ok1 : Ok (RV p) p m H E (match Nat.ble (Nat.add (lenR xs) (lenR ys)) fewL with
                  | true => newQ (appR ys xs) h
                  | false => .fail) Q := ok
                rw [newQ_eq, revR_app] at ok1
                cases e : Nat.ble (Nat.add (lenR xs) (lenR ys)) fewL with
                | false =>
                  rw [e] at ok1
                  cases ok1
                | true =>
                  rw [e] at ok1
                  exact op_cat pn s sg H _ _ u v Q I ru rv ⟨_, _, vs, ws, rfl, rfl, hv, hw, by rw [← r1.length, ← r2.length, ← lenR_rev, ← lenR_rev]; exact few_ok e, fun q hq => Ok.newL rh (r1.app r2) ok1 hq⟩
end
end
end Rk
namespace Rk
noncomputable section
open PySem PySem.Spec PyProof.Rows L2
theorem sOk_ok (x : Str) (h : sOk x.cps.toList = true) : PyData.canLay0 (.str x) = true := by
  have g : ∀ l : List Nat, sOk l = true → l.all (fun c => decide (c < 0x110000)) = true := by
    intro l
    induction l with
    | nil => intro _; rfl
    | cons c r ih =>
      intro e
      unfold sOk at e
      cases b : Nat.blt c 1114112 with
      | false =>
        rw [b] at e
        cases e
      | true =>
        rw [b] at e
        have hc : c + 1 ≤ 1114112 := by
          have : Nat.ble (c + 1) 1114112 = true := b
          rwa [Nat.ble_eq] at this
        rw [List.all_cons, ih e, Bool.and_true]
        exact decide_eq_true (by omega)
  have q := g _ h
  unfold PyData.canLay0
  show x.cps.all _ = true
  rw [← Array.all_toList]
  exact q
section
variable {K : Pd} {m : Mp} {h : Hh} {H : Hp}
theorem mapO_ok {n : Nat} (ih : ∀ (v : IV) (V : L2.V) (d : PyData), toD h n v = some d → RV K m H v V → Dp K H V d ∧ d.canLay0 = true ∧ d.depth ≤ n) :
    ∀ (xs : List IV) (vs : List L2.V) (ds : List PyData), mapO (toD h n) xs = some ds → RVs K m H xs vs → DpAll K H vs ds ∧ PyData.canLayAll0 ds = true ∧ PyData.depthAll ds ≤ n
  | [], vs, ds, e, r => by
    cases r
    cases e
    exact ⟨.nil, rfl, Nat.zero_le _⟩
  | x :: xs, vs, ds, e, r => by
    cases r with
    | cons r1 r2 =>
      unfold mapO at e
      cases e1 : toD h n x with
      | none =>
        rw [e1] at e
        cases e
      | some d =>
        rw [e1] at e
        cases e2 : mapO (toD h n) xs with
        | none =>
          rw [e2] at e
          cases e
        | some ds' =>
          rw [e2] at e
          cases e
          obtain ⟨a1, a2, a3⟩ := ih _ _ _ e1 r1
          obtain ⟨b1, b2, b3⟩ := mapO_ok ih _ _ _ e2 r2
          refine ⟨.cons a1 b1, ?_, ?_⟩
          · unfold PyData.canLayAll0
            rw [a2, b2]
            rfl
          · unfold PyData.depthAll
            exact Nat.max_le.mpr ⟨a3, b3⟩
theorem toD_ok (rh : RH K m h H) : ∀ (n : Nat) (v : IV) (V : L2.V) (d : PyData), toD h n v = some d → RV K m H v V → Dp K H V d ∧ d.canLay0 = true ∧ d.depth ≤ n
  | 0, _, _, _, e, _ => by cases e
  | n + 1, v, V, d, e, r => by
    cases r with
    | non => cases e; exact ⟨.non, rfl, Nat.zero_le _⟩
    | bl b => cases e; exact ⟨.bl b, rfl, Nat.zero_le _⟩
    | int i => cases e; exact ⟨.int i, rfl, Nat.zero_le _⟩
    | str x =>
      simp only [toD] at e
      cases q : sOk x.cps.toList with
      | false =>
        rw [q] at e
        cases e
      | true =>
        rw [q] at e
        cases e
        exact ⟨.str x, sOk_ok x q, Nat.zero_le _⟩
    | tup s rs =>
      simp only [toD] at e
      rename_i xs a vs
      cases q : mapO (toD h n) xs with
      | none =>
        rw [q] at e
        cases e
      | some ds =>
        rw [q] at e
        cases e
        obtain ⟨a1, a2, a3⟩ := mapO_ok (toD_ok rh n) _ _ _ q rs
        refine ⟨.tup s a1, ?_, ?_⟩
        · unfold PyData.canLay0
          exact a2
        · unfold PyData.depth
          exact Nat.succ_le_succ a3
    | rng _ => cases e
    | exn => cases e
    | rol _ _ => cases e
    | fn _ => cases e
    | ref em =>
      rename_i k a
      simp only [toD] at e
      cases g : h.get k with
      | none =>
        rw [g] at e
        cases e
      | some o =>
        rw [g] at e
        cases o with
        | dict _ => cases e
        | inst _ _ => cases e
        | lst xs =>
          obtain ⟨vs, hv, rs⟩ := rh.lst em g
          have e' : (match mapO (toD h n) (revR xs) with
            | some ds => some (PyData.list ds)
            | none => none) = some d := e
          cases q : mapO (toD h n) (revR xs) with
          | none =>
            rw [q] at e'
            cases e'
          | some ds =>
            rw [q] at e'
            cases e'
            obtain ⟨a1, a2, a3⟩ := mapO_ok (toD_ok rh n) _ _ _ q rs
            refine ⟨.lst (SqL.of hv) a1, ?_, ?_⟩
            · unfold PyData.canLay0
              exact a2
            · unfold PyData.depth
              exact Nat.succ_le_succ a3
end
theorem b2i_eq (b : Bool) : Rk.b2i b = if b then 1 else 0 := by cases b <;> rfl
mutual
theorem dq_eq : ∀ d e : PyData, dq d e = PyData.eqv d e
  | .none, e => by cases e <;> simp [dq, PyData.eqv]
  | .bool a, e => by
    cases e with
    | bool b => cases a <;> cases b <;> simp [dq, PyData.eqv]
    | int j =>
      simp only [dq, PyData.eqv]
      rw [ieq_eq, b2i_eq, Bool.eq_iff_iff, decide_eq_true_iff, beq_iff_eq]
    | _ => simp [dq, PyData.eqv]
  | .int i, e => by
    cases e with
    | bool b =>
      simp only [dq, PyData.eqv]
      rw [ieq_eq, b2i_eq, Bool.eq_iff_iff, decide_eq_true_iff, beq_iff_eq]
    | int j =>
      simp only [dq, PyData.eqv]
      rw [ieq_eq, Bool.eq_iff_iff, decide_eq_true_iff, beq_iff_eq]
    | _ => simp [dq, PyData.eqv]
  | .str x, e => by
    cases e with
    | str y =>
      simp only [dq, PyData.eqv]
      rw [seq_eq, Bool.eq_iff_iff, decide_eq_true_iff, beq_iff_eq]
    | _ => simp [dq, PyData.eqv]
  | .list xs, e => by
    cases e with
    | list ys =>
      simp only [dq, PyData.eqv]
      exact dqs_eq xs ys
    | _ => simp [dq, PyData.eqv]
  | .tuple xs, e => by
    cases e with
    | tuple ys =>
      simp only [dq, PyData.eqv]
      exact dqs_eq xs ys
    | _ => simp [dq, PyData.eqv]
  | .dict _, e => by cases e <;> simp [dq, PyData.eqv]
theorem dqs_eq : ∀ d e : List PyData, dqs d e = PyData.eqvAll d e
  | [], [] => by simp [dqs, PyData.eqvAll]
  | [], _ :: _ => by simp [dqs, PyData.eqvAll]
  | _ :: _, [] => by simp [dqs, PyData.eqvAll]
  | x :: xs, y :: ys => by
    simp only [dqs, PyData.eqvAll]
    rw [dq_eq x y, dqs_eq xs ys]
    cases PyData.eqv x y <;> rfl
end
section
variable {K : Pd} {m : Mp} {h : Hh} {H : Hp} {a b : IV} {x y : V}
def EqD (K : PySem.W.Frag) (H : Hp) (x y : V) (c : Bool) : Prop := ∃ d e, Dp K H x d ∧ Dp K H y e ∧ (d.canLay0 = true ∧ d.depth ≤ 60) ∧ (e.canLay0 = true ∧ e.depth ≤ 60) ∧ PyData.eqv d e = c
theorem ceq_ok (rh : RH K m h H) (ra : RV K m H a x) (rb : RV K m H b y) {c : Bool} (e : ceq h a b = some c) : EqD K H x y c := by
  have deep : (match toD h 60 a with
      | some d => match toD h 60 b with
        | some e => some (dq d e)
        | none => none
      | none => none) = some c → EqD K H x y c := fun q => by
    cases e1 : toD h 60 a with
    | none =>
      rw [e1] at q
      cases q
    | some d =>
      rw [e1] at q
      cases e2 : toD h 60 b with
      | none =>
        rw [e2] at q
        cases q
      | some d2 =>
        rw [e2] at q
        obtain ⟨a1, a2, a3⟩ := toD_ok rh 60 _ _ _ e1 ra
        obtain ⟨b1, b2, b3⟩ := toD_ok rh 60 _ _ _ e2 rb
        exact ⟨d, d2, a1, b1, ⟨a2, a3⟩, ⟨b2, b3⟩, by rw [← dq_eq]; exact Option.some.inj q⟩
  cases ra with
  | int i =>
    cases rb with
    | int j =>
      have e' : some (ieq i j) = some c := e
      refine ⟨.int i, .int j, .int i, .int j, ⟨rfl, Nat.zero_le _⟩, ⟨rfl, Nat.zero_le _⟩, ?_⟩
      rw [← dq_eq]
      exact Option.some.inj e'
    | non => exact deep e
    | bl _ => exact deep e
    | str _ => exact deep e
    | tup _ _ => exact deep e
    | rng _ => exact deep e
    | ref _ => exact deep e
    | exn => exact deep e
    | rol _ _ => exact deep e
    | fn _ => exact deep e
  | non =>
    cases rb with
    | non =>
      have e' : some true = some c := e
      exact ⟨.none, .none, .non, .non, ⟨rfl, Nat.zero_le _⟩, ⟨rfl, Nat.zero_le _⟩, by rw [← Option.some.inj e', ← dq_eq] <;> rfl⟩
    | int _ => exact deep e
    | bl _ => exact deep e
    | str _ => exact deep e
    | tup _ _ => exact deep e
    | rng _ => exact deep e
    | ref _ => exact deep e
    | exn => exact deep e
    | rol _ _ => exact deep e
    | fn _ => exact deep e
  | str s1 =>
    cases rb with
    | str s2 =>
      have e' : (match sOk s1.cps.toList with
        | true => match sOk s2.cps.toList with
          | true => some (seq s1 s2)
          | false => none
        | false => none) = some c := e
      cases q1 : sOk s1.cps.toList with
      | false =>
        rw [q1] at e'
        cases e'
      | true =>
        rw [q1] at e'
        cases q2 : sOk s2.cps.toList with
        | false =>
          rw [q2] at e'
          cases e'
        | true =>
          rw [q2] at e'
          refine ⟨.str s1, .str s2, .str s1, .str s2, ⟨sOk_ok _ q1, Nat.zero_le _⟩, ⟨sOk_ok _ q2, Nat.zero_le _⟩, ?_⟩
          rw [← dq_eq]
          exact Option.some.inj e'
    | int _ => exact deep e
    | bl _ => exact deep e
    | non => exact deep e
    | tup _ _ => exact deep e
    | rng _ => exact deep e
    | ref _ => exact deep e
    | exn => exact deep e
    | rol _ _ => exact deep e
    | fn _ => exact deep e
  | bl _ => exact deep e
  | tup s r => exact deep e
  | rng _ => exact deep e
  | ref _ => exact deep e
  | exn => exact deep e
  | rol _ _ => exact deep e
  | fn _ => exact deep e
theorem shp {d : PyData} (h : d.canLay0 = true ∧ d.depth ≤ 60) : SeqAt.shaped d = true := by
  unfold SeqAt.shaped
  rw [h.1, Bool.true_and]
  exact decide_eq_true (Nat.le_trans h.2 (by decide))
theorem anyD_eq (d : PyData) : ∀ ds : List PyData, anyD d ds = ds.any fun z => PyData.eqv z d
  | [] => rfl
  | z :: r => by
    rw [List.any_cons, ← anyD_eq d r, ← dq_eq]
    show (match dq z d with
      | true => true
      | false => anyD d r) = _
    cases dq z d <;> rfl
theorem items_ok {xs : List IV} (rh : RH K m h H) (ra : RV K m H a x) (e : items a h = some xs) : ∃ l vs, x = .ref l ∧ (SqT K H l vs ∨ H l = some (.lst vs)) ∧ RVs K m H xs vs := by
  cases ra with
  | tup s r =>
    cases e
    exact ⟨_, _, rfl, .inl s, r⟩
  | ref em =>
    rename_i n l
    simp only [items] at e
    cases g : h.get n with
    | none =>
      rw [g] at e
      cases e
    | some o =>
      rw [g] at e
      cases o with
      | dict _ => cases e
      | inst _ _ => cases e
      | lst ys =>
        cases e
        obtain ⟨vs, hv, r⟩ := rh.lst em g
        exact ⟨_, vs, rfl, .inr hv, r⟩
  | non => cases e
  | bl _ => cases e
  | int _ => cases e
  | str _ => cases e
  | rng _ => cases e
  | exn => cases e
  | rol _ _ => cases e
  | fn _ => cases e
theorem items_data {xs : List IV} {ds : List PyData} (rh : RH K m h H) (ra : RV K m H a x) (e : items a h = some xs) (q : mapO (toD h 60) xs = some ds) :
    ∃ l vs, x = .ref l ∧ ((SqT K H l vs ∧ Dp K H x (.tuple ds)) ∨ (H l = some (.lst vs) ∧ Dp K H x (.list ds))) ∧ PyData.canLayAll0 ds = true ∧ PyData.depthAll ds ≤ 60 := by
  obtain ⟨l, vs, rfl, s, r⟩ := items_ok rh ra e
  obtain ⟨a1, a2, a3⟩ := mapO_ok (toD_ok rh 60) _ _ _ q r
  refine ⟨l, vs, rfl, ?_, a2, a3⟩
  rcases s with s | s
  · exact .inl ⟨s, .tup s a1⟩
  · exact .inr ⟨s, .lst (SqL.of s) a1⟩
theorem shpL {ds : List PyData} (h1 : PyData.canLayAll0 ds = true) (h2 : PyData.depthAll ds ≤ 60) : SeqAt.shaped (.list ds) = true := by
  unfold SeqAt.shaped PyData.canLay0 PyData.depth
  rw [h1, Bool.true_and]
  exact decide_eq_true (by omega)
theorem shpT {ds : List PyData} (h1 : PyData.canLayAll0 ds = true) (h2 : PyData.depthAll ds ≤ 60) : SeqAt.shaped (.tuple ds) = true := by
  unfold SeqAt.shaped PyData.canLay0 PyData.depth
  rw [h1, Bool.true_and]
  exact decide_eq_true (by omega)
end
section
variable {X : Cx} {p : Pd}
theorem obl_ok {m : Mp} {h : Hh} {H : Hp} {E : XK} {Q : VK} {o : Option Bool} (rh : RH p m h H) (ok : Ok (RV p) p m H E (obl o h) Q) : ∃ c, o = some c ∧ Q (.bl c) H := by
  cases o with
  | none => cases ok
  | some c => exact ⟨c, rfl, Ok.bl rh ok⟩
theorem cmp_eq (hK : X.K = p.K) (hu : X.A.units + 64 < cLine) : OpR X (compareOp .Eq) (rdO p (Rk.cmp .eq)) := OpR.wk (op_eqD hu) fun x y H Q ⟨m, h, a, b, E, rh, ra, rb, ok⟩ => by
  obtain ⟨c, e, q⟩ := obl_ok rh ok
  obtain ⟨d, d2, a1, b1, a2, b2, e2⟩ := ceq_ok rh ra rb e
  rw [hK]
  exact ⟨d, d2, a1, b1, shp a2, shp b2, by rw [e2]; exact q⟩
theorem onot_ok {o : Option Bool} {c : Bool} (h : onot o = some c) : o = some (!c) := by
  cases o with
  | none => cases h
  | some b =>
    cases b <;> cases h <;> rfl
theorem cmp_ne (hK : X.K = p.K) (hu : X.A.units + 64 < cLine) : OpR X (compareOp .NotEq) (rdO p (Rk.cmp .ne)) := OpR.wk (op_neD hu) fun x y H Q ⟨m, h, a, b, E, rh, ra, rb, ok⟩ => by
  obtain ⟨c, e, q⟩ := obl_ok rh ok
  obtain ⟨d, d2, a1, b1, a2, b2, e2⟩ := ceq_ok rh ra rb (onot_ok e)
  rw [hK]
  exact ⟨d, d2, a1, b1, shp a2, shp b2, by rw [e2, Bool.not_not]; exact q⟩
def rInT (K : PySem.W.Frag) : R2 := fun x y H Q => ∃ d ds, Dp K H x d ∧ Dp K H y (.tuple ds) ∧ SeqAt.shaped d = true ∧ SeqAt.shaped (.tuple ds) = true ∧ Q (.bl (ds.any fun z => PyData.eqv z d)) H
def rNotInT (K : PySem.W.Frag) : R2 := fun x y H Q => ∃ d ds, Dp K H x d ∧ Dp K H y (.tuple ds) ∧ SeqAt.shaped d = true ∧ SeqAt.shaped (.tuple ds) = true ∧ Q (.bl (!ds.any fun z => PyData.eqv z d)) H
theorem op_inT (hu : X.A.units + 65 < cLine) : OpR X (compareOp .In) (rInT X.K) := by
  intro pn s sg H x y v u Q I ru rv q
  obtain ⟨d, ds, hd, he, sd, se, q⟩ := q
  obtain ⟨as, r1⟩ := Dp.reads I d x v hd ru
  obtain ⟨bs, r2⟩ := Dp.reads I (.tuple ds) y u he rv
  exact SeqAt.in_tuple_reads r2 r1 (SeqAt.canLay_of_shaped se) (SeqAt.canLay_of_shaped sd) (PyProof.Rows.room_in_shaped sd hu) ⟨.bl _, H, I, rfl, q⟩
theorem op_notInT (hu : X.A.units + 65 < cLine) : OpR X (compareOp .NotIn) (rNotInT X.K) := by
  intro pn s sg H x y v u Q I ru rv q
  obtain ⟨d, ds, hd, he, sd, se, q⟩ := q
  obtain ⟨as, r1⟩ := Dp.reads I d x v hd ru
  obtain ⟨bs, r2⟩ := Dp.reads I (.tuple ds) y u he rv
  exact SeqAt.notIn_tuple_reads r2 r1 (SeqAt.canLay_of_shaped se) (SeqAt.canLay_of_shaped sd) (PyProof.Rows.room_in_shaped sd hu) ⟨.bl _, H, I, rfl, q⟩
theorem kOk_key {b : IV} (h : kOk b = true) : ∃ q, kyOf b = some q := by
  cases b <;> first | exact ⟨_, rfl⟩ | cases h
theorem kq_eq {a b : IV} {q r : Key} (ha : kyOf a = some q) (hb : kyOf b = some r) : kq a b = decide (q = r) := by
  cases a <;> first | (cases ha; done) | skip
  · cases b <;> first | (cases hb; done) | skip
    · cases ha
      cases hb
      show ieq _ _ = _
      rw [ieq_eq]
      exact decide_eq_decide.mpr ⟨fun z => by rw [z], fun z => Sum.inl.inj z⟩
    · cases ha
      cases hb
      show false = _
      symm
      rw [decide_eq_false_iff_not]
      exact fun z => nomatch z
  · cases b <;> first | (cases hb; done) | skip
    · cases ha
      cases hb
      show false = _
      symm
      rw [decide_eq_false_iff_not]
      exact fun z => nomatch z
    · cases ha
      cases hb
      show seq _ _ = _
      rw [seq_eq]
      exact decide_eq_decide.mpr ⟨fun z => by rw [z], fun z => Sum.inr.inj z⟩
theorem kV_of {K : Pd} {m : Mp} {H : Hp} {b : IV} {y : V} {q : Key} (r : RV K m H b y) (h : kyOf b = some q) : y = kV q := by
  cases r <;> first | (cases h; done) | (cases h; rfl)
theorem RKv.len {κ : Type} {f : IV → Option κ} {K : Pd} {m : Mp} {H : Hp} : ∀ {kvs : List (IV × IV)} {r : List (κ × V)}, RKv f K m H kvs r → kvs.length = r.length
  | _, _, .nil => rfl
  | _, _, .cons _ _ s => congrArg (· + 1) s.len
theorem RKv.look {K : Pd} {m : Mp} {H : Hp} {k : IV} {q : Key} (hk : kyOf k = some q) : ∀ {kvs : List (IV × IV)} {r : List (Key × V)}, RKv kyOf K m H kvs r →
    (∀ v, dlook k kvs = some v → ∃ x, valV r q = some x ∧ RV K m H v x) ∧ (dlook k kvs = none → valV r q = none)
  | _, _, .nil => ⟨fun _ e => (by cases e), fun _ => rfl⟩
  | _, _, .cons (k := k2) (v := v2) (q := q2) (x := x2) (kvs := kvs) (r := r) e rv s => by
    obtain ⟨h1, h2⟩ := RKv.look hk s
    have z := kq_eq e hk
    by_cases c : q2 = q
    · rw [decide_eq_true c] at z
      have e2 : dlook k ((k2, v2) :: kvs) = some v2 := by
        show (match kq k2 k with
          | true => some v2
          | false => dlook k kvs) = _
        rw [z]
      rw [e2]
      refine ⟨fun v ev => ?_, fun ev => by cases ev⟩
      cases ev
      exact ⟨x2, valV_pos c, rv⟩
    · rw [decide_eq_false c] at z
      have e2 : dlook k ((k2, v2) :: kvs) = dlook k kvs := by
        show (match kq k2 k with
          | true => some v2
          | false => dlook k kvs) = _
        rw [z]
      rw [e2, valV_neg c]
      exact ⟨h1, h2⟩
theorem RKv.rep {K : Pd} {m : Mp} {H : Hp} {k v : IV} {q : Key} {x : V} (hk : kyOf k = some q) (rx : RV K m H v x) : ∀ {kvs : List (IV × IV)} {r : List (Key × V)}, RKv kyOf K m H kvs r →
    RKv kyOf K m H (drep k v kvs) (r.map fun kv => if kv.1 = q then (kv.1, x) else kv)
  | _, _, .nil => .nil
  | _, _, .cons (k := k2) (v := v2) (q := q2) (x := x2) (kvs := kvs) (r := r) e rv s => by
    have z := kq_eq e hk
    rw [List.map_cons]
    by_cases c : q2 = q
    · rw [decide_eq_true c] at z
      have e2 : drep k v ((k2, v2) :: kvs) = (k2, v) :: drep k v kvs := by
        show (match kq k2 k with
          | true => (k2, v) :: drep k v kvs
          | false => (k2, v2) :: drep k v kvs) = _
        rw [z]
      rw [e2, if_pos c]
      exact .cons e rx (RKv.rep hk rx s)
    · rw [decide_eq_false c] at z
      have e2 : drep k v ((k2, v2) :: kvs) = (k2, v2) :: drep k v kvs := by
        show (match kq k2 k with
          | true => (k2, v) :: drep k v kvs
          | false => (k2, v2) :: drep k v kvs) = _
        rw [z]
      rw [e2, if_neg c]
      exact .cons e rv (RKv.rep hk rx s)
theorem RKv.snoc {κ : Type} {f : IV → Option κ} {K : Pd} {m : Mp} {H : Hp} {k v : IV} {q : κ} {x : V} (hk : f k = some q) (rx : RV K m H v x) : ∀ {kvs : List (IV × IV)} {r : List (κ × V)}, RKv f K m H kvs r → RKv f K m H (dsnoc (k, v) kvs) (r ++ [(q, x)])
  | _, _, .nil => .cons hk rx .nil
  | _, _, .cons e rv s => .cons e rv (RKv.snoc hk rx s)
theorem RKv.put {K : Pd} {m : Mp} {H : Hp} {k v : IV} {q : Key} {x : V} (hk : kyOf k = some q) (rx : RV K m H v x) {kvs : List (IV × IV)} {r : List (Key × V)} (s : RKv kyOf K m H kvs r) : RKv kyOf K m H (dput k v kvs) (L2.putK r q x) := by
  obtain ⟨h1, h2⟩ := RKv.look hk s
  unfold dput
  cases e : dlook k kvs with
  | none =>
    rw [putK_new x (h2 e)]
    exact s.snoc hk rx
  | some w =>
    obtain ⟨y, hy, _⟩ := h1 w e
    have z : (r.any fun kv => decide (kv.1 = q)) = true := by
      rw [valV_any, hy]
      rfl
    unfold L2.putK
    rw [z]
    exact s.rep hk rx
theorem RKv.drop {K : Pd} {m : Mp} {H : Hp} {k : IV} {q : Key} (hk : kyOf k = some q) : ∀ {kvs : List (IV × IV)} {r : List (Key × V)}, RKv kyOf K m H kvs r → RKv kyOf K m H (ddrop k kvs) (dropK r q)
  | _, _, .nil => .nil
  | _, _, .cons (k := k2) (v := v2) (q := q2) (x := x2) (kvs := kvs) (r := r) e rv s => by
    have z := kq_eq e hk
    unfold dropK
    by_cases c : q2 = q
    · rw [decide_eq_true c] at z
      have e2 : ddrop k ((k2, v2) :: kvs) = ddrop k kvs := by
        show (match kq k2 k with
          | true => ddrop k kvs
          | false => (k2, v2) :: ddrop k kvs) = _
        rw [z]
      rw [e2, List.filter_cons_of_neg (by simpa using c)]
      exact RKv.drop hk s
    · rw [decide_eq_false c] at z
      have e2 : ddrop k ((k2, v2) :: kvs) = (k2, v2) :: ddrop k kvs := by
        show (match kq k2 k with
          | true => ddrop k kvs
          | false => (k2, v2) :: ddrop k kvs) = _
        rw [z]
      rw [e2, List.filter_cons_of_pos (by simpa using c)]
      exact .cons e rv (RKv.drop hk s)
theorem isS_eq {α : Type} (o : Option α) : isS o = o.isSome := by
  cases o <;> rfl
theorem RH.dct {K : Pd} {m : Mp} {h : Hh} {H : Hp} (rh : RH K m h H) {n : Nat} {a : Addr} {d : DD} (e : m n = some a) (q : h.get n = some (.dict d)) (ht : d.t = false) : ∃ r, RdL d.lk H a (.dK r) ∧ RKv kyOf K m H d.kvs r := by
  obtain ⟨t, lk, kvs⟩ := d
  dsimp only at ht
  subst ht
  exact rh.here e q
theorem RdL.rd {lk : Bool} {H : Hp} {a : Addr} {u : HO} (h : RdL lk H a u) : Rd H a u := by
  cases lk with
  | false => exact .inl h
  | true => exact .inr h
theorem dkey_t {t : Bool} {k : IV} (h : dkey t k = true) : t = false ∧ kOk k = true := by
  cases t with
  | false => exact ⟨rfl, h⟩
  | true => cases h
theorem dget_ok {K : Pd} {m : Mp} {h : Hh} {H : Hp} (rh : RH K m h H) {n : Nat} {a : Addr} {d : DD} {k : IV} {y : V} (e : m n = some a) (q : h.get n = some (.dict d)) (hk : dkey d.t k = true) (ry : RV K m H k y) :
    ∃ o, DGet H a y o ∧ (∀ v, dlook k d.kvs = some v → ∃ x, o = some x ∧ RV K m H v x) ∧ (dlook k d.kvs = none → o = none) := by
  obtain ⟨ht, hk⟩ := dkey_t hk
  obtain ⟨r, h1, h2⟩ := rh.dct e q ht
  obtain ⟨c, hc⟩ := kOk_key hk
  obtain ⟨l1, l2⟩ := RKv.look hc h2
  refine ⟨valV r c, .inl ⟨r, c, h1.rd, kV_of ry hc, rfl⟩, l1, l2⟩
def rInK : R2 := fun x y H Q => ∃ a o, y = .ref a ∧ DGet H a x o ∧ Q (.bl o.isSome) H
def rNotInK : R2 := fun x y H Q => ∃ a o, y = .ref a ∧ DGet H a x o ∧ Q (.bl (!o.isSome)) H
theorem op_inK (hu : X.A.units + 65 < cLine) : OpR X (compareOp .In) rInK := by
  intro pn s sg H x y v u Q I ru rv q
  obtain ⟨a, o, rfl, g, q⟩ := q
  cases rv
  exact d_in (by omega) I g ru fun s3 I3 => ⟨.bl o.isSome, H, I3, rfl, q⟩
theorem op_notInK (hu : X.A.units + 65 < cLine) : OpR X (compareOp .NotIn) rNotInK := by
  intro pn s sg H x y v u Q I ru rv q
  obtain ⟨a, o, rfl, g, q⟩ := q
  cases rv
  exact d_notIn (by omega) I g ru fun s3 I3 => ⟨.bl (!o.isSome), H, I3, rfl, q⟩
theorem cin_ok {m : Mp} {h : Hh} {H : Hp} {K : Pd} {a b : IV} {x y : V} (rh : RH K m h H) (ra : RV K m H a x) (rb : RV K m H b y) {c : Bool} (e : cinS h a b = some c) :
    ∃ d ds, Dp K H x d ∧ (Dp K H y (.tuple ds) ∧ SeqAt.shaped (.tuple ds) = true ∨ Dp K H y (.list ds) ∧ SeqAt.shaped (.list ds) = true) ∧ SeqAt.shaped d = true ∧ (ds.any fun z => PyData.eqv z d) = c := by
  unfold cinS at e
  cases e1 : toD h 60 a with
  | none =>
    rw [e1] at e
    cases e
  | some d =>
    rw [e1] at e
    cases e2 : items b h with
    | none =>
      rw [e2] at e
      cases e
    | some xs =>
      rw [e2] at e
      cases e3 : mapO (toD h 60) xs with
      | none =>
        simp only [e3] at e
        cases e
      | some ds =>
        simp only [e3] at e
        obtain ⟨a1, a2, a3⟩ := toD_ok rh 60 _ _ _ e1 ra
        obtain ⟨l, vs, rfl, s, b2, b3⟩ := items_data rh rb e2 e3
        refine ⟨d, ds, a1, ?_, shp ⟨a2, a3⟩, by rw [← anyD_eq]; exact Option.some.inj e⟩
        rcases s with ⟨_, s⟩ | ⟨_, s⟩
        · exact .inl ⟨s, shpT b2 b3⟩
        · exact .inr ⟨s, shpL b2 b3⟩
theorem cin_or {K : Pd} {m : Mp} {h : Hh} {H : Hp} {a b : IV} {x y : V} (rh : RH K m h H) (ra : RV K m H a x) (rb : RV K m H b y) {c : Bool} (e : cin h a b = some c) : cinS h a b = some c ∨ ∃ q o, y = .ref q ∧ DGet H q x o ∧ o.isSome = c := by
  unfold cin at e
  cases rb <;> first | exact .inl e | skip
  rename_i n q em
  dsimp only at e
  cases g : h.get n with
  | none =>
    rw [g] at e
    exact .inl e
  | some w =>
    rw [g] at e
    cases w with
    | lst _ => exact .inl e
    | inst _ _ => exact .inl e
    | dict d =>
      right
      have e : cinD a d = some c := e
      unfold cinD at e
      cases hk : dkey d.t a with
      | false =>
        rw [hk] at e
        cases e
      | true =>
        rw [hk] at e
        obtain ⟨o, h1, h2, h3⟩ := dget_ok rh em g hk ra
        refine ⟨q, o, rfl, h1, ?_⟩
        rw [← Option.some.inj e]
        cases l : dlook a d.kvs with
        | none =>
          rw [h3 l]
          rfl
        | some v =>
          obtain ⟨z, hz, _⟩ := h2 v l
          rw [hz]
          rfl
theorem cmp_in (hK : X.K = p.K) (hu : X.A.units + 65 < cLine) : OpR X (compareOp .In) (rdO p (Rk.cmp .inn)) := OpR.wk (((op_inT hu).or (op_inD hu)).or (op_inK hu)) fun x y H Q ⟨m, h, a, b, E, rh, ra, rb, ok⟩ => by
  obtain ⟨c, e, q⟩ := obl_ok rh ok
  rcases cin_or rh ra rb e with e | ⟨z, o, rfl, g, eo⟩
  · left
    obtain ⟨d, ds, h1, h2, h3, h4⟩ := cin_ok rh ra rb e
    rw [hK]
    rcases h2 with ⟨h2, h5⟩ | ⟨h2, h5⟩
    · exact .inl ⟨d, ds, h1, h2, h3, h5, by rw [h4]; exact q⟩
    · exact .inr ⟨d, ds, h1, h2, h3, h5, by rw [h4]; exact q⟩
  · exact .inr ⟨z, o, rfl, g, by rw [eo]; exact q⟩
theorem cmp_nin (hK : X.K = p.K) (hu : X.A.units + 65 < cLine) : OpR X (compareOp .NotIn) (rdO p (Rk.cmp .nin)) := OpR.wk (((op_notInT hu).or (op_notInD hu)).or (op_notInK hu)) fun x y H Q ⟨m, h, a, b, E, rh, ra, rb, ok⟩ => by
  obtain ⟨c, e, q⟩ := obl_ok rh ok
  rcases cin_or rh ra rb (onot_ok e) with e | ⟨z, o, rfl, g, eo⟩
  · left
    obtain ⟨d, ds, h1, h2, h3, h4⟩ := cin_ok rh ra rb e
    rw [hK]
    rcases h2 with ⟨h2, h5⟩ | ⟨h2, h5⟩
    · exact .inl ⟨d, ds, h1, h2, h3, h5, by rw [h4, Bool.not_not]; exact q⟩
    · exact .inr ⟨d, ds, h1, h2, h3, h5, by rw [h4, Bool.not_not]; exact q⟩
  · exact .inr ⟨z, o, rfl, g, by rw [eo, Bool.not_not]; exact q⟩
theorem cmp_lt : OpR X (compareOp .Lt) (rdO p (Rk.cmp .lt)) := OpR.wk op_lt fun x y H Q hq => by
  obtain ⟨m, h, a, b, E, rh, ra, rb, ok⟩ := hq
  cases ra <;> first | (cases ok; done) | skip
  cases rb <;> first | (cases ok; done) | skip
  rename_i i j
  have q := Ok.bl rh (show Ok (RV p) p m H E (.ok (.bl (ilt i j)) h) Q from ok)
  rw [ilt_eq] at q
  exact ⟨i, j, rfl, rfl, q⟩
theorem cmp_gt : OpR X (compareOp .Gt) (rdO p (Rk.cmp .gt)) := OpR.wk op_gt fun x y H Q hq => by
  obtain ⟨m, h, a, b, E, rh, ra, rb, ok⟩ := hq
  cases ra <;> first | (cases ok; done) | skip
  cases rb <;> first | (cases ok; done) | skip
  rename_i i j
  have q := Ok.bl rh (show Ok (RV p) p m H E (.ok (.bl (ilt j i)) h) Q from ok)
  rw [ilt_eq] at q
  exact ⟨i, j, rfl, rfl, q⟩
theorem cmp_le : OpR X (compareOp .LtE) (rdO p (Rk.cmp .le)) := OpR.wk op_le fun x y H Q hq => by
  obtain ⟨m, h, a, b, E, rh, ra, rb, ok⟩ := hq
  cases ra <;> first | (cases ok; done) | skip
  cases rb <;> first | (cases ok; done) | skip
  rename_i i j
  have q := Ok.bl rh (show Ok (RV p) p m H E (.ok (.bl (ile i j)) h) Q from ok)
  rw [ile_eq] at q
  exact ⟨i, j, rfl, rfl, q⟩
theorem cmp_ge : OpR X (compareOp .GtE) (rdO p (Rk.cmp .ge)) := OpR.wk op_ge fun x y H Q hq => by
  obtain ⟨m, h, a, b, E, rh, ra, rb, ok⟩ := hq
  cases ra <;> first | (cases ok; done) | skip
  cases rb <;> first | (cases ok; done) | skip
  rename_i i j
  have q := Ok.bl rh (show Ok (RV p) p m H E (.ok (.bl (ile j i)) h) Q from ok)
  rw [ile_eq] at q
  exact ⟨i, j, rfl, rfl, q⟩
theorem cmp_is : OpR X (compareOp .Is) (rdO p (Rk.cmp .is)) := OpR.wk (op_isN.or op_isBl) fun x y H Q hq => by
  obtain ⟨m, h, a, b, E, rh, ra, rb, ok⟩ := hq
  cases rb <;> first | (cases ok; done) | skip
  · left
    cases ra <;> first | (cases ok; done) | exact ⟨rfl, Ok.bl rh ok⟩
  · right
    rename_i d
    cases ra <;> first | (cases ok; done) | skip
    rename_i c
    cases c <;> cases d <;> exact ⟨_, _, rfl, rfl, Ok.bl rh ok⟩
theorem cmp_isnt : OpR X (compareOp .IsNot) (rdO p (Rk.cmp .isnt)) := OpR.wk (op_notN.or op_notBl) fun x y H Q hq => by
  obtain ⟨m, h, a, b, E, rh, ra, rb, ok⟩ := hq
  cases rb <;> first | (cases ok; done) | skip
  · left
    cases ra <;> first | (cases ok; done) | exact ⟨rfl, Ok.bl rh ok⟩
  · right
    rename_i d
    cases ra <;> first | (cases ok; done) | skip
    rename_i c
    cases c <;> cases d <;> exact ⟨_, _, rfl, rfl, Ok.bl rh ok⟩
def cpX : Cp → CmpOp
  | .eq => .Eq
  | .ne => .NotEq
  | .lt => .Lt
  | .le => .LtE
  | .gt => .Gt
  | .ge => .GtE
  | .is => .Is
  | .isnt => .IsNot
  | .inn => .In
  | .nin => .NotIn
theorem cmp_ok (hK : X.K = p.K) (hu : X.A.units + 65 < cLine) : ∀ o : Cp, OpR X (compareOp (cpX o)) (rdO p (Rk.cmp o))
  | .eq => cmp_eq hK (by omega)
  | .ne => cmp_ne hK (by omega)
  | .lt => cmp_lt
  | .le => cmp_le
  | .gt => cmp_gt
  | .ge => cmp_ge
  | .is => cmp_is
  | .isnt => cmp_isnt
  | .inn => cmp_in hK hu
  | .nin => cmp_nin hK hu
end
end
end Rk
namespace Rk
noncomputable section
open PySem PySem.Spec PyProof.Rows L2
structure Gc where
  name : Str
  ini : Nat
  ms : List (Nat × Nat)
structure Gd where
  fns : List (Str × List Str)
  glo : List Str
  exs : List (Str × Option Str)
  free : List Str
  /-- calls with keywords: the def, how many by place, the keywords' places -/
  kws : List (Nat × Nat × List Nat)
  /-- whether an exception is of a built-in class -/
  isis : List (Nat × String × Bool)
  /-- all defs' parameters, methods behind the others; classes; fields' and methods' names -/
  dps : List (List Str) := []
  cls : List Gc := []
  flds : List Str := []
  mids : List Str := []
structure Cc where
  N : List Str
  sc : Scope
  fn : Str → Bool
  calm : Bool
def spF (p : Pd) (cf : Nat → List IV → Hh → R IV) (i n : Nat) : Sp := fun vs H Q E => vs.length = n ∧ ∃ m h as, RH p m h H ∧ RVs p m H as vs ∧ Ok (RV p) p m H E (cf i as h) Q
def perm {α : Type} (us ws : List α) (ks : List Nat) : List (Option α) → List (Option α) → List (Option α) := fun a _ => a
structure Fa (g : Gd) (p : Pd) (cf : Nat → List IV → Hh → R IV) (X : Cx) (i : Nat) (ps : List Str) (fd : FuncData) (lv : Nat) : Prop where
  kp : PySem.W.keepIn X.K (.ref (p.dA i)) = true
  room : Room lv X.A
  rm1 : Room (lv + 1) X.A
  ok : FnOk X.prog X.w X.K X.mg X.base (L2.CX X.prog X.w) lv (p.dA i) fd ps (spF p cf i ps.length)
  bind : ∀ (s : Shared) (us : List Value), us.length = ps.length → BindsTo s fd ⟨us, []⟩ (ps.zip us)
  bindk : ∀ n ks, (i, n, ks) ∈ g.kws → ∀ (s : Shared) (us ws : List Value), us.length = n → ws.length = ks.length → ∃ zs : List Value, BindsTo s fd ⟨us, (ks.map fun k => ps.getD k Str.empty).zip ws⟩ (ps.zip zs) ∧
    ∀ (K : Pd) (m : Mp) (H : Hp) (as bs cs : List IV) (vs xs : List V), Vals vs us → Vals xs ws → RVs K m H as vs → RVs K m H bs xs → allK (putK (as.map some ++ ks.map fun _ => none) ks bs) = some cs → ∃ ys, Vals ys zs ∧ RVs K m H cs ys ∧ ys.length = ps.length
structure KcOk (g : Gd) (T : Tab) (p : Pd) (mg : Str → Option Value) (K : PySem.W.Frag) (k : Nat) (G : Gc) : Prop where
  mg : mg G.name = some (.ref (p.kA k))
  cl : Cls K (p.kA k)
  mke : Mk K (p.kA k) (p.dA G.ini)
  ini : at? T.ini k = some G.ini
  mth : at? T.mth k = some G.ms
  no : ∀ i f, at? g.flds i = some f → NoAttr K (p.kA k) f
  me : ∀ m i, look m G.ms = some i → ∃ nm, at? g.mids m = some nm ∧ Meth K (p.kA k) nm (p.dA i) ∧ i < p.nd
  inn : G.ini < p.nd
structure CxOk (g : Gd) (T : Tab) (p : Pd) (cf : Nat → List IV → Hh → R IV) (W : Wx) (c : Cc) (X : Cx) : Prop where
  n : X.N = c.N
  nd : X.N.Nodup
  sc : X.env.scope = c.sc
  fn : ∀ x, c.fn x = true → X.fn x = true
  K : X.K = p.K
  tk : Takes X W
  calm : c.calm = true → X.calm = true
  un : X.A.units + 65 < cLine
  fns : ∀ i x ps, at? g.fns i = some (x, ps) → X.mg x = some (.ref (p.dA i)) ∧ at? g.dps i = some ps
  dfs : c.calm = true → ∀ i ps, at? g.dps i = some ps → ∃ fd lv, Fa g p cf X i ps fd lv
  cls : ∀ k G, at? g.cls k = some G → KcOk g T p X.mg X.K k G
  nc : ∀ k, k < p.nc ↔ k < g.cls.length
  fld : ∀ i f, at? g.flds i = some f → p.fl i = f
  nf : p.nf = g.flds.length
  mf : ∀ m nm, at? g.mids m = some nm → nm ∉ g.flds
  ini : ∀ k i, at? T.ini k = some i → k < p.nc
  cfl : ∀ i as h ps, at? g.dps i = some ps → cf i as h ≠ .fail → as.length = ps.length
  nds : ∀ i, i < p.nd ↔ i < g.dps.length
  free : ∀ x, g.free.contains x = true → X.mg x = none
  own : PassesOwn (model X.prog X.w) X.A X.env X.xe
  glo : ∀ i x, at? g.glo i = some x → ∃ v V u, at? T.glo i = some v ∧ X.mg x = some u ∧ RelV V u ∧ ∀ m H, RV p m H v V
def visB (sc : Scope) (x : Str) : Bool := match sc.names.lookup x with
  | some .local => true
  | some .cell => true
  | some .free => true
  | _ => false
def glB (sc : Scope) (x : Str) : Bool := match sc.names.lookup x with
  | some .globalImplicit => true
  | _ => false
def locB (c : Cc) (x : Str) : Bool := match c.sc.names.lookup x with
  | some .local => true
  | some .cell => c.fn x
  | _ => false
theorem visB_ok {sc : Scope} {x : Str} (h : visB sc x = true) : Vis sc x := by
  unfold visB at h
  unfold Vis
  cases e : sc.names.lookup x with
  | none =>
    rw [e] at h
    cases h
  | some k =>
    rw [e] at h
    cases k <;> simp at h ⊢
def nmB (x : Str) : Bool := !(x == ("__debug__" : Str)) && (!(x == ("__classdict__" : Str)) && !(x == ("__name__" : Str)))
theorem nmB_ok {x : Str} (h : nmB x = true) : (x == ("__debug__" : Str)) = false ∧ (x == ("__classdict__" : Str)) = false ∧ x ≠ ("__name__" : Str) := by
  unfold nmB at h
  rw [Bool.and_eq_true, Bool.and_eq_true] at h
  obtain ⟨a, b, c⟩ := h
  refine ⟨?_, ?_, ?_⟩
  · cases q : (x == ("__debug__" : Str)) with
    | false => rfl
    | true =>
      rw [q] at a
      cases a
  · cases q : (x == ("__classdict__" : Str)) with
    | false => rfl
    | true =>
      rw [q] at b
      cases b
  · intro q
    rw [q] at c
    rw [beq_self_eq_true] at c
    cases c
theorem at_list {α : Type} : ∀ {l : List α} {i : Nat}, at? l i = l[i]?
  | [], _ => rfl
  | _ :: _, 0 => rfl
  | _ :: r, i + 1 => by
    show at? r i = _
    rw [at_list (l := r)]
    rfl
section
variable {g : Gd} {T : Tab} {p : Pd} {cf : Nat → List IV → Hh → R IV} {W : Wx} {c : Cc} {X : Cx}
theorem gl_ok (C : CxOk g T p cf W c X) {x : Str} (h : glB c.sc x = true) : Gl X x := by
  show X.env.scope.names.lookup x = _
  rw [C.sc]
  unfold glB at h
  cases e : c.sc.names.lookup x with
  | none =>
    rw [e] at h
    cases h
  | some k =>
    rw [e] at h
    cases k <;> first | rfl | cases h
theorem ofO_some {o : Option IV} {m : Mp} {h : Hh} {H : Hp} {E : XK} {Q : VK} (ok : Ok (RV p) p m H E (ofO o h) Q) : ∃ v, o = some v ∧ Ok (RV p) p m H E (.ok v h) Q := by
  cases o with
  | none => cases ok
  | some v => exact ⟨v, rfl, ok⟩
theorem n_var (C : CxOk g T p cf W c X) {i : Nat} {x : Str} {pos : Pos} (hx : at? c.N i = some x) (hv : visB c.sc x = true) (hn : nmB x = true) : PE X (.Name x pos) (rdE p W fun r h => ofO (get r i) h) := by
  obtain ⟨d1, d2, _⟩ := nmB_ok hn
  refine PE.wk (pe_var (i := i) (by rw [C.n, ← at_list]; exact hx) (by rw [C.sc]; exact visB_ok hv) d1 d2) fun σ H Q ⟨m, r, h, s, t, o⟩ => ?_
  obtain ⟨v, e, o1⟩ := ofO_some o
  obtain ⟨V, e2, q⟩ := s.2 i v e
  exact ⟨V, e2, o1 m H V Xt.refl t q⟩
theorem n_glo (C : CxOk g T p cf W c X) {i : Nat} {x : Str} {pos : Pos} (hx : at? g.glo i = some x) (hv : glB c.sc x = true) (hn : nmB x = true) : PE X (.Name x pos) (rdE p W fun _ h => ofO (at? T.glo i) h) := by
  obtain ⟨v, V, u, e, e1, e2, e3⟩ := C.glo i x hx
  refine PE.wk (pe_glob (v := V) (gl_ok C hv) e1 e2 (nmB_ok hn).1) fun σ H Q ⟨m, r, h, s, t, o⟩ => ?_
  rw [e] at o
  exact o m H V Xt.refl t (e3 m H)
theorem n_non {j pos} : PE X (.Constant .none j pos) (rdE p W fun _ h => .ok .non h) := PE.wk pe_non fun σ H Q ⟨m, r, h, s, t, o⟩ => Ok.non t o
theorem n_bl {b j pos} : PE X (.Constant (.bool b) j pos) (rdE p W fun _ h => .ok (.bl b) h) := PE.wk pe_bl fun σ H Q ⟨m, r, h, s, t, o⟩ => Ok.bl t o
theorem n_int {i j pos} : PE X (.Constant (.int i) j pos) (rdE p W fun _ h => .ok (.int i) h) := PE.wk pe_int fun σ H Q ⟨m, r, h, s, t, o⟩ => Ok.int t o
theorem n_str {x j pos} : PE X (.Constant (.str x) j pos) (rdE p W fun _ h => .ok (.str x) h) := PE.wk pe_str fun σ H Q ⟨m, r, h, s, t, o⟩ => o m H _ Xt.refl t (.str x)
theorem a_nil : PA X [] (rdA p W fun _ h => .ok [] h) := PA.wk pa_nil fun σ H Q ⟨m, r, h, s, t, o⟩ => o m H _ Xt.refl t .nil
def star : Expr → Bool
  | .Starred .. => true
  | _ => false
theorem a_cons {e : Expr} {es : List Expr} {M : Rho → Hh → R IV} {Ms : Rho → Hh → R (List IV)} (hs : star e = false) (he : PE X e (rdE p W M)) (hr : PA X es (rdA p W Ms)) :
    PA X (e :: es) (rdA p W fun r h => (M r h).bd fun x h => (Ms r h).bd fun xs h => .ok (x :: xs) h) := by
  refine PA.wk (pa_cons he hr (by cases e <;> first | rfl | cases hs)) fun σ H Q q => ?_
  obtain ⟨m, r, h, s, t, o⟩ := q
  exact ⟨m, r, h, s, t, o.bd.mono fun V1 H1 ⟨m1, h1, v1, e1, rh1, rv1, ok1⟩ => ⟨m1, r, h1, s.mono e1, rh1, ok1.bd.mono fun V2 H2 ⟨m2, h2, v2, e2, rh2, rv2, ok2⟩ => ok2 m2 H2 _ Xt.refl rh2 (.cons (rv1.mono e2) rv2)⟩⟩
theorem n_tup {es : List Expr} {Ms : Rho → Hh → R (List IV)} {k pos} (hr : PA X es (rdA p W Ms)) (hl : es.length ≤ 1000) (hn : ∀ r h vs h', Ms r h = .ok vs h' → vs.length = es.length) :
    PE X (.Tuple es k pos) (rdE p W fun r h => (Ms r h).bd fun vs h => .ok (.tup vs) h) := by
  refine PE.wk (pe_tup hr) fun σ H Q q => ?_
  obtain ⟨m, r, h, s, t, o⟩ := q
  refine ⟨m, r, h, s, t, ?_⟩
  dsimp only at o
  cases e : Ms r h with
  | fail =>
    rw [e] at o
    exact o
  | exc x h' =>
    rw [e] at o
    exact o
  | ok vs h' =>
    rw [e] at o
    refine fun m1 H1 b x1 rh1 rv1 => ⟨?_, fun q hq => Ok.tup rh1 rv1 (Ok.ext o x1) hq⟩
    rw [← rv1.length, hn r h vs h' e]
    exact Nat.le_trans hl (by decide)
theorem n_lst {es : List Expr} {Ms : Rho → Hh → R (List IV)} {pos} (hr : PA X es (rdA p W Ms)) (hl : es.length ≤ 1000) (hn : ∀ r h vs h', Ms r h = .ok vs h' → vs.length = es.length) :
    PE X (.List es pos) (rdE p W fun r h => (Ms r h).bd newL) := by
  refine PE.wk (pe_lst hr) fun σ H Q q => ?_
  obtain ⟨m, r, h, s, t, o⟩ := q
  refine ⟨m, r, h, s, t, ?_⟩
  dsimp only at o
  cases e : Ms r h with
  | fail =>
    rw [e] at o
    exact o
  | exc x h' =>
    rw [e] at o
    exact o
  | ok vs h' =>
    rw [e] at o
    refine fun m1 H1 b x1 rh1 rv1 => ⟨?_, fun q hq => Ok.newL rh1 rv1 (Ok.ext o x1) hq⟩
    rw [← rv1.length, hn r h vs h' e]
    exact Nat.le_trans hl (by decide)
theorem n_op {f : Value → Value → Sem Value} {F : IV → IV → Hh → R IV} {e : Expr} {a b : Expr} {Ma Mb : Rho → Hh → R IV}
    (h : ∀ r : R2, OpR X f r → PE X e (tOp r (rdE p W Ma) (rdE p W Mb))) (ho : OpR X f (rdO p F)) :
    PE X e (rdE p W fun r h => (Ma r h).bd fun x h => (Mb r h).bd fun y h => F x y h) := by
  refine PE.wk (h _ ho) fun σ H Q q => ?_
  obtain ⟨m, r, h, s, t, o⟩ := q
  exact ⟨m, r, h, s, t, o.bd.mono fun V1 H1 ⟨m1, h1, v1, e1, rh1, rv1, ok1⟩ => ⟨m1, r, h1, s.mono e1, rh1, ok1.bd.mono fun V2 H2 ⟨m2, h2, v2, e2, rh2, rv2, ok2⟩ => ⟨m2, h2, v1, v2, _, rh2, rv1.mono e2, rv2, ok2⟩⟩⟩
theorem n_bin (C : CxOk g T p cf W c X) (o : Op) {a b : Expr} {Ma Mb : Rho → Hh → R IV} {pos} (ha : PE X a (rdE p W Ma)) (hb : PE X b (rdE p W Mb)) :
    PE X (.BinOp a (opX o) b pos) (rdE p W fun r h => (Ma r h).bd fun x h => (Mb r h).bd fun y h => opr o x y h) :=
  n_op (a := a) (b := b) (fun r h => pe_op h ha hb) (op_ok C.K o)
def noSet : Expr → Bool
  | .Set .. => false
  | _ => true
theorem noSet_ok {b : Expr} (h : noSet b = true) (op : CmpOp) : behindInMarks op b = false := by
  cases b <;> first | rfl | cases h
theorem n_cmp (C : CxOk g T p cf W c X) (o : Cp) {a b : Expr} {Ma Mb : Rho → Hh → R IV} {pos} (hs : noSet b = true) (ha : PE X a (rdE p W Ma)) (hb : PE X b (rdE p W Mb)) :
    PE X (.Compare a [cpX o] [b] pos) (rdE p W fun r h => (Ma r h).bd fun x h => (Mb r h).bd fun y h => Rk.cmp o x y h) :=
  n_op (a := a) (b := b) (fun r h => pe_cmpR h ha hb (noSet_ok hs _)) (cmp_ok C.K C.un o)
theorem n_neg {a : Expr} {Ma : Rho → Hh → R IV} {pos} (ha : PE X a (rdE p W Ma)) : PE X (.UnaryOp .USub a pos) (rdE p W fun r h => (Ma r h).bd fun x h => match x with
    | .int i => .ok (.int (Int.neg i)) h
    | _ => .fail) := by
  refine PE.wk (pe_un un_neg ha) fun σ H Q q => ?_
  obtain ⟨m, r, h, s, t, o⟩ := q
  refine ⟨m, r, h, s, t, o.bd.mono fun V1 H1 z => ?_⟩
  obtain ⟨m1, h1, v1, e1, rh1, rv1, ok1⟩ := z
  cases rv1 <;> first | (cases ok1; done) | skip
  exact ⟨_, rfl, Ok.int rh1 ok1⟩
end
end
end Rk
namespace Rk
noncomputable section
open PySem PySem.Spec PyProof.Rows L2
section
variable {g : Gd} {T : Tab} {p : Pd} {cf : Nat → List IV → Hh → R IV} {W : Wx} {c : Cc} {X : Cx}
theorem tru_ok {K : Pd} {m : Mp} {h : Hh} {H : Hp} {v : IV} {V : L2.V} {b : Bool} (rh : RH K m h H) (rv : RV K m H v V) (e : tru h v = some b) : TruV K V H b := by
  cases rv with
  | non =>
    cases e
    rfl
  | bl c =>
    cases e
    rfl
  | int i =>
    simp only [tru] at e
    rw [ieq_eq] at e
    by_cases z : i = 0
    · rw [decide_eq_true z] at e
      cases e
      show false = (i != 0)
      rw [z]
      rfl
    · rw [decide_eq_false z] at e
      cases e
      show true = (i != 0)
      symm
      rw [bne_iff_ne]
      exact z
  | str x =>
    simp only [tru] at e
    cases l : Nat.ble x.length 1000 with
    | false =>
      rw [l] at e
      cases e
    | true =>
      rw [l] at e
      have lx : x.length ≤ 1000 := by rwa [Nat.ble_eq] at l
      refine ⟨Nat.le_trans lx (by decide), ?_⟩
      cases z : Nat.beq x.length 0 with
      | true =>
        rw [z] at e
        cases e
        rw [Nat.eq_of_beq_eq_true z]
        rfl
      | false =>
        rw [z] at e
        cases e
        symm
        rw [bne_iff_ne]
        intro q
        have q1 : x.length = 0 := by omega
        rw [q1] at z
        cases z
  | tup s r =>
    rename_i xs a vs
    right
    left
    refine ⟨vs, s, ?_⟩
    cases r with
    | nil =>
      cases e
      rfl
    | cons _ _ =>
      cases e
      rfl
  | rng _ => cases e
  | exn => cases e
  | rol _ _ => cases e
  | fn _ => cases e
  | ref em =>
    rename_i n a
    simp only [tru] at e
    cases q : h.get n with
    | none =>
      rw [q] at e
      cases e
    | some o =>
      rw [q] at e
      cases o with
      | dict d =>
        obtain ⟨t, lk, kvs⟩ := d
        cases t with
        | true => cases e
        | false =>
          cases lk with
          | true => cases e
          | false =>
            obtain ⟨r, h1, h2⟩ := rh.dct em q rfl
            right
            right
            refine ⟨r, h1, ?_⟩
            cases h2 with
            | nil =>
              cases e
              rfl
            | cons _ _ _ =>
              cases e
              rfl
      | inst _ _ => cases e
      | lst xs =>
        obtain ⟨vs, hv, r⟩ := rh.lst em q
        left
        refine ⟨vs, SqL.of hv, ?_⟩
        have l := r.length
        rw [revR_len] at l
        cases xs with
        | nil =>
          cases e
          cases vs with
          | nil => rfl
          | cons _ _ => cases l
        | cons _ _ =>
          cases e
          cases vs with
          | nil => cases l
          | cons _ _ => rfl
def truR (x : IV) (h : Hh) : R Bool := match tru h x with
  | some b => .ok b h
  | none => .fail
abbrev bdT (M : Rho → Hh → R IV) : Rho → Hh → R Bool := fun r h => (M r h).bd truR
theorem truR_ok {m : Mp} {h : Hh} {H : Hp} {E : XK} {x : IV} {Q : Bool → Hp → Prop} (o : Ok (rEq Bool) p m H E (truR x h) Q) : ∃ b, tru h x = some b ∧ Ok (rEq Bool) p m H E (.ok b h) Q := by
  unfold truR at o
  cases e : tru h x with
  | none =>
    rw [e] at o
    cases o
  | some b =>
    rw [e] at o
    exact ⟨b, rfl, o⟩
theorem Ok.at {b : Bool} {m : Mp} {h : Hh} {H : Hp} {E : XK} {Q : Bool → Hp → Prop} (rh : RH p m h H) (o : Ok (rEq Bool) p m H E (.ok b h) Q) : Q b H := o m H b Xt.refl rh rfl
theorem Ok.outB {b : Bool} {m : Mp} {h : Hh} {H : Hp} {E : XK} {Q : Bool → Hp → Prop} (q : ∀ m' H', Xt m H m' H' → RH p m' h H' → Q b H') : Ok (rEq Bool) p m H E (.ok b h) Q := by
  intro m' H' c x r e
  cases e
  exact q m' H' x r
theorem cmp_bl {o : Cp} {x y v : IV} {h h' : Hh} (e : Rk.cmp o x y h = .ok v h') : ∃ k, v = .bl k := by
  have ob : ∀ q : Option Bool, obl q h = .ok v h' → ∃ k, v = .bl k := fun q e => by
    cases q with
    | none => cases e
    | some b =>
      cases e
      exact ⟨b, rfl⟩
  cases o with
  | eq => exact ob _ e
  | ne => exact ob _ e
  | inn => exact ob _ e
  | nin => exact ob _ e
  | is =>
    cases y <;> first | (cases e; done) | skip
    · cases x <;> first | (cases e; done) | (cases e; exact ⟨_, rfl⟩)
    · rename_i d
      cases x <;> first | (cases e; done) | skip
      rename_i c
      cases c <;> cases d <;> cases e <;> exact ⟨_, rfl⟩
  | isnt =>
    cases y <;> first | (cases e; done) | skip
    · cases x <;> first | (cases e; done) | (cases e; exact ⟨_, rfl⟩)
    · rename_i d
      cases x <;> first | (cases e; done) | skip
      rename_i c
      cases c <;> cases d <;> cases e <;> exact ⟨_, rfl⟩
  | lt => cases x <;> first | (cases e; done) | (cases y <;> first | (cases e; done) | (cases e; exact ⟨_, rfl⟩))
  | le => cases x <;> first | (cases e; done) | (cases y <;> first | (cases e; done) | (cases e; exact ⟨_, rfl⟩))
  | gt => cases x <;> first | (cases e; done) | (cases y <;> first | (cases e; done) | (cases e; exact ⟨_, rfl⟩))
  | ge => cases x <;> first | (cases e; done) | (cases y <;> first | (cases e; done) | (cases e; exact ⟨_, rfl⟩))
def plainT : Expr → Bool
  | .UnaryOp .Not _ _ => false
  | .BoolOp .. => false
  | .IfExp .. => false
  | .Compare .. => false
  | _ => true
theorem plainT_ok {e : Expr} (h : plainT e = true) {env : Env} (whole : Sem Value) : isTrue e env whole = (do let v ← whole; standAt e.pos; holding [v] (truthy v)) := by
  cases e with
  | UnaryOp op x ps => cases op <;> first | rfl | cases h
  | BoolOp => cases h
  | IfExp => cases h
  | Compare => cases h
  | _ => rfl
theorem t_plain (C : CxOk g T p cf W c X) {e : Expr} {M : Rho → Hh → R IV} (h : plainT e = true) (he : PE X e (rdE p W M)) : PT X e (rdT p W (bdT M)) := by
  refine PT.wk (pt_truth he (plainT_ok h)) fun σ H Q q => ?_
  obtain ⟨m, r, h, s, t, o⟩ := q
  refine ⟨m, r, h, s, t, o.bd.mono fun V1 H1 z => ?_⟩
  obtain ⟨m1, h1, v1, e1, rh1, rv1, ok1⟩ := z
  obtain ⟨b, e2, o2⟩ := truR_ok ok1
  exact ⟨b, by rw [C.K]; exact tru_ok rh1 rv1 e2, Ok.at rh1 o2⟩
theorem t_cmp (C : CxOk g T p cf W c X) (o : Cp) {a b : Expr} {Ma Mb : Rho → Hh → R IV} {pos} (hs : noSet b = true) (ha : PE X a (rdE p W Ma)) (hb : PE X b (rdE p W Mb)) :
    PT X (.Compare a [cpX o] [b] pos) (rdT p W (bdT fun r h => (Ma r h).bd fun x h => (Mb r h).bd fun y h => Rk.cmp o x y h)) := by
  refine PT.wk (pt_cmpR (cmp_ok C.K C.un o) ha hb (noSet_ok hs _)) fun σ H Q q => ?_
  obtain ⟨m, r, h, s, t, ok⟩ := q
  refine ⟨m, r, h, s, t, ?_⟩
  have ok' : Ok (rEq Bool) p m H (fun c d H => W c d σ H) ((Ma r h).bd fun x h => (Mb r h).bd fun y h => (Rk.cmp o x y h).bd truR) Q := by
    have z : ((Ma r h).bd fun x h => (Mb r h).bd fun y h => Rk.cmp o x y h).bd truR = ((Ma r h).bd fun x h => (Mb r h).bd fun y h => (Rk.cmp o x y h).bd truR) := by
      cases Ma r h with
      | ok x h =>
        show ((Mb r h).bd fun y h => Rk.cmp o x y h).bd truR = (Mb r h).bd fun y h => (Rk.cmp o x y h).bd truR
        cases Mb r h <;> rfl
      | exc _ _ => rfl
      | fail => rfl
    rw [← z]
    exact ok
  refine ok'.bd.mono fun V1 H1 z => ?_
  obtain ⟨m1, h1, v1, e1, rh1, rv1, ok1⟩ := z
  refine ⟨m1, r, h1, s.mono e1, rh1, ok1.bd.mono fun V2 H2 z => ?_⟩
  obtain ⟨m2, h2, v2, e2, rh2, rv2, ok2⟩ := z
  refine ⟨m2, h2, v1, v2, fun c d H => W c d σ H, rh2, rv1.mono e2, rv2, ?_⟩
  cases e : Rk.cmp o v1 v2 h2 with
  | fail =>
    rw [e] at ok2
    exact ok2
  | exc x h3 =>
    rw [e] at ok2
    exact ok2
  | ok v3 h3 =>
    rw [e] at ok2
    obtain ⟨k, rfl⟩ := cmp_bl e
    intro m3 H3 b x rh rv
    cases rv
    exact ⟨k, rfl, Ok.at rh (Ok.ext ok2 x)⟩
theorem bd_bd {α β γ : Type} (r : R α) (k : α → Hh → R β) (l : β → Hh → R γ) : (r.bd k).bd l = r.bd fun a h => (k a h).bd l := by cases r <;> rfl
theorem t_not {a : Expr} {Ma : Rho → Hh → R IV} {pos} (ha : PT X a (rdT p W (bdT Ma))) : PT X (.UnaryOp .Not a pos) (rdT p W (bdT fun r h => (Ma r h).bd fun x h => obl (onot (tru h x)) h)) := by
  refine PT.wk (pt_not ha) fun σ H Q q => ?_
  obtain ⟨m, r, h, s, t, o⟩ := q
  refine ⟨m, r, h, s, t, ?_⟩
  dsimp only [bdT] at o ⊢
  rw [bd_bd] at o
  cases e : Ma r h with
  | fail =>
    rw [e] at o
    exact o
  | exc x h3 =>
    rw [e] at o
    exact o
  | ok v h1 =>
    rw [e] at o
    have o1 : Ok (rEq Bool) p m H (fun c d H => W c d σ H) ((obl (onot (tru h1 v)) h1).bd truR) Q := o
    show Ok (rEq Bool) p m H _ (truR v h1) _
    unfold truR
    cases q : tru h1 v with
    | none =>
      rw [q] at o1
      exact o1
    | some b =>
      rw [q] at o1
      cases b <;> exact Ok.outB fun m' H' x rh => Ok.at rh (Ok.ext o1 x)
theorem n_not (C : CxOk g T p cf W c X) {a : Expr} {Ma : Rho → Hh → R IV} {pos} (ha : PE X a (rdE p W Ma)) : PE X (.UnaryOp .Not a pos) (rdE p W fun r h => (Ma r h).bd fun x h => obl (onot (tru h x)) h) := by
  refine PE.wk (pe_notT ha) fun σ H Q q => ?_
  obtain ⟨m, r, h, s, t, o⟩ := q
  refine ⟨m, r, h, s, t, o.bd.mono fun V1 H1 z => ?_⟩
  obtain ⟨m1, h1, v1, e1, rh1, rv1, ok1⟩ := z
  obtain ⟨b, e2, q2⟩ := obl_ok rh1 ok1
  refine ⟨!b, by rw [C.K]; exact tru_ok rh1 rv1 (onot_ok e2), by rw [Bool.not_not]; exact q2⟩
def andK (Mb : Rho → Hh → R IV) (r : Rho) (x : IV) (h : Hh) : R IV := match tru h x with
  | some true => Mb r h
  | some false => .ok x h
  | none => .fail
def orK (Mb : Rho → Hh → R IV) (r : Rho) (x : IV) (h : Hh) : R IV := match tru h x with
  | some true => .ok x h
  | some false => Mb r h
  | none => .fail
def iteK (Ma Mb : Rho → Hh → R IV) (r : Rho) (x : IV) (h : Hh) : R IV := match tru h x with
  | some true => Ma r h
  | some false => Mb r h
  | none => .fail
theorem n_and (C : CxOk g T p cf W c X) {a b : Expr} {rest : List Expr} {Ma Mb : Rho → Hh → R IV} {pos} (ha : PE X a (rdE p W Ma)) (hb : PE X (.BoolOp .And (b :: rest) pos) (rdE p W Mb)) :
    PE X (.BoolOp .And (a :: b :: rest) pos) (rdE p W fun r h => (Ma r h).bd (andK Mb r)) := by
  refine PE.wk (pe_andT ha hb) fun σ H Q q => ?_
  obtain ⟨m, r, h, s, t, o⟩ := q
  refine ⟨m, r, h, s, t, o.bd.mono fun V1 H1 z => ?_⟩
  obtain ⟨m1, h1, v1, e1, rh1, rv1, ok1⟩ := z
  unfold andK at ok1
  cases e : tru h1 v1 with
  | none =>
    rw [e] at ok1
    cases ok1
  | some k =>
    rw [e] at ok1
    refine ⟨k, by rw [C.K]; exact tru_ok rh1 rv1 e, ?_⟩
    cases k with
    | true => exact ⟨m1, r, h1, s.mono e1, rh1, ok1⟩
    | false => exact ok1 m1 H1 V1 Xt.refl rh1 rv1
theorem n_or (C : CxOk g T p cf W c X) {a b : Expr} {rest : List Expr} {Ma Mb : Rho → Hh → R IV} {pos} (ha : PE X a (rdE p W Ma)) (hb : PE X (.BoolOp .Or (b :: rest) pos) (rdE p W Mb)) :
    PE X (.BoolOp .Or (a :: b :: rest) pos) (rdE p W fun r h => (Ma r h).bd (orK Mb r)) := by
  refine PE.wk (pe_orT ha hb) fun σ H Q q => ?_
  obtain ⟨m, r, h, s, t, o⟩ := q
  refine ⟨m, r, h, s, t, o.bd.mono fun V1 H1 z => ?_⟩
  obtain ⟨m1, h1, v1, e1, rh1, rv1, ok1⟩ := z
  unfold orK at ok1
  cases e : tru h1 v1 with
  | none =>
    rw [e] at ok1
    cases ok1
  | some k =>
    rw [e] at ok1
    refine ⟨k, by rw [C.K]; exact tru_ok rh1 rv1 e, ?_⟩
    cases k with
    | true => exact ok1 m1 H1 V1 Xt.refl rh1 rv1
    | false => exact ⟨m1, r, h1, s.mono e1, rh1, ok1⟩
theorem n_one {op : BoolOp} {a : Expr} {Ma : Rho → Hh → R IV} {pos} (ha : PE X a (rdE p W Ma)) : PE X (.BoolOp op [a] pos) (rdE p W Ma) := pe_one ha
theorem w_one {op : BoolOp} {a : Expr} {t : TT} {pos} (ha : PT X a t) : PW X (.BoolOp op [a] pos) t := by
  cases op
  · exact pw_and1 ha
  · exact pw_or1 ha
theorem w_and {a b : Expr} {rest : List Expr} {Ma Mb : Rho → Hh → R IV} {pos} (ha : PT X a (rdT p W (bdT Ma))) (hb : PW X (.BoolOp .And (b :: rest) pos) (rdT p W (bdT Mb))) :
    PW X (.BoolOp .And (a :: b :: rest) pos) (rdT p W (bdT fun r h => (Ma r h).bd (andK Mb r))) := by
  have z := pw_and ha hb
  refine ⟨fun wh pn s sg H Q I q => z.run wh pn s sg H Q I ?_⟩
  obtain ⟨m, r, h, s, t, o⟩ := q
  refine ⟨m, r, h, s, t, ?_⟩
  dsimp only [bdT] at o ⊢
  rw [bd_bd] at o
  cases e : Ma r h with
  | fail =>
    rw [e] at o
    exact o
  | exc x h3 =>
    rw [e] at o
    exact o
  | ok v h1 =>
    rw [e] at o
    have o1 : Ok (rEq Bool) p m H (fun c d H => W c d sg H) ((andK Mb r v h1).bd truR) Q := o
    show Ok (rEq Bool) p m H _ (truR v h1) _
    unfold truR
    unfold andK at o1
    cases q : tru h1 v with
    | none =>
      rw [q] at o1
      exact o1
    | some k =>
      rw [q] at o1
      cases k with
      | true => exact Ok.outB fun m' H' x rh => ⟨m', r, h1, s.mono x, rh, Ok.ext o1 x⟩
      | false =>
        have o2 : Ok (rEq Bool) p m H (fun c d H => W c d sg H) (truR v h1) Q := o1
        unfold truR at o2
        rw [q] at o2
        exact Ok.outB fun m' H' x rh => Ok.at rh (Ok.ext o2 x)
theorem w_or {a b : Expr} {rest : List Expr} {Ma Mb : Rho → Hh → R IV} {pos} (ha : PT X a (rdT p W (bdT Ma))) (hb : PW X (.BoolOp .Or (b :: rest) pos) (rdT p W (bdT Mb))) :
    PW X (.BoolOp .Or (a :: b :: rest) pos) (rdT p W (bdT fun r h => (Ma r h).bd (orK Mb r))) := by
  have z := pw_or ha hb
  refine ⟨fun wh pn s sg H Q I q => z.run wh pn s sg H Q I ?_⟩
  obtain ⟨m, r, h, s, t, o⟩ := q
  refine ⟨m, r, h, s, t, ?_⟩
  dsimp only [bdT] at o ⊢
  rw [bd_bd] at o
  cases e : Ma r h with
  | fail =>
    rw [e] at o
    exact o
  | exc x h3 =>
    rw [e] at o
    exact o
  | ok v h1 =>
    rw [e] at o
    have o1 : Ok (rEq Bool) p m H (fun c d H => W c d sg H) ((orK Mb r v h1).bd truR) Q := o
    show Ok (rEq Bool) p m H _ (truR v h1) _
    unfold truR
    unfold orK at o1
    cases q : tru h1 v with
    | none =>
      rw [q] at o1
      exact o1
    | some k =>
      rw [q] at o1
      cases k with
      | false => exact Ok.outB fun m' H' x rh => ⟨m', r, h1, s.mono x, rh, Ok.ext o1 x⟩
      | true =>
        have o2 : Ok (rEq Bool) p m H (fun c d H => W c d sg H) (truR v h1) Q := o1
        unfold truR at o2
        rw [q] at o2
        exact Ok.outB fun m' H' x rh => Ok.at rh (Ok.ext o2 x)
theorem n_ite (C : CxOk g T p cf W c X) {t a b : Expr} {Mt Ma Mb : Rho → Hh → R IV} {pos} (ht : PT X t (rdT p W (bdT Mt))) (ha : PE X a (rdE p W Ma)) (hb : PE X b (rdE p W Mb)) :
    PE X (.IfExp t a b pos) (rdE p W fun r h => (Mt r h).bd (iteK Ma Mb r)) := by
  refine PE.wk (pe_ifExp ht ha hb) fun σ H Q q => ?_
  obtain ⟨m, r, h, s, t, o⟩ := q
  refine ⟨m, r, h, s, t, ?_⟩
  dsimp only [bdT] at o ⊢
  cases e : Mt r h with
  | fail =>
    rw [e] at o
    exact o
  | exc x h3 =>
    rw [e] at o
    exact o
  | ok v h1 =>
    rw [e] at o
    have o1 : Ok (RV p) p m H (fun c d H => W c d σ H) (iteK Ma Mb r v h1) Q := o
    show Ok (rEq Bool) p m H _ (truR v h1) _
    unfold truR
    unfold iteK at o1
    cases q : tru h1 v with
    | none =>
      rw [q] at o1
      exact o1
    | some k =>
      rw [q] at o1
      cases k <;> exact Ok.outB fun m' H' x rh => ⟨m', r, h1, s.mono x, rh, Ok.ext o1 x⟩
theorem t_ite {t a b : Expr} {Mt Ma Mb : Rho → Hh → R IV} {pos} (ht : PT X t (rdT p W (bdT Mt))) (ha : PT X a (rdT p W (bdT Ma))) (hb : PT X b (rdT p W (bdT Mb))) :
    PT X (.IfExp t a b pos) (rdT p W (bdT fun r h => (Mt r h).bd (iteK Ma Mb r))) := by
  refine ⟨fun pn s sg H Q I q => ?_⟩
  have e : isTrue (.IfExp t a b pos) X.env (eval (.IfExp t a b pos) X.env) = (do if ← isTrue t X.env (eval t X.env) then isTrue a X.env (eval a X.env) else isTrue b X.env (eval b X.env)) := rfl
  rw [e]
  obtain ⟨m, r, h, s1, t1, o⟩ := q
  dsimp only [bdT] at o
  rw [bd_bd] at o
  refine wpAny_bind (thn (ht.run pn s sg H (fun k H1 => (if k = true then rdT p W (bdT Ma) else rdT p W (bdT Mb)) sg H1 Q) I ⟨m, r, h, s1, t1, ?_⟩) fun k s2 z => ?_)
  · dsimp only [bdT]
    cases e : Mt r h with
    | fail =>
      rw [e] at o
      exact o
    | exc x h3 =>
      rw [e] at o
      exact o
    | ok v h1 =>
      rw [e] at o
      have o1 : Ok (rEq Bool) p m H (fun c d H => W c d sg H) ((iteK Ma Mb r v h1).bd truR) Q := o
      show Ok (rEq Bool) p m H _ (truR v h1) _
      unfold truR
      unfold iteK at o1
      cases q : tru h1 v with
      | none =>
        rw [q] at o1
        exact o1
      | some k =>
        rw [q] at o1
        cases k with
        | true =>
          refine Ok.outB fun m' H' x rh => ?_
          rw [if_pos rfl]
          exact ⟨m', r, h1, s1.mono x, rh, Ok.ext o1 x⟩
        | false =>
          refine Ok.outB fun m' H' x rh => ?_
          rw [if_neg (by decide)]
          exact ⟨m', r, h1, s1.mono x, rh, Ok.ext o1 x⟩
  · obtain ⟨H1, I1, q1⟩ := z
    cases k with
    | true =>
      rw [if_pos rfl] at q1 ⊢
      exact ha.run pn s2 sg H1 Q I1 q1
    | false =>
      rw [if_neg (by decide)] at q1 ⊢
      exact hb.run pn s2 sg H1 Q I1 q1
def chK (o' : Cp) (Mc : Rho → Hh → R IV) (r : Rho) (y z : IV) (h : Hh) : R IV := match z with
  | .bl true => (Mc r h).bd fun w h => Rk.cmp o' y w h
  | .bl false => .ok z h
  | _ => .fail
theorem n_chain (C : CxOk g T p cf W c X) (o o' : Cp) {a b d : Expr} {Ma Mb Mc : Rho → Hh → R IV} {pos} (hm : lastMarks [cpX o, cpX o'] [b, d] = false) (ha : PE X a (rdE p W Ma)) (hb : PE X b (rdE p W Mb)) (hc : PE X d (rdE p W Mc)) :
    PE X (.Compare a [cpX o, cpX o'] [b, d] pos) (rdE p W fun r h => (Ma r h).bd fun x h => (Mb r h).bd fun y h => (Rk.cmp o x y h).bd (chK o' Mc r y)) := by
  refine PE.wk (pe_chain (cmp_ok C.K C.un o) (cmp_ok C.K C.un o') ha hb hc hm) fun σ H Q q => ?_
  obtain ⟨m, r, h, s, t, ok⟩ := q
  refine ⟨m, r, h, s, t, ok.bd.mono fun V1 H1 z => ?_⟩
  obtain ⟨m1, h1, v1, e1, rh1, rv1, ok1⟩ := z
  refine ⟨m1, r, h1, s.mono e1, rh1, ok1.bd.mono fun V2 H2 z => ?_⟩
  obtain ⟨m2, h2, v2, e2, rh2, rv2, ok2⟩ := z
  refine ⟨m2, h2, v1, v2, fun c d H => W c d σ H, rh2, rv1.mono e2, rv2, ?_⟩
  cases e : Rk.cmp o v1 v2 h2 with
  | fail =>
    rw [e] at ok2
    exact ok2
  | exc x h3 =>
    rw [e] at ok2
    exact ok2
  | ok v3 h3 =>
    rw [e] at ok2
    obtain ⟨k, rfl⟩ := cmp_bl e
    intro m3 H3 b3 x rh rv
    cases rv
    refine ⟨k, rfl, ?_⟩
    cases k with
    | false =>
      rw [if_neg (by decide)]
      exact (Ok.ext ok2 x) m3 H3 _ Xt.refl rh (.bl false)
    | true =>
      rw [if_pos rfl]
      have ok3 : Ok (RV p) p m3 H3 (fun c d H => W c d σ H) ((Mc r h3).bd fun w h => Rk.cmp o' v2 w h) Q := Ok.ext ok2 x
      refine ⟨m3, r, h3, (s.mono e1).mono (e2.trans x), rh, ok3.bd.mono fun V4 H4 z => ?_⟩
      obtain ⟨m4, h4, v4, e4, rh4, rv4, ok4⟩ := z
      exact ⟨m4, h4, v2, v4, _, rh4, (rv2.mono x).mono e4, rv4, ok4⟩
theorem t_chain (C : CxOk g T p cf W c X) (o o' : Cp) {a b d : Expr} {Ma Mb Mc : Rho → Hh → R IV} {pos} (hm : lastMarks [cpX o, cpX o'] [b, d] = false) (ha : PE X a (rdE p W Ma)) (hb : PE X b (rdE p W Mb)) (hc : PE X d (rdE p W Mc)) :
    PT X (.Compare a [cpX o, cpX o'] [b, d] pos) (rdT p W (bdT fun r h => (Ma r h).bd fun x h => (Mb r h).bd fun y h => (Rk.cmp o x y h).bd (chK o' Mc r y))) := by
  refine PT.wk (pt_chain (cmp_ok C.K C.un o) (cmp_ok C.K C.un o') ha hb hc hm) fun σ H Q q => ?_
  obtain ⟨m, r, h, s, t, ok⟩ := q
  refine ⟨m, r, h, s, t, ?_⟩
  have ok' : Ok (rEq Bool) p m H (fun c d H => W c d σ H) ((Ma r h).bd fun x h => (Mb r h).bd fun y h => (Rk.cmp o x y h).bd fun z h => (chK o' Mc r y z h).bd truR) Q := by
    dsimp only [bdT] at ok
    simp only [bd_bd] at ok
    exact ok
  refine ok'.bd.mono fun V1 H1 z => ?_
  obtain ⟨m1, h1, v1, e1, rh1, rv1, ok1⟩ := z
  refine ⟨m1, r, h1, s.mono e1, rh1, ok1.bd.mono fun V2 H2 z => ?_⟩
  obtain ⟨m2, h2, v2, e2, rh2, rv2, ok2⟩ := z
  refine ⟨m2, h2, v1, v2, fun c d H => W c d σ H, rh2, rv1.mono e2, rv2, ?_⟩
  cases e : Rk.cmp o v1 v2 h2 with
  | fail =>
    rw [e] at ok2
    exact ok2
  | exc x h3 =>
    rw [e] at ok2
    exact ok2
  | ok v3 h3 =>
    rw [e] at ok2
    obtain ⟨k, rfl⟩ := cmp_bl e
    intro m3 H3 b3 x rh rv
    cases rv
    refine ⟨k, rfl, ?_⟩
    cases k with
    | false =>
      rw [if_neg (by decide)]
      exact ⟨false, rfl, Ok.at rh (Ok.ext ok2 x)⟩
    | true =>
      rw [if_pos rfl]
      have ok3 : Ok (rEq Bool) p m3 H3 (fun c d H => W c d σ H) (((Mc r h3).bd fun w h => Rk.cmp o' v2 w h).bd truR) Q := Ok.ext ok2 x
      rw [bd_bd] at ok3
      refine ⟨m3, r, h3, (s.mono e1).mono (e2.trans x), rh, ok3.bd.mono fun V4 H4 z => ?_⟩
      obtain ⟨m4, h4, v4, e4, rh4, rv4, ok4⟩ := z
      refine ⟨m4, h4, v2, v4, fun c d H => W c d σ H, rh4, (rv2.mono x).mono e4, rv4, ?_⟩
      cases e5 : Rk.cmp o' v2 v4 h4 with
      | fail =>
        rw [e5] at ok4
        exact ok4
      | exc _ _ =>
        rw [e5] at ok4
        exact ok4
      | ok v5 h5 =>
        rw [e5] at ok4
        obtain ⟨k5, rfl⟩ := cmp_bl e5
        intro m5 H5 b5 x5 rh5 rv5
        cases rv5
        exact ⟨k5, rfl, Ok.at rh5 (Ok.ext ok4 x5)⟩
def chK2 (o' o2 : Cp) (Mc Md : Rho → Hh → R IV) (r : Rho) (y z : IV) (h : Hh) : R IV := match z with
  | .bl true => (Mc r h).bd fun w h => (Rk.cmp o' y w h).bd (chK o2 Md r w)
  | .bl false => .ok z h
  | _ => .fail
def tCh3 (r r' r2 : R2) (ta tb tc td : TE) : TE := fun σ H Q => ta σ H fun x H1 => tb σ H1 fun y H2 => r x y H2 fun z H3 => ∃ k, z = .bl k ∧
  (if k = true then tc σ H3 fun w H4 => r' y w H4 fun z' H5 => ∃ k', z' = .bl k' ∧ (if k' = true then td σ H5 fun u H6 => r2 w u H6 Q else Q (.bl false) H5) else Q (.bl false) H3)
theorem pe_ch3 {a b c d : Expr} {ta tb tc td : TE} {pos : Pos} {op op' op2 : CmpOp} {r r' r2 : R2} (ho : OpR X (compareOp op) r) (ho' : OpR X (compareOp op') r') (ho2 : OpR X (compareOp op2) r2) (ha : PE X a ta) (hb : PE X b tb) (hc : PE X c tc) (hd : PE X d td)
    (hm : lastMarks [op, op', op2] [b, c, d] = false) : PE X (.Compare a [op, op', op2] [b, c, d] pos) (tCh3 r r' r2 ta tb tc td) := by
  refine ⟨fun pins s σ H Q I h => ?_⟩
  refine PyProof.Rows.Compare_chain (thn (ha.run pins s σ H _ I h) fun v s1 ⟨x, H1, I1, r1, q1⟩ => PyProof.Rows.chain_link (thn (hb.run pins s1 σ H1 _ I1 q1) fun u s2 ⟨y, H2, I2, r2, q2⟩ =>
    thn (ho pins s2 σ H2 x y v u _ I2 r1 r2 q2) fun d s3 ⟨z, H3, I3, r3, k, e, q3⟩ => ?_)) hm
  subst e
  cases r3
  refine wpAny_truthy_bool ?_
  cases k with
  | false => exact ite_ff ⟨.bl false, H3, I3, rfl, q3⟩
  | true =>
    refine ite_tt (PyProof.Rows.chain_link (thn (hc.run pins s3 σ H3 _ I3 q3) fun w' s4 ⟨z', H4, I4, r4, q4⟩ => thn (ho' pins s4 σ H4 y z' u w' _ I4 r2 r4 q4) fun d' s5 ⟨z2, H5, I5, r5, k2, e2, q5⟩ => ?_))
    subst e2
    cases r5
    refine wpAny_truthy_bool ?_
    cases k2 with
    | false => exact ite_ff ⟨.bl false, H5, I5, rfl, q5⟩
    | true => exact ite_tt (PyProof.Rows.chain_last (thn (hd.run pins s5 σ H5 _ I5 q5) fun w6 s6 ⟨z6, H6, I6, r6, q6⟩ => ho2 pins s6 σ H6 z' z6 w' w6 Q I6 r4 r6 q6))
theorem pt_ch3 {a b c d : Expr} {ta tb tc td : TE} {pos : Pos} {op op' op2 : CmpOp} {r r' r2 : R2} (ho : OpR X (compareOp op) r) (ho' : OpR X (compareOp op') r') (ho2 : OpR X (compareOp op2) r2) (ha : PE X a ta) (hb : PE X b tb) (hc : PE X c tc) (hd : PE X d td)
    (hm : lastMarks [op, op', op2] [b, c, d] = false) : PT X (.Compare a [op, op', op2] [b, c, d] pos) (tTest (tCh3 r r' r2 ta tb tc td)) := by
  refine ⟨fun pins s σ H Q I h => ?_⟩
  refine PyProof.Rows.isTrue_chain (thn (ha.run pins s σ H _ I h) fun v s1 ⟨x, H1, I1, r1, q1⟩ => PyProof.Rows.test_link (thn (hb.run pins s1 σ H1 _ I1 q1) fun u s2 ⟨y, H2, I2, r2, q2⟩ =>
    thn (ho pins s2 σ H2 x y v u _ I2 r1 r2 q2) fun d s3 ⟨z, H3, I3, r3, k, e, q3⟩ => ?_)) hm
  subst e
  cases r3
  refine wpAny_truthy_bool ?_
  cases k with
  | false =>
    obtain ⟨k', e', q'⟩ := q3
    cases e'
    exact ite_ff ⟨H3, I3, q'⟩
  | true =>
    refine ite_tt (PyProof.Rows.test_link (thn (hc.run pins s3 σ H3 _ I3 q3) fun w' s4 ⟨z', H4, I4, r4, q4⟩ => thn (ho' pins s4 σ H4 y z' u w' _ I4 r2 r4 q4) fun d' s5 ⟨z2, H5, I5, r5, k2, e2, q5⟩ => ?_))
    subst e2
    cases r5
    refine wpAny_truthy_bool ?_
    cases k2 with
    | false =>
      obtain ⟨k', e', q'⟩ := q5
      cases e'
      exact ite_ff ⟨H5, I5, q'⟩
    | true =>
      refine ite_tt (PyProof.Rows.test_last (thn (hd.run pins s5 σ H5 _ I5 q5) fun w6 s6 ⟨z6, H6, I6, r6, q6⟩ => thn (ho2 pins s6 σ H6 z' z6 w' w6 _ I6 r4 r6 q6) fun d7 s7 ⟨z7, H7, I7, r7, k7, e7, q7⟩ => ?_))
      subst e7
      cases r7
      exact wpAny_truthy_bool ⟨H7, I7, q7⟩
theorem n_chain3 (C : CxOk g T p cf W c X) (o o' o2 : Cp) {a b d f : Expr} {Ma Mb Mc Md : Rho → Hh → R IV} {pos} (hm : lastMarks [cpX o, cpX o', cpX o2] [b, d, f] = false) (ha : PE X a (rdE p W Ma)) (hb : PE X b (rdE p W Mb)) (hc : PE X d (rdE p W Mc)) (hd : PE X f (rdE p W Md)) :
    PE X (.Compare a [cpX o, cpX o', cpX o2] [b, d, f] pos) (rdE p W fun r h => (Ma r h).bd fun x h => (Mb r h).bd fun y h => (Rk.cmp o x y h).bd (chK2 o' o2 Mc Md r y)) := by
  refine PE.wk (pe_ch3 (cmp_ok C.K C.un o) (cmp_ok C.K C.un o') (cmp_ok C.K C.un o2) ha hb hc hd hm) fun σ H Q q => ?_
  obtain ⟨m, r, h, s, t, ok⟩ := q
  refine ⟨m, r, h, s, t, ok.bd.mono fun V1 H1 z => ?_⟩
  obtain ⟨m1, h1, v1, e1, rh1, rv1, ok1⟩ := z
  refine ⟨m1, r, h1, s.mono e1, rh1, ok1.bd.mono fun V2 H2 z => ?_⟩
  obtain ⟨m2, h2, v2, e2, rh2, rv2, ok2⟩ := z
  refine ⟨m2, h2, v1, v2, fun c d H => W c d σ H, rh2, rv1.mono e2, rv2, ?_⟩
  cases e : Rk.cmp o v1 v2 h2 with
  | fail =>
    rw [e] at ok2
    exact ok2
  | exc x h3 =>
    rw [e] at ok2
    exact ok2
  | ok v3 h3 =>
    rw [e] at ok2
    obtain ⟨k, rfl⟩ := cmp_bl e
    intro m3 H3 b3 x rh rv
    cases rv
    refine ⟨k, rfl, ?_⟩
    cases k with
    | false =>
      rw [if_neg (by decide)]
      exact (Ok.ext ok2 x) m3 H3 _ Xt.refl rh (.bl false)
    | true =>
      rw [if_pos rfl]
      have ok3 : Ok (RV p) p m3 H3 (fun c d H => W c d σ H) ((Mc r h3).bd fun w h => (Rk.cmp o' v2 w h).bd (chK o2 Md r w)) Q := Ok.ext ok2 x
      have s3 := (s.mono e1).mono (e2.trans x)
      refine ⟨m3, r, h3, s3, rh, ok3.bd.mono fun V4 H4 z => ?_⟩
      obtain ⟨m4, h4, v4, e4, rh4, rv4, ok4⟩ := z
      refine ⟨m4, h4, v2, v4, fun c d H => W c d σ H, rh4, (rv2.mono x).mono e4, rv4, ?_⟩
      cases e5 : Rk.cmp o' v2 v4 h4 with
      | fail =>
        rw [e5] at ok4
        exact ok4
      | exc _ _ =>
        rw [e5] at ok4
        exact ok4
      | ok v5 h5 =>
        rw [e5] at ok4
        obtain ⟨k5, rfl⟩ := cmp_bl e5
        intro m5 H5 b5 x5 rh5 rv5
        cases rv5
        refine ⟨k5, rfl, ?_⟩
        cases k5 with
        | false =>
          rw [if_neg (by decide)]
          exact (Ok.ext ok4 x5) m5 H5 _ Xt.refl rh5 (.bl false)
        | true =>
          rw [if_pos rfl]
          have ok5 : Ok (RV p) p m5 H5 (fun c d H => W c d σ H) ((Md r h5).bd fun w h => Rk.cmp o2 v4 w h) Q := Ok.ext ok4 x5
          refine ⟨m5, r, h5, (s3.mono e4).mono x5, rh5, ok5.bd.mono fun V6 H6 z => ?_⟩
          obtain ⟨m6, h6, v6, e6, rh6, rv6, ok6⟩ := z
          exact ⟨m6, h6, v4, v6, _, rh6, (rv4.mono x5).mono e6, rv6, ok6⟩
theorem t_chain3 (C : CxOk g T p cf W c X) (o o' o2 : Cp) {a b d f : Expr} {Ma Mb Mc Md : Rho → Hh → R IV} {pos} (hm : lastMarks [cpX o, cpX o', cpX o2] [b, d, f] = false) (ha : PE X a (rdE p W Ma)) (hb : PE X b (rdE p W Mb)) (hc : PE X d (rdE p W Mc)) (hd : PE X f (rdE p W Md)) :
    PT X (.Compare a [cpX o, cpX o', cpX o2] [b, d, f] pos) (rdT p W (bdT fun r h => (Ma r h).bd fun x h => (Mb r h).bd fun y h => (Rk.cmp o x y h).bd (chK2 o' o2 Mc Md r y))) := by
  refine PT.wk (pt_ch3 (cmp_ok C.K C.un o) (cmp_ok C.K C.un o') (cmp_ok C.K C.un o2) ha hb hc hd hm) fun σ H Q q => ?_
  obtain ⟨m, r, h, s, t, ok⟩ := q
  refine ⟨m, r, h, s, t, ?_⟩
  have ok' : Ok (rEq Bool) p m H (fun c d H => W c d σ H) ((Ma r h).bd fun x h => (Mb r h).bd fun y h => (Rk.cmp o x y h).bd fun z h => (chK2 o' o2 Mc Md r y z h).bd truR) Q := by
    dsimp only [bdT] at ok
    simp only [bd_bd] at ok
    exact ok
  refine ok'.bd.mono fun V1 H1 z => ?_
  obtain ⟨m1, h1, v1, e1, rh1, rv1, ok1⟩ := z
  refine ⟨m1, r, h1, s.mono e1, rh1, ok1.bd.mono fun V2 H2 z => ?_⟩
  obtain ⟨m2, h2, v2, e2, rh2, rv2, ok2⟩ := z
  refine ⟨m2, h2, v1, v2, fun c d H => W c d σ H, rh2, rv1.mono e2, rv2, ?_⟩
  cases e : Rk.cmp o v1 v2 h2 with
  | fail =>
    rw [e] at ok2
    exact ok2
  | exc x h3 =>
    rw [e] at ok2
    exact ok2
  | ok v3 h3 =>
    rw [e] at ok2
    obtain ⟨k, rfl⟩ := cmp_bl e
    intro m3 H3 b3 x rh rv
    cases rv
    refine ⟨k, rfl, ?_⟩
    cases k with
    | false =>
      rw [if_neg (by decide)]
      exact ⟨false, rfl, Ok.at rh (Ok.ext ok2 x)⟩
    | true =>
      rw [if_pos rfl]
      have ok3 : Ok (rEq Bool) p m3 H3 (fun c d H => W c d σ H) (((Mc r h3).bd fun w h => (Rk.cmp o' v2 w h).bd (chK o2 Md r w)).bd truR) Q := Ok.ext ok2 x
      rw [bd_bd] at ok3
      have s3 := (s.mono e1).mono (e2.trans x)
      refine ⟨m3, r, h3, s3, rh, ok3.bd.mono fun V4 H4 z => ?_⟩
      obtain ⟨m4, h4, v4, e4, rh4, rv4, ok4⟩ := z
      refine ⟨m4, h4, v2, v4, fun c d H => W c d σ H, rh4, (rv2.mono x).mono e4, rv4, ?_⟩
      rw [bd_bd] at ok4
      cases e5 : Rk.cmp o' v2 v4 h4 with
      | fail =>
        rw [e5] at ok4
        exact ok4
      | exc _ _ =>
        rw [e5] at ok4
        exact ok4
      | ok v5 h5 =>
        rw [e5] at ok4
        obtain ⟨k5, rfl⟩ := cmp_bl e5
        intro m5 H5 b5 x5 rh5 rv5
        cases rv5
        refine ⟨k5, rfl, ?_⟩
        cases k5 with
        | false =>
          rw [if_neg (by decide)]
          exact ⟨false, rfl, Ok.at rh5 (Ok.ext ok4 x5)⟩
        | true =>
          rw [if_pos rfl]
          have ok5 : Ok (rEq Bool) p m5 H5 (fun c d H => W c d σ H) (((Md r h5).bd fun w h => Rk.cmp o2 v4 w h).bd truR) Q := Ok.ext ok4 x5
          rw [bd_bd] at ok5
          refine ⟨m5, r, h5, (s3.mono e4).mono x5, rh5, ok5.bd.mono fun V6 H6 z => ?_⟩
          obtain ⟨m6, h6, v6, e6, rh6, rv6, ok6⟩ := z
          refine ⟨m6, h6, v4, v6, fun c d H => W c d σ H, rh6, (rv4.mono x5).mono e6, rv6, ?_⟩
          cases e7 : Rk.cmp o2 v4 v6 h6 with
          | fail =>
            rw [e7] at ok6
            exact ok6
          | exc _ _ =>
            rw [e7] at ok6
            exact ok6
          | ok v7 h7 =>
            rw [e7] at ok6
            obtain ⟨k7, rfl⟩ := cmp_bl e7
            intro m7 H7 b7 x7 rh7 rv7
            cases rv7
            exact ⟨k7, rfl, Ok.at rh7 (Ok.ext ok6 x7)⟩
end
end
end Rk
namespace Rk
noncomputable section
open PySem PySem.Spec PyProof.Rows L2
def plainEs : List Expr → Bool
  | [] => true
  | e :: r => !star e && plainEs r
theorem star_cons {e : Expr} {es : List Expr} {env : Env} (h : star e = false) : starEach (e :: es) env = (false, eval e env) :: starEach es env := by
  cases e <;> first | rfl | cases h
theorem star_none {env : Env} {pos : Pos} : ∀ {es : List Expr}, plainEs es = true → (backTo pos (starEach es env)).any (·.1) = false
  | [], _ => rfl
  | e :: r, h => by
    unfold plainEs at h
    rw [Bool.and_eq_true, Bool.not_eq_true'] at h
    rw [star_cons h.1]
    show (false || (backTo pos (starEach r env)).any (·.1)) = false
    rw [star_none h.2]
    rfl
def Ln {α : Type} (Ms : Rho → Hh → R (List α)) (n : Nat) : Prop := ∀ r h vs h', Ms r h = .ok vs h' → vs.length = n
section
variable {g : Gd} {T : Tab} {p : Pd} {cf : Nat → List IV → Hh → R IV} {W : Wx} {c : Cc} {X : Cx}
theorem rdA_ln {Ms : Rho → Hh → R (List IV)} {n : Nat} (ln : Ln Ms n) {k : Rho → List IV → Hh → R IV} {σ : L2.St} {H : Hp} {Q : VK} (q : rdE p W (fun r h => (Ms r h).bd (k r)) σ H Q) :
    rdA p W Ms σ H fun vs H1 => vs.length = n ∧ ∃ m1 r h1 as, RSl p m1 H1 r σ ∧ RH p m1 h1 H1 ∧ RVs p m1 H1 as vs ∧ Ok (RV p) p m1 H1 (fun c d H => W c d σ H) (k r as h1) Q := by
  obtain ⟨m, r, h, s, t, o⟩ := q
  refine ⟨m, r, h, s, t, ?_⟩
  dsimp only at o
  cases e : Ms r h with
  | fail =>
    rw [e] at o
    exact o
  | exc x h' =>
    rw [e] at o
    exact o
  | ok vs h' =>
    rw [e] at o
    intro m1 H1 b x1 rh1 rv1
    exact ⟨by rw [← rv1.length]; exact ln r h vs h' e, m1, r, h', vs, s.mono x1, rh1, rv1, Ok.ext o x1⟩
theorem run_any {i : Nat} {ps : List Str} {fd : FuncData} {lv : Nat} (C : CxOk g T p cf W c X) (A : Fa g p cf X i ps fd lv) {pn : List (Addr × Obj)} {σ : L2.St} {H : Hp} {s : Shared} {Q : VK} {us zs : List Value} {kw : List (Str × Value)} {ys : List V}
    (I : Inv X pn σ H s) (b : BindsTo s fd ⟨us, kw⟩ (ps.zip zs)) (r : Vals ys zs) (q : spF p cf i ps.length ys H Q (fun c d H => W c d σ H)) : wpAny (model X.prog X.w) X.A (call (.ref (p.dA i)) us kw) (EP X pn σ Q) X.xe s := by
  refine wpAny_call (codeAny_mono (A.ok.run X.A X.stack s H ⟨us, kw⟩ zs ys Q _ A.room I.env0 b r q) fun o s' hq => ?_)
  cases o with
  | error e => exact passAt C.tk σ pn H s e s' I hq
  | ok fl =>
    cases fl with
    | ret u => exact I.after hq
    | next => exact False.elim hq
    | brk => exact False.elim hq
    | cont => exact False.elim hq
theorem n_call (C : CxOk g T p cf W c X) (hc : c.calm = true) {i : Nat} {x : Str} {ps : List Str} (hx : at? g.fns i = some (x, ps)) (hg : glB c.sc x = true) (hn : nmB x = true) {es : List Expr} {Ms : Rho → Hh → R (List IV)} {q pos : Pos}
    (ha : PA X es (rdA p W Ms)) (hst : plainEs es = true) (hl : es.length = ps.length) (ln : Ln Ms es.length) (hne : es.isEmpty = false) : PE X (.Call (.Name x q) es [] pos) (rdE p W fun r h => (Ms r h).bd fun vs h => cf i vs h) := by
  obtain ⟨mgx, hd⟩ := C.fns i x ps hx
  obtain ⟨fd, lv, A⟩ := C.dfs hc i ps hd
  refine ⟨fun pn s sg H Q I z => ?_⟩
  refine wpAny_Call_Name_kw (ld_glob I (gl_ok C hg) mgx ?_ (nmB_ok hn).1)
  cases es with
  | nil => cases hne
  | cons e r =>
    have z1 := rdA_ln ln z
    refine PySem.W.callWith_K (h₀ := X.base) I.ok.mod.kin A.kp (thn (ha.run pos pn s sg H _ I z1) fun us s1 w => ?_) ?_ ?_
    · obtain ⟨vs, H1, I1, rv, lv1, m1, r1, h1, as, s2, rh1, ra, ok⟩ := w
      refine ⟨I1.kIn, ?_⟩
      exact run_any C A I1 (A.bind s1 us (by rw [← rv.length, lv1]; exact hl)) rv ⟨by rw [lv1]; exact hl, m1, h1, as, rh1, ra, ok⟩
    · unfold plainEs at hst
      rw [Bool.and_eq_true, Bool.not_eq_true'] at hst
      exact star_cons hst.1
    · unfold plainEs at hst
      rw [Bool.and_eq_true] at hst
      exact star_none hst.2
theorem n_call0 (C : CxOk g T p cf W c X) (hc : c.calm = true) {i : Nat} {x : Str} {ps : List Str} (hx : at? g.fns i = some (x, ps)) (hg : glB c.sc x = true) (hn : nmB x = true) {q pos : Pos} (hl : ps.length = 0) :
    PE X (.Call (.Name x q) [] [] pos) (rdE p W fun _ h => cf i [] h) := by
  obtain ⟨mgx, hd⟩ := C.fns i x ps hx
  obtain ⟨fd, lv, A⟩ := C.dfs hc i ps hd
  refine ⟨fun pn s sg H Q I z => ?_⟩
  refine wpAny_Call_Name_kw (ld_glob I (gl_ok C hg) mgx ?_ (nmB_ok hn).1)
  obtain ⟨m, r, h, s1, t, o⟩ := z
  exact PySem.W.callWith_K0 I.kIn A.kp (run_any C A I (A.bind s [] hl.symm) .nil ⟨hl.symm, m, h, [], t, .nil, o⟩)
def kwPlain : List Keyword → List Str → Bool
  | [], [] => true
  | ⟨some n, _, _⟩ :: r, x :: xs => decide (n = x) && kwPlain r xs
  | _, _ => false
theorem kwPlain_all {env : Env} {pos : Pos} : ∀ {kws : List Keyword} {ks : List Str}, kwPlain kws ks = true →
    (backToKw pos (keywordEach kws env)).all (·.1.isSome) = true ∧ (backToKw pos (keywordEach kws env)).filterMap (·.1) = ks ∧ (backToKw pos (keywordEach kws env)).any (·.1.isNone) = false
  | [], [], _ => ⟨rfl, rfl, rfl⟩
  | [], _ :: _, h => by cases h
  | ⟨none, _, _⟩ :: _, _, h => by cases h
  | ⟨some n, _, _⟩ :: r, [], h => by cases h
  | ⟨some n, v, q⟩ :: r, x :: xs, h => by
    unfold kwPlain at h
    rw [Bool.and_eq_true, decide_eq_true_iff] at h
    obtain ⟨h1, h2⟩ := h
    subst h1
    obtain ⟨a, b, c⟩ := kwPlain_all (env := env) (pos := pos) h2
    refine ⟨?_, ?_, ?_⟩
    · show (true && (backToKw pos (keywordEach r env)).all (·.1.isSome)) = true
      rw [a]
      rfl
    · show n :: (backToKw pos (keywordEach r env)).filterMap (·.1) = _
      rw [b]
    · show (false || (backToKw pos (keywordEach r env)).any (·.1.isNone)) = false
      rw [c]
      rfl
def kwVals (kws : List Keyword) : List Expr := kws.map (·.value)
structure KA (X : Cx) (kws : List Keyword) (t : TA) : Prop where
  pk : PK X kws t
theorem k_nil : PK X [] (rdA p W fun _ h => .ok [] h) := ⟨fun po pn s sg H Q I q => pk_nil.run po pn s sg H Q I (by
  obtain ⟨m, r, h, s, t, o⟩ := q
  exact o m H _ Xt.refl t .nil)⟩
theorem k_cons {nm : Option Str} {kp : Pos} {e : Expr} {kws : List Keyword} {M : Rho → Hh → R IV} {Ms : Rho → Hh → R (List IV)} (he : PE X e (rdE p W M)) (hr : PK X kws (rdA p W Ms)) :
    PK X (⟨nm, e, kp⟩ :: kws) (rdA p W fun r h => (M r h).bd fun x h => (Ms r h).bd fun xs h => .ok (x :: xs) h) := ⟨fun po pn s sg H Q I q => (pk_cons he hr).run po pn s sg H Q I (by
  obtain ⟨m, r, h, s, t, o⟩ := q
  exact ⟨m, r, h, s, t, o.bd.mono fun V1 H1 ⟨m1, h1, v1, e1, rh1, rv1, ok1⟩ => ⟨m1, r, h1, s.mono e1, rh1, ok1.bd.mono fun V2 H2 ⟨m2, h2, v2, e2, rh2, rv2, ok2⟩ => ok2 m2 H2 _ Xt.refl rh2 (.cons (rv1.mono e2) rv2)⟩⟩)⟩
def kwK (cf : Nat → List IV → Hh → R IV) (i : Nat) (ks : List Nat) (vs us : List IV) (h : Hh) : R IV := match allK (putK (vs.map some ++ ks.map fun _ => none) ks us) with
  | some vs => cf i vs h
  | none => .fail
theorem n_callk (C : CxOk g T p cf W c X) (hc : c.calm = true) {i : Nat} {x : Str} {ps : List Str} (hx : at? g.fns i = some (x, ps)) (hg : glB c.sc x = true) (hn : nmB x = true) {es : List Expr} {kws : List Keyword} {ks : List Nat} {Ms Ns : Rho → Hh → R (List IV)} {q pos : Pos}
    (ha : PA X es (rdA p W Ms)) (hst : plainEs es = true) (ln : Ln Ms es.length) (hk : PK X kws (rdA p W Ns)) (lk : Ln Ns ks.length) (hkp : kwPlain kws (ks.map fun k => ps.getD k Str.empty) = true) (hin : (i, es.length, ks) ∈ g.kws)
    (hM : es = [] → Ms = fun _ h => .ok [] h) :
    PE X (.Call (.Name x q) es kws pos) (rdE p W fun r h => (Ms r h).bd fun vs h => (Ns r h).bd fun us h => kwK cf i ks vs us h) := by
  obtain ⟨mgx, hd⟩ := C.fns i x ps hx
  obtain ⟨fd, lv, A⟩ := C.dfs hc i ps hd
  refine ⟨fun pn s sg H Q I z => ?_⟩
  refine wpAny_Call_Name_kw (ld_glob I (gl_ok C hg) mgx ?_ (nmB_ok hn).1)
  obtain ⟨k1, k2, k3⟩ := kwPlain_all (env := X.env) (pos := pos) hkp
  -- the end, once all values stand
  have fin : ∀ (us ws : List Value) (vs xs : List V) (H2 : Hp) (s2 : Shared), L2.Inv X pn sg H2 s2 → Vals vs us → Vals xs ws → vs.length = es.length → xs.length = ks.length →
      (∃ m h as bs, RH p m h H2 ∧ RVs p m H2 as vs ∧ RVs p m H2 bs xs ∧ Ok (RV p) p m H2 (fun c d H => W c d sg H) (kwK cf i ks as bs h) Q) →
      wpAny (model X.prog X.w) X.A (call (.ref (p.dA i)) us (((backToKw pos (keywordEach kws X.env)).filterMap (·.1)).zip ws)) (EP X pn sg Q) X.xe s2 := by
    intro us ws vs xs H2 s2 I2 ru rw_ l1 l2 o
    obtain ⟨m, h, as, bs, rh, ra, rb, ok⟩ := o
    obtain ⟨zs, bnd, kk⟩ := A.bindk _ _ hin s2 us ws (by rw [← ru.length]; exact l1) (by rw [← rw_.length]; exact l2)
    unfold kwK at ok
    cases e : allK (putK (as.map some ++ ks.map fun _ => none) ks bs) with
    | none =>
      rw [e] at ok
      cases ok
    | some cs =>
      rw [e] at ok
      obtain ⟨ys, ry, rc, ly⟩ := kk p m H2 as bs cs vs xs ru rw_ ra rb e
      rw [k2]
      exact run_any C A I2 bnd ry ⟨ly, m, h, cs, rh, rc, ok⟩
  have mid : ∀ (us : List Value) (vs : List V) (H1 : Hp) (s1 : Shared), L2.Inv X pn sg H1 s1 → Vals vs us → vs.length = es.length →
      (∃ m r h as, RSl p m H1 r sg ∧ RH p m h H1 ∧ RVs p m H1 as vs ∧ Ok (RV p) p m H1 (fun c d H => W c d sg H) ((Ns r h).bd fun us h => kwK cf i ks as us h) Q) →
      wpAny (model X.prog X.w) X.A (evalAll ((backToKw pos (keywordEach kws X.env)).map (·.2))) (fun ws s2 => X.K.In s2.heap ∧ wpAny (model X.prog X.w) X.A (call (.ref (p.dA i)) us (((backToKw pos (keywordEach kws X.env)).filterMap (·.1)).zip ws)) (EP X pn sg Q) X.xe s2) X.xe s1 := by
    intro us vs H1 s1 I1 ru l1 o
    obtain ⟨m, r, h, as, sl, rh, ra, ok⟩ := o
    have q2 : rdA p W Ns sg H1 fun xs H2 => xs.length = ks.length ∧ ∃ m h as bs, RH p m h H2 ∧ RVs p m H2 as vs ∧ RVs p m H2 bs xs ∧ Ok (RV p) p m H2 (fun c d H => W c d sg H) (kwK cf i ks as bs h) Q := by
      refine ⟨m, r, h, sl, rh, ?_⟩
      cases e : Ns r h with
      | fail =>
        rw [e] at ok
        exact ok
      | exc _ _ =>
        rw [e] at ok
        exact ok
      | ok bs h2 =>
        rw [e] at ok
        intro m2 H2 b x2 rh2 rb2
        exact ⟨by rw [← rb2.length]; exact lk r h bs h2 e, m2, h2, as, bs, rh2, ra.mono x2, rb2, Ok.ext ok x2⟩
    refine thn (hk.run pos pn s1 sg H1 _ I1 q2) fun ws s2 w => ?_
    obtain ⟨xs, H2, I2, rw_, l2, o2⟩ := w
    exact ⟨I2.kIn, fin us ws vs xs H2 s2 I2 ru rw_ l1 l2 o2⟩
  cases es with
  | nil =>
    obtain ⟨m, r, h, s1, t, o⟩ := z
    rw [hM rfl] at o
    refine PySem.W.callWith_KW0 (h₀ := X.base) I.ok.mod.kin A.kp k1 (mid [] [] H s I .nil rfl ⟨m, r, h, [], s1, t, .nil, o⟩) ?_
    rw [k3]
    rfl
  | cons e rr =>
    have z1 := rdA_ln (k := fun r vs h => (Ns r h).bd fun us h => kwK cf i ks vs us h) ln z
    have hst' := hst
    unfold plainEs at hst'
    rw [Bool.and_eq_true, Bool.not_eq_true'] at hst'
    refine PySem.W.callWith_KW (h₀ := X.base) I.ok.mod.kin A.kp k1 (thn (ha.run pos pn s sg H _ I z1) fun us s1 w => ?_) ?_ (star_cons hst'.1)
    · obtain ⟨vs, H1, I1, rv, lv1, m1, r1, h1, as, s2, rh1, ra, ok⟩ := w
      exact mid us vs H1 s1 I1 rv lv1 ⟨m1, r1, h1, as, s2, rh1, ra, ok⟩
    · rw [star_none hst, k3]
      rfl
def rdC (p : Pd) (F : List IV → Hh → R IV) : List V → Hp → VK → Prop := fun xs H Q => ∃ m h as E, RH p m h H ∧ RVs p m H as xs ∧ Ok (RV p) p m H E (F as h) Q
theorem CallR.wk {f : Value} {r r' : List V → Hp → VK → Prop} (h : CallR X f r) (i : ∀ x H Q, r' x H Q → r x H Q) : CallR X f r' := fun pn s sg H x u Q I a q => h pn s sg H x u Q I a (i x H Q q)
theorem n_blt (C : CxOk g T p cf W c X) {x : Str} {id : String} {F : List IV → Hh → R IV} {e : Expr} {es : List Expr} {Ms : Rho → Hh → R (List IV)} {q pos : Pos} (hr : CallR X (.builtin id) (rdC p F)) (hb : bootBuiltins x = some (.builtin id))
    (hf : g.free.contains x = true) (hg : glB c.sc x = true) (hn : nmB x = true) (ha : PA X (e :: es) (rdA p W Ms)) (hst : plainEs (e :: es) = true) : PE X (.Call (.Name x q) (e :: es) [] pos) (rdE p W fun r h => (Ms r h).bd F) := by
  have hst' := hst
  unfold plainEs at hst'
  rw [Bool.and_eq_true, Bool.not_eq_true'] at hst'
  refine PE.wk (pe_callB hr (gl_ok C hg) (C.free x hf) hb ha (nmB_ok hn).2.2 (nmB_ok hn).1 (star_cons hst'.1) (star_none hst'.2)) fun σ H Q z => ?_
  obtain ⟨m, r, h, s, t, o⟩ := z
  exact ⟨m, r, h, s, t, o.bd.mono fun V1 H1 ⟨m1, h1, v1, e1, rh1, rv1, ok1⟩ => ⟨m1, h1, v1, _, rh1, rv1, ok1⟩⟩
theorem n_bty (C : CxOk g T p cf W c X) {x : Str} {id : String} {F : List IV → Hh → R IV} {e : Expr} {es : List Expr} {Ms : Rho → Hh → R (List IV)} {q pos : Pos} (hr : CallR X (.type id) (rdC p F)) (hb : bootBuiltins x = some (.type id))
    (hf : g.free.contains x = true) (hg : glB c.sc x = true) (hn : nmB x = true) (ha : PA X (e :: es) (rdA p W Ms)) (hst : plainEs (e :: es) = true) : PE X (.Call (.Name x q) (e :: es) [] pos) (rdE p W fun r h => (Ms r h).bd F) := by
  have hst' := hst
  unfold plainEs at hst'
  rw [Bool.and_eq_true, Bool.not_eq_true'] at hst'
  refine PE.wk (pe_callTy hr (gl_ok C hg) (C.free x hf) hb ha (nmB_ok hn).2.2 (nmB_ok hn).1 (star_cons hst'.1) (star_none hst'.2)) fun σ H Q z => ?_
  obtain ⟨m, r, h, s, t, o⟩ := z
  exact ⟨m, r, h, s, t, o.bd.mono fun V1 H1 ⟨m1, h1, v1, e1, rh1, rv1, ok1⟩ => ⟨m1, h1, v1, _, rh1, rv1, ok1⟩⟩
end
end
end Rk
namespace Rk
noncomputable section
open PySem PySem.Spec PyProof.Rows L2
theorem intsL_ok {K : Pd} {m : Mp} {H : Hp} : ∀ {xs : List IV} {vs : List V} {ns : List Int}, intsL xs = some ns → RVs K m H xs vs → vs = ns.map V.int
  | [], _, _, e, r => by
    cases r
    cases e
    rfl
  | x :: xs, _, _, e, r => by
    cases r with
    | cons r1 r2 =>
      cases r1 <;> first | (cases e; done) | skip
      rename_i i
      cases q : intsL xs with
      | none =>
        simp only [intsL, q] at e
        cases e
      | some s =>
        simp only [intsL, q] at e
        cases e
        rw [intsL_ok q r2]
        rfl
theorem isum_eq : ∀ ns : List Int, isum ns = ns.sum
  | [] => rfl
  | i :: r => by
    rw [List.sum_cons, ← isum_eq r]
    rfl
theorem minF_eq : ∀ (ns : List Int) (n : Int), minF n ns = ns.foldl min n
  | [], _ => rfl
  | k :: r, n => by
    rw [List.foldl_cons]
    unfold minF
    rw [ilt_eq]
    by_cases e : k < n
    · rw [decide_eq_true e]
      show minF k r = _
      rw [minF_eq r k, Int.min_eq_right (by omega)]
    · rw [decide_eq_false e]
      show minF n r = _
      rw [minF_eq r n, Int.min_eq_left (by omega)]
theorem maxF_eq : ∀ (ns : List Int) (n : Int), maxF n ns = ns.foldl max n
  | [], _ => rfl
  | k :: r, n => by
    rw [List.foldl_cons]
    unfold maxF
    rw [ilt_eq]
    by_cases e : n < k
    · rw [decide_eq_true e]
      show maxF k r = _
      rw [maxF_eq r k, Int.max_eq_right (by omega)]
    · rw [decide_eq_false e]
      show maxF n r = _
      rw [maxF_eq r n, Int.max_eq_left (by omega)]
theorem mapI_rv {K : Pd} {m : Mp} {H : Hp} : ∀ ns : List Int, RVs K m H (mapI ns) (ns.map V.int)
  | [] => .nil
  | i :: r => .cons (.int i) (mapI_rv r)
theorem insI_perm (i : Int) : ∀ ns : List Int, (insI i ns).Perm (i :: ns)
  | [] => List.Perm.refl _
  | j :: r => by
    unfold insI
    cases ile i j with
    | true => exact List.Perm.refl _
    | false => exact ((insI_perm i r).cons j).trans (List.Perm.swap i j r)
theorem sortF_perm : ∀ ns : List Int, (sortF ns).Perm ns
  | [] => List.Perm.refl _
  | i :: r => (insI_perm i (sortF r)).trans ((sortF_perm r).cons i)
theorem insI_pw (i : Int) : ∀ ns : List Int, ns.Pairwise (· ≤ ·) → (insI i ns).Pairwise (· ≤ ·)
  | [], _ => by simp [insI]
  | j :: r, h => by
    unfold insI
    rw [List.pairwise_cons] at h
    rw [ile_eq]
    by_cases e : i ≤ j
    · rw [decide_eq_true e]
      refine List.pairwise_cons.mpr ⟨fun z hz => ?_, List.pairwise_cons.mpr h⟩
      rcases List.mem_cons.mp hz with q | q
      · rw [q]; exact e
      · exact Int.le_trans e (h.1 z q)
    · rw [decide_eq_false e]
      refine List.pairwise_cons.mpr ⟨fun z hz => ?_, insI_pw i r h.2⟩
      rcases List.mem_cons.mp ((insI_perm i r).mem_iff.mp hz) with q | q
      · rw [q]; omega
      · exact h.1 z q
theorem sortF_pw : ∀ ns : List Int, (sortF ns).Pairwise (· ≤ ·)
  | [] => .nil
  | i :: r => insI_pw i _ (sortF_pw r)
theorem sorted_one {l r : List Int} (p : l.Perm r) (hl : l.Pairwise (· ≤ ·)) (hr : r.Pairwise (· ≤ ·)) : l = r :=
  List.Perm.eq_of_pairwise (fun a b _ _ h1 h2 => Int.le_antisymm h1 h2) hl hr p
section
variable {X : Cx} {p : Pd}
def bfn (b : Bi) (as : List IV) (h : Hh) : R IV := match as with
  | [x] => bi1 b x h
  | [x, y] => Rk.bi2 b x y h
  | _ => .fail
theorem one_of {as : List IV} {xs : List V} {m : Mp} {h : Hh} {H : Hp} {E : XK} {Q : VK} {b : Bi} (r : RVs p m H as xs) (h2 : ∀ x y h, Rk.bi2 b x y h = .fail) (o : Ok (RV p) p m H E (bfn b as h) Q) : ∃ a x, as = [a] ∧ xs = [x] ∧ RV p m H a x ∧ Ok (RV p) p m H E (bi1 b a h) Q := by
  cases r with
  | nil => cases o
  | cons r1 r2 =>
    cases r2 with
    | nil => exact ⟨_, _, rfl, rfl, r1, o⟩
    | cons r3 r4 =>
      cases r4 with
      | nil =>
        have o' : Ok (RV p) p m H E (Rk.bi2 b _ _ h) Q := o
        rw [h2] at o'
        cases o'
      | cons _ _ => cases o
theorem two_no {b : Bi} (hb : b ≠ .min) (hb2 : b ≠ .max) (hb3 : b ≠ .rng2) : ∀ x y h, Rk.bi2 b x y h = .fail := by
  intro x y h
  cases x <;> first | rfl | skip
  cases y <;> first | rfl | skip
  cases b <;> first | rfl | exact absurd rfl hb | exact absurd rfl hb2 | exact absurd rfl hb3
theorem items_r {as : IV} {m : Mp} {h : Hh} {H : Hp} {E : XK} {Q : VK} {k : List IV → R IV} (o : Ok (RV p) p m H E (match items as h with
    | some xs => k xs
    | none => .fail) Q) : ∃ xs, items as h = some xs ∧ Ok (RV p) p m H E (k xs) Q := by
  cases e : items as h with
  | none =>
    rw [e] at o
    cases o
  | some xs =>
    rw [e] at o
    exact ⟨xs, rfl, o⟩
theorem c_len (hK : X.K = p.K) : CallR X (.builtin "len") (rdC p (bfn .len)) := CallR.wk (call_len_seq.or call_lenD) fun xs H Q q => by
  obtain ⟨m, h, as, E, rh, ra, o⟩ := q
  obtain ⟨a, x, rfl, rfl, r1, o1⟩ := one_of (b := .len) ra (two_no (fun z => nomatch z) (fun z => nomatch z) (fun z => nomatch z)) o
  have o1 : Ok (RV p) p m H E (match items a h with
    | some xs => .ok (.int (.ofNat xs.length)) h
    | none => match dOf a h with
      | some d => lenD d h
      | none => .fail) Q := o1
  cases e : items a h with
  | some ys =>
    rw [e] at o1
    obtain ⟨l, vs, rfl, s, r2⟩ := items_ok rh r1 e
    left
    rw [hK]
    have q := Ok.int rh o1
    rw [r2.length] at q
    rcases s with s | s
    · exact ⟨l, vs, rfl, .inr s, q⟩
    · exact ⟨l, vs, rfl, .inl (SqL.of s), q⟩
  | none =>
    rw [e] at o1
    dsimp only at o1
    right
    cases e2 : dOf a h with
    | none =>
      rw [e2] at o1
      cases o1
    | some d =>
      rw [e2] at o1
      have o9 : Ok (RV p) p m H E (lenD d h) Q := o1
      clear o1
      obtain ⟨t, lk, kvs⟩ := d
      cases t with
      | true => cases o9
      | false =>
        cases lk with
        | true => cases o9
        | false =>
          cases r1 <;> first | (cases e2; done) | skip
          rename_i n q em
          have e2 : (match h.get n with
            | some (.dict d) => some d
            | _ => none) = some (⟨false, false, kvs⟩ : DD) := e2
          cases g : h.get n with
          | none =>
            rw [g] at e2
            cases e2
          | some w =>
            rw [g] at e2
            cases w with
            | lst _ => cases e2
            | inst _ _ => cases e2
            | dict d =>
              cases e2
              obtain ⟨r, h1, h2⟩ := rh.dct em g rfl
              have q := Ok.int rh (show Ok (RV p) p m H E (.ok (.int (.ofNat kvs.length)) h) Q from o9)
              rw [h2.len] at q
              exact ⟨_, r, rfl, h1, q⟩
theorem c_abs : CallR X (.builtin "abs") (rdC p (bfn .abs)) := CallR.wk call_abs fun xs H Q q => by
  obtain ⟨m, h, as, E, rh, ra, o⟩ := q
  obtain ⟨a, x, rfl, rfl, r1, o1⟩ := one_of (b := .abs) ra (two_no (fun z => nomatch z) (fun z => nomatch z) (fun z => nomatch z)) o
  cases r1 <;> first | (cases o1; done) | skip
  rename_i i
  refine ⟨i, rfl, ?_⟩
  cases i with
  | ofNat n =>
    have z : ¬ ((n : Int) < 0) := by omega
    show Q (V.int (if (n : Int) < 0 then -(n : Int) else (n : Int))) H
    rw [if_neg z]
    exact Ok.int rh o1
  | negSucc n =>
    have z : Int.negSucc n < 0 := Int.negSucc_lt_zero n
    rw [if_pos z]
    exact Ok.int rh o1
theorem c_int : CallR X (.type "int") (rdC p (bfn .int)) := CallR.wk call_int1 fun xs H Q q => by
  obtain ⟨m, h, as, E, rh, ra, o⟩ := q
  obtain ⟨a, x, rfl, rfl, r1, o1⟩ := one_of (b := .int) ra (two_no (fun z => nomatch z) (fun z => nomatch z) (fun z => nomatch z)) o
  cases r1 <;> first | (cases o1; done) | skip
  · right
    rename_i b
    have q := Ok.int rh (show Ok (RV p) p m H E (.ok (.int (Rk.b2i b)) h) Q from o1)
    rw [b2i_eq] at q
    exact ⟨b, rfl, q⟩
  · left
    rename_i i
    exact ⟨i, rfl, Ok.int rh o1⟩
theorem rgI_rv {K : Pd} {m : Mp} {H : Hp} : ∀ (n : Nat) (lo : Int), RVs K m H (rgI lo n) ((List.range n).map fun i => V.int (lo + (i : Nat)))
  | 0, _ => .nil
  | n + 1, lo => by
    rw [List.range_succ_eq_map, List.map_cons, List.map_map]
    have e : lo + ((0 : Nat) : Int) = lo := by simp
    rw [e]
    refine .cons (.int lo) ?_
    have z := rgI_rv (K := K) (m := m) (H := H) n (Int.add lo 1)
    have e2 : (fun i : Nat => V.int (Int.add lo 1 + (i : Nat))) = ((fun i : Nat => V.int (lo + (i : Nat))) ∘ Nat.succ) := by
      funext i
      show V.int (lo + 1 + (i : Int)) = V.int (lo + ((i + 1 : Nat) : Int))
      have : lo + 1 + (i : Int) = lo + ((i + 1 : Nat) : Int) := by omega
      rw [this]
    rw [e2] at z
    exact z
theorem rngI_ok {m : Mp} {H : Hp} {a : IV} {x : V} {xs : List IV} (e : rngI a = some xs) (r : RV p m H a x) : ∃ q lo hi, x = .ref q ∧ H q = some (.rng lo hi) ∧ RgOk lo hi ∧ RVs p m H xs (rgV lo hi) := by
  cases r <;> first | (cases e; done) | skip
  rename_i lo n q rg
  obtain ⟨hi, e1, e2, b1, b2, b3, b4⟩ := rg
  unfold rngI at e
  dsimp only at e
  cases e3 : Nat.ble n 100000 with
  | false =>
    rw [e3] at e
    cases e
  | true =>
    rw [e3] at e
    cases e
    have l : n ≤ 100000 := by rwa [Nat.ble_eq] at e3
    refine ⟨q, lo, hi, rfl, e1, ⟨b1, b2, b3, b4, by omega⟩, ?_⟩
    unfold rgV
    rw [e2]
    exact rgI_rv n lo
def rRgT (o : Bool) : List V → Hp → VK → Prop := fun xs H Q => ∃ r a b, xs = [V.ref r] ∧ H r = some (.rng a b) ∧ RgOk a b ∧ ∀ q, H q = none → Q (.ref q) (upd H q (if o = true then .tup (rgV a b) else .lst (rgV a b)))
theorem cr_tupRg (hc : X.calm = true) : CallR X (.type "tuple") (rRgT true) := by
  intro pins s σ H vs us Q I r h
  obtain ⟨q, a, b, rfl, e, ok, k⟩ := h
  cases r with
  | cons r1 rr =>
    cases rr
    cases r1
    obtain ⟨t, u, w, hr⟩ := I.hok _ _ e
    obtain ⟨b1, b2, b3, b4, b5⟩ := ok
    refine call_tuple_range (n := (b - a).toNat) (I.ok.hd hc) hr (small_one b1 b2 b3 b4) (rangeSize_nat a b) b5 fun h' tk acc hk hi => ?_
    have I1 : Inv X pins σ H { s with heap := h', toks := tk } := I.kept hk
    refine ⟨.ref h'.objs.size, upd H h'.objs.size (.tup (rgV a b)), I1.laid (t' := tk) (fun b o e => Heap.get?_push_of_some _ e) (Nat.le_refl _) (show ObjOk X.prog X.w _ _ _ (.tup (rgV a b)) from ⟨?_, acc.toList, vals_rg hi, ?_⟩), rfl, k _ (I1.hok.fresh (Nat.le_refl _))⟩
    · rw [rgV_length, sizeLine_eq]; omega
    · rw [Array.toArray_toList]; exact IsTup.new _ _
theorem cr_lstRg (hc : X.calm = true) : CallR X (.type "list") (rRgT false) := by
  intro pins s σ H vs us Q I r h
  obtain ⟨q, a, b, rfl, e, ok, k⟩ := h
  cases r with
  | cons r1 rr =>
    cases rr
    cases r1
    obtain ⟨t, u, w, hr⟩ := I.hok _ _ e
    obtain ⟨b1, b2, b3, b4, b5⟩ := ok
    refine call_list_range (n := (b - a).toNat) (I.ok.hd hc) hr (small_one b1 b2 b3 b4) (rangeSize_nat a b) b5 fun h' tk acc c' hk e' hi => ?_
    refine ⟨.ref s.heap.objs.size, upd H s.heap.objs.size (.lst (rgV a b)), I.laid hk (Nat.le_refl _) (show ObjOk X.prog X.w _ _ _ (.lst (rgV a b)) from ⟨?_, acc.toList, c', vals_rg hi, ?_⟩), rfl, k _ (I.hok.fresh (Nat.le_refl _))⟩
    · rw [rgV_length, sizeLine_eq]; omega
    · rw [Array.toArray_toList]; exact e'
theorem c_list (hK : X.K = p.K) (hc : X.calm = true) : CallR X (.type "list") (rdC p (bfn .list)) := CallR.wk (call_list_of.or (cr_lstRg hc)) fun xs H Q q => by
  obtain ⟨m, h, as, E, rh, ra, o⟩ := q
  obtain ⟨a, x, rfl, rfl, r1, o1⟩ := one_of (b := .list) ra (two_no (fun z => nomatch z) (fun z => nomatch z) (fun z => nomatch z)) o
  have o1 : Ok (RV p) p m H E (match rngI a with
    | some xs => newL xs h
    | none => match items a h with
      | some xs => newL xs h
      | none => .fail) Q := o1
  cases e0 : rngI a with
  | some ys =>
    rw [e0] at o1
    obtain ⟨l, lo, hi, rfl, e1, e2, r2⟩ := rngI_ok e0 r1
    exact .inr ⟨l, lo, hi, rfl, e1, e2, fun q hq => Ok.newL rh r2 o1 hq⟩
  | none =>
    rw [e0] at o1
    left
    obtain ⟨ys, e, o2⟩ := items_r (k := fun xs => newL xs h) o1
    obtain ⟨l, vs, rfl, s, r2⟩ := items_ok rh r1 e
    rw [hK]
    rcases s with s | s
    · exact ⟨l, vs, rfl, .inr s, fun q hq => Ok.newL rh r2 o2 hq⟩
    · exact ⟨l, vs, rfl, .inl (SqL.of s), fun q hq => Ok.newL rh r2 o2 hq⟩
theorem c_tuple (hK : X.K = p.K) (hc : X.calm = true) : CallR X (.type "tuple") (rdC p (bfn .tuple)) := CallR.wk (call_tuple_of.or (cr_tupRg hc)) fun xs H Q q => by
  obtain ⟨m, h, as, E, rh, ra, o⟩ := q
  obtain ⟨a, x, rfl, rfl, r1, o1⟩ := one_of (b := .tuple) ra (two_no (fun z => nomatch z) (fun z => nomatch z) (fun z => nomatch z)) o
  have o1 : Ok (RV p) p m H E (match rngI a with
    | some xs => .ok (.tup xs) h
    | none => match items a h with
      | some xs => .ok (.tup xs) h
      | none => .fail) Q := o1
  cases e0 : rngI a with
  | some ys =>
    rw [e0] at o1
    obtain ⟨l, lo, hi, rfl, e1, e2, r2⟩ := rngI_ok e0 r1
    exact .inr ⟨l, lo, hi, rfl, e1, e2, fun q hq => Ok.tup rh r2 o1 hq⟩
  | none =>
    rw [e0] at o1
    left
    obtain ⟨ys, e, o2⟩ := items_r (k := fun xs => .ok (.tup xs) h) o1
    obtain ⟨l, vs, rfl, s, r2⟩ := items_ok rh r1 e
    rw [hK]
    rcases s with s | s
    · exact ⟨l, vs, rfl, .inr ⟨s, Ok.tupS rh s r2 o2⟩⟩
    · exact ⟨l, vs, rfl, .inl ⟨SqL.of s, fun q hq => Ok.tup rh r2 o2 hq⟩⟩
theorem bls_all {K : Pd} {m : Mp} {H : Hp} : ∀ {xs : List IV} {vs : List V} {b : Bool}, allB xs = some b → RVs K m H xs vs → ∃ bs : List Bool, vs = bs.map V.bl ∧ bs.all id = b
  | [], _, _, e, r => by
    cases r
    cases e
    exact ⟨[], rfl, rfl⟩
  | x :: xs, _, b, e, r => by
    cases r with
    | cons r1 r2 =>
      cases r1 <;> first | (cases e; done) | skip
      rename_i k
      cases k with
      | true =>
        obtain ⟨bs, h1, h2⟩ := bls_all (show allB xs = some b from e) r2
        exact ⟨true :: bs, by rw [h1]; rfl, by rw [← h2]; rfl⟩
      | false =>
        cases q : allB xs with
        | none =>
          simp only [allB, q] at e
          cases e
        | some c =>
          simp only [allB, q] at e
          cases e
          obtain ⟨bs, h1, h2⟩ := bls_all q r2
          exact ⟨false :: bs, by rw [h1]; rfl, rfl⟩
theorem bls_any {K : Pd} {m : Mp} {H : Hp} : ∀ {xs : List IV} {vs : List V} {b : Bool}, anyB xs = some b → RVs K m H xs vs → ∃ bs : List Bool, vs = bs.map V.bl ∧ bs.any id = b
  | [], _, _, e, r => by
    cases r
    cases e
    exact ⟨[], rfl, rfl⟩
  | x :: xs, _, b, e, r => by
    cases r with
    | cons r1 r2 =>
      cases r1 <;> first | (cases e; done) | skip
      rename_i k
      cases k with
      | false =>
        obtain ⟨bs, h1, h2⟩ := bls_any (show anyB xs = some b from e) r2
        exact ⟨false :: bs, by rw [h1]; rfl, by rw [← h2]; rfl⟩
      | true =>
        cases q : anyB xs with
        | none =>
          simp only [anyB, q] at e
          cases e
        | some c =>
          simp only [anyB, q] at e
          cases e
          obtain ⟨bs, h1, h2⟩ := bls_any q r2
          exact ⟨true :: bs, by rw [h1]; rfl, rfl⟩
theorem lstOf_ok {K : Pd} {m : Mp} {h : Hh} {H : Hp} {a : IV} {x : V} {xs : List IV} (rh : RH K m h H) (ra : RV K m H a x) (e : lstOf a h = some xs) : ∃ l vs, x = .ref l ∧ H l = some (.lst vs) ∧ RVs K m H xs vs := by
  cases ra <;> first | (cases e; done) | skip
  rename_i n l em
  obtain ⟨l', vs, e1, s, r⟩ := items_ok rh (.ref em) (show items (.ref n) h = some xs from e)
  cases g : h.get n with
  | none =>
    simp only [lstOf, items, g] at e
    cases e
  | some o =>
    cases o with
    | dict _ => simp only [lstOf, items, g] at e; cases e
    | inst _ _ => simp only [lstOf, items, g] at e; cases e
    | lst ys =>
      simp only [lstOf, items, g] at e
      cases e
      obtain ⟨ws, hw, rw_⟩ := rh.lst em g
      exact ⟨l, ws, rfl, hw, rw_⟩
theorem c_all (hK : X.K = p.K) (hc : X.calm = true) : CallR X (.builtin "all") (rdC p (bfn .all)) := CallR.wk (cr_all hc) fun xs H Q q => by
  obtain ⟨m, h, as, E, rh, ra, o⟩ := q
  obtain ⟨a, x, rfl, rfl, r1, o1⟩ := one_of (b := .all) ra (two_no (fun z => nomatch z) (fun z => nomatch z) (fun z => nomatch z)) o
  have o1' : Ok (RV p) p m H E (match lstOf a h with
    | some xs => obl (allB xs) h
    | none => .fail) Q := o1
  cases e : lstOf a h with
  | none =>
    rw [e] at o1'
    cases o1'
  | some ys =>
    rw [e] at o1'
    obtain ⟨l, vs, rfl, s, r2⟩ := lstOf_ok rh r1 e
    obtain ⟨b, e2, q2⟩ := obl_ok rh o1'
    obtain ⟨bs, e3, e4⟩ := bls_all e2 r2
    rw [hK]
    exact ⟨l, bs, rfl, by rw [← e3]; exact SqL.of s, by rw [e4]; exact q2⟩
theorem anyI_eq : ∀ ns : List Int, anyI ns = (ns.map PyData.int).any PyData.truthy
  | [] => rfl
  | i :: r => by
    rw [List.map_cons, List.any_cons]
    show (match ieq i 0 with
      | true => anyI r
      | false => true) = _
    rw [ieq_eq, anyI_eq r]
    by_cases e : i = 0
    · subst e
      rfl
    · rw [decide_eq_false e]
      have : PyData.truthy (.int i) = true := by
        show (i != 0) = true
        rw [bne_iff_ne]
        exact e
      rw [this]
      rfl
theorem ints_reads {hp : Heap} : ∀ {its : List Value} {ns : List Int}, Vals (ns.map V.int) its → ReadsAll hp its (ns.map PyData.int) []
  | _, [], r => by
    cases r
    exact .nil
  | _, n :: ns, r => by
    cases r with
    | cons r1 r2 =>
      obtain ⟨t, rfl⟩ := r1
      exact ReadsAll.cons (as := []) (bs := []) (Reads.int n t) (ints_reads r2)
theorem ints_plain : ∀ ns : List Int, PyData.plainAll (ns.map PyData.int) = true
  | [] => rfl
  | n :: ns => by
    show (PyData.plain (.int n) && PyData.plainAll (ns.map PyData.int)) = true
    rw [ints_plain ns]
    rfl
def rAnyI (K : PySem.W.Frag) : List V → Hp → VK → Prop := fun vs H Q => ∃ (a : Addr) (ns : List Int), vs = [V.ref a] ∧ SqL K H a (ns.map V.int) ∧ Q (.bl (anyI ns)) H
theorem cr_anyI (hc : X.calm = true) : CallR X (.builtin "any") (rAnyI X.K) := by
  intro pn s sg H xs us Q I ru q
  obtain ⟨a, ns, rfl, hT, q⟩ := q
  cases Vals.ref1 ru
  have hh : X.A.handled = none := I.ok.hd hc
  obtain ⟨its, r, ht, hz⟩ := I.list hT
  refine PySem.W.any_list_data hh ht.isList (ints_reads (ns := ns) (hp := s.heap) (by simpa using r)) (ints_plain ns) (fun x hx => ?_) fun h' tk k => ?_
  · obtain ⟨n, _, rfl⟩ := List.mem_map.mp hx
    exact trivial
  · rw [← anyI_eq]
    exact ⟨.bl (anyI ns), H, I.kept (t' := tk) k, rfl, q⟩
theorem c_any (hK : X.K = p.K) (hc : X.calm = true) : CallR X (.builtin "any") (rdC p (bfn .any)) := CallR.wk ((cr_any hc).or (cr_anyI hc)) fun xs H Q q => by
  obtain ⟨m, h, as, E, rh, ra, o⟩ := q
  obtain ⟨a, x, rfl, rfl, r1, o1⟩ := one_of (b := .any) ra (two_no (fun z => nomatch z) (fun z => nomatch z) (fun z => nomatch z)) o
  have o1' : Ok (RV p) p m H E (match lstOf a h with
    | some xs => match anyB xs with
      | some b => .ok (.bl b) h
      | none => match intsL xs with
        | some ns => .ok (.bl (anyI ns)) h
        | none => .fail
    | none => .fail) Q := o1
  cases e : lstOf a h with
  | none =>
    rw [e] at o1'
    cases o1'
  | some ys =>
    rw [e] at o1'
    dsimp only at o1'
    obtain ⟨l, vs, rfl, s, r2⟩ := lstOf_ok rh r1 e
    rw [hK]
    cases e2 : anyB ys with
    | some b =>
      rw [e2] at o1'
      left
      obtain ⟨bs, e3, e4⟩ := bls_any e2 r2
      exact ⟨l, bs, rfl, by rw [← e3]; exact SqL.of s, by rw [e4]; exact Ok.bl rh o1'⟩
    | none =>
      rw [e2] at o1'
      dsimp only at o1'
      right
      cases e3 : intsL ys with
      | none =>
        rw [e3] at o1'
        cases o1'
      | some ns =>
        rw [e3] at o1'
        have e4 := intsL_ok e3 r2
        exact ⟨l, ns, rfl, by rw [← e4]; exact SqL.of s, Ok.bl rh o1'⟩
def rSumT (K : PySem.W.Frag) : List V → Hp → VK → Prop := fun vs H Q => ∃ (a : Addr) (ns : List Int), vs = [V.ref a] ∧ SqT K H a (ns.map V.int) ∧ Q (.int ns.sum) H
theorem cr_sumT (hc : X.calm = true) : CallR X (.builtin "sum") (rSumT X.K) := by
  intro pn s sg H xs us Q I ru q
  obtain ⟨a, ns, rfl, hT, q⟩ := q
  cases Vals.ref1 ru
  obtain ⟨its, r, ht, hz⟩ := I.tuple hT
  have hi : IntsAre its ns := r.ints
  obtain ⟨ws, e⟩ := hi.allInts.items
  have hn : numsOf (intItems ws).toList = ns := by rw [← e]; exact hi.numsOf
  rw [nums_intItems] at hn
  have hl : s.heap.IsTuple a (intItems ws) := by
    rw [← e]
    exact ht
  have hh : X.A.handled = none := I.ok.hd hc
  have hlt : a < s.heap.objs.size := by
    obtain ⟨ob, e3, _⟩ := hl
    exact Heap.lt_size e3
  refine PySem.call_sum_walkG (wpAny_pyIter_tuple hl ⟨_, _, _, _, _, _, numAt ws, rfl, Walks.tuple (A := X.A.in1) hh s.heap.objs.size a (Nat.ne_of_lt hlt) (intItems ws), ⟨⟨_, Heap.get?_push_size _ rfl, rfl, rfl⟩, hl.push _⟩, fun b hb => ?_, fun _ _ => intItems_at, fun h' tk t' hk => ?_⟩)
  · show b < (s.heap.push _).objs.size
    rw [Heap.size_push]
    rcases List.mem_cons.mp hb with rfl | hb
    · exact Nat.lt_succ_self _
    · rcases List.mem_cons.mp hb with rfl | hb
      · exact Nat.lt_succ_of_lt hlt
      · cases hb
  · have kk : ∀ b o, s.heap.get? b = some o → h'.get? b = some o := fun b o q => hk b o (by
      intro z
      have z1 : b = s.heap.objs.size := by simpa using z
      subst z1
      exact absurd (Heap.lt_size q) (Nat.lt_irrefl _)) (Heap.get?_push_of_some _ q)
    refine ⟨.int ns.sum, H, I.kept (t' := tk) kk, ⟨t', ?_⟩, q⟩
    rw [preSum_eq, List.take_of_length_le (by simp [intItems]), hn]
theorem c_sum (hK : X.K = p.K) (hc : X.calm = true) : CallR X (.builtin "sum") (rdC p (bfn .sum)) := CallR.wk ((cr_sum hc).or (cr_sumT hc)) fun xs H Q q => by
  obtain ⟨m, h, as, E, rh, ra, o⟩ := q
  obtain ⟨a, x, rfl, rfl, r1, o1⟩ := one_of (b := .sum) ra (two_no (fun z => nomatch z) (fun z => nomatch z) (fun z => nomatch z)) o
  obtain ⟨ys, e, o2⟩ := items_r (k := fun xs => match intsL xs with
      | some ns => .ok (.int (isum ns)) h
      | none => .fail) o1
  cases e2 : intsL ys with
  | none =>
    simp only [e2] at o2
    cases o2
  | some ns =>
    simp only [e2] at o2
    obtain ⟨l, vs, rfl, s, r2⟩ := items_ok rh r1 e
    have e3 := intsL_ok e2 r2
    have q := Ok.int rh o2
    rw [isum_eq] at q
    rw [hK]
    rcases s with s | s
    · exact .inr ⟨l, ns, rfl, by rw [← e3]; exact s, q⟩
    · exact .inl ⟨l, ns, rfl, by rw [← e3]; exact SqL.of s, q⟩
theorem ints_alike (ns : List Int) : W.AlikeAll (ns.map PyData.int) := by
  refine ⟨fun x hx y hy => ?_, fun x hx => ?_⟩
  · obtain ⟨a, _, rfl⟩ := List.mem_map.mp hx
    obtain ⟨b, _, rfl⟩ := List.mem_map.mp hy
    rfl
  · obtain ⟨a, _, rfl⟩ := List.mem_map.mp hx
    exact fun z => nomatch z
theorem ints_depth : ∀ ns : List Int, PyData.depthAll (ns.map PyData.int) = 0
  | [] => rfl
  | n :: ns => by
    show max (PyData.depth (.int n)) (PyData.depthAll (ns.map PyData.int)) = 0
    rw [ints_depth ns]
    rfl
theorem ltL_eq : ∀ xs ys : List Int, ltL xs ys = W.dataLt (.tuple (xs.map .int)) (.tuple (ys.map .int)) := by
  intro xs
  have key : ∀ xs ys : List Int, ltL xs ys = W.rowLt (xs.map .int) (ys.map .int) := by
    intro xs
    induction xs with
    | nil =>
      intro ys
      rw [W.dataLt_ints]
      cases ys with
      | nil => rfl
      | cons y ys =>
        symm
        exact decide_eq_true (List.nil_lt_cons y ys)
    | cons x xs ih =>
      intro ys
      rw [W.dataLt_ints]
      cases ys with
      | nil =>
        symm
        exact decide_eq_false (List.not_lt_nil _)
      | cons y ys =>
        show (match ieq x y with
          | true => ltL xs ys
          | false => ilt x y) = _
        rw [ieq_eq, ilt_eq]
        by_cases e : x = y
        · subst e
          rw [decide_eq_true rfl]
          dsimp only
          rw [ih, W.dataLt_ints]
          exact decide_eq_decide.mpr (by rw [List.cons_lt_cons_iff]; simp)
        · rw [decide_eq_false e]
          dsimp only
          exact decide_eq_decide.mpr (by rw [List.cons_lt_cons_iff]; simp [e])
  intro ys
  rw [key]
  rfl
def tD (t : List Int) : PyData := .tuple (t.map .int)
theorem minT_eq : ∀ (ts : List (List Int)) (m : List Int), W.minD (tD m) (ts.map tD) = tD (minT m ts)
  | [], _ => rfl
  | t :: r, m => by
    show W.minD (if W.dataLt (tD t) (tD m) = true then tD t else tD m) (r.map tD) = _
    unfold minT
    rw [ltL_eq]
    show _ = tD (match W.dataLt (tD t) (tD m) with
      | true => minT t r
      | false => minT m r)
    cases W.dataLt (tD t) (tD m) with
    | true =>
      rw [if_pos rfl]
      exact minT_eq r t
    | false =>
      rw [if_neg Bool.false_ne_true]
      exact minT_eq r m
theorem maxT_eq : ∀ (ts : List (List Int)) (m : List Int), W.maxD (tD m) (ts.map tD) = tD (maxT m ts)
  | [], _ => rfl
  | t :: r, m => by
    show W.maxD (if W.dataLt (tD m) (tD t) = true then tD t else tD m) (r.map tD) = _
    unfold maxT
    rw [ltL_eq]
    show _ = tD (match W.dataLt (tD m) (tD t) with
      | true => maxT t r
      | false => maxT m r)
    cases W.dataLt (tD m) (tD t) with
    | true =>
      rw [if_pos rfl]
      exact maxT_eq r t
    | false =>
      rw [if_neg Bool.false_ne_true]
      exact maxT_eq r m
theorem intsL_map : ∀ {xs : List IV} {ns : List Int}, intsL xs = some ns → xs = mapI ns
  | [], _, e => by
    cases e
    rfl
  | x :: xs, ns, e => by
    cases x <;> first | (cases e; done) | skip
    rename_i i
    cases q : intsL xs with
    | none =>
      simp only [intsL, q] at e
      cases e
    | some s =>
      simp only [intsL, q] at e
      cases e
      rw [intsL_map q]
      rfl
theorem tupsL_map : ∀ {xs : List IV} {ts : List (List Int)}, tupsL xs = some ts → xs = mapT ts
  | [], _, e => by
    cases e
    rfl
  | x :: xs, ts, e => by
    cases x <;> first | (cases e; done) | skip
    rename_i ys
    cases q : intsL ys with
    | none =>
      simp only [tupsL, q] at e
      cases e
    | some t =>
      cases q2 : tupsL xs with
      | none =>
        simp only [tupsL, q, q2] at e
        cases e
      | some s =>
        simp only [tupsL, q, q2] at e
        cases e
        rw [tupsL_map q2, intsL_map q]
        rfl
theorem tD_alike (a b : List Int) : W.alike (tD a) (tD b) = true := by
  show W.alike (.tuple _) (.tuple _) = true
  rw [W.alike]
  exact W.alike_ints a b
theorem tD_alikeAll (ts : List (List Int)) : W.AlikeAll (ts.map tD) := by
  refine ⟨fun x hx y hy => ?_, fun x hx => ?_⟩
  · obtain ⟨a, _, rfl⟩ := List.mem_map.mp hx
    obtain ⟨b, _, rfl⟩ := List.mem_map.mp hy
    exact tD_alike a b
  · obtain ⟨a, _, rfl⟩ := List.mem_map.mp hx
    exact fun z => nomatch z
theorem tD_depth (t : List Int) : (tD t).depth = 1 := by
  show PyData.depth (.tuple _) = 1
  unfold PyData.depth
  rw [ints_depth]
theorem tD_depths : ∀ ts : List (List Int), PyData.depthAll (ts.map tD) ≤ 1
  | [] => Nat.zero_le _
  | t :: ts => by
    show max (tD t).depth (PyData.depthAll (ts.map tD)) ≤ 1
    rw [tD_depth]
    exact Nat.max_le.mpr ⟨Nat.le_refl _, tD_depths ts⟩
theorem tD_inj {a b : List Int} (h : tD a = tD b) : a = b := by
  have : a.map PyData.int = b.map PyData.int := by injection h
  exact List.map_inj_right (fun x y e => by injection e) |>.mp this
theorem ints_lay : ∀ ns : List Int, PyData.canLayAll0 (ns.map PyData.int) = true
  | [] => rfl
  | n :: ns => by
    show (PyData.canLay0 (.int n) && PyData.canLayAll0 (ns.map PyData.int)) = true
    rw [ints_lay ns]
    rfl
theorem tup_reads {pn : List (Addr × Obj)} {sg : L2.St} {H : Hp} {s : Shared} {m : Mp} (hK : X.K = p.K) (I : L2.Inv X pn sg H s) {t : List Int} {y : L2.V} {v : Value} (r : RV p m H (.tup (mapI t)) y) (rv : RelV y v) : ∃ as, Reads s.heap v (tD t) as := by
  have key : ∀ {t : List Int} {ys : List L2.V}, RVs p m H (mapI t) ys → ys = t.map V.int := by
    intro t
    induction t with
    | nil =>
      intro ys r
      cases r
      rfl
    | cons i t ih =>
      intro ys r
      cases r with
      | cons r1 r2 =>
        cases r1
        rw [ih r2]
        rfl
  cases r with
  | tup sq rs =>
    have e := key rs
    subst e
    have d : ∀ t : List Int, DpAll X.K H (t.map V.int) (t.map PyData.int) := by
      intro t
      induction t with
      | nil => exact .nil
      | cons i t ih => exact .cons (.int i) ih
    exact Dp.reads I (tD t) _ v (.tup (by rw [hK]; exact sq) (d t)) rv
theorem tups_reads {pn : List (Addr × Obj)} {sg : L2.St} {H : Hp} {s : Shared} {m : Mp} (hK : X.K = p.K) (I : L2.Inv X pn sg H s) : ∀ {ts : List (List Int)} {ys : List L2.V} {vs : List Value}, RVs p m H (mapT ts) ys → Vals ys vs → ∃ as, ReadsAll s.heap vs (ts.map tD) as
  | [], _, _, r, rv => by
    cases r
    cases rv
    exact ⟨[], .nil⟩
  | t :: ts, _, _, r, rv => by
    cases r with
    | cons r1 r2 =>
      cases rv with
      | cons v1 v2 =>
        obtain ⟨as, h1⟩ := tup_reads hK I r1 v1
        obtain ⟨bs, h2⟩ := tups_reads hK I r2 v2
        exact ⟨_, .cons h1 h2⟩
theorem mapT_at : ∀ {ts : List (List Int)} {i : Nat} {t : List Int}, ts[i]? = some t → nth (mapT ts) i = some (.tup (mapI t))
  | [], _, _, e => by cases e
  | u :: ts, 0, t, e => by
    cases e
    rfl
  | u :: ts, i + 1, t, e => mapT_at (ts := ts) (i := i) (by simpa using e)
theorem mapT_len : ∀ ts : List (List Int), (mapT ts).length = ts.length
  | [] => rfl
  | _ :: ts => congrArg (· + 1) (mapT_len ts)
theorem vals_at : ∀ {ys : List L2.V} {vs : List Value} {i : Nat} {v : Value}, Vals ys vs → vs[i]? = some v → ∃ y, ys[i]? = some y ∧ RelV y v
  | _, _, _, _, .nil, e => by cases e
  | _, _, 0, _, .cons r _, e => by
    cases e
    exact ⟨_, rfl, r⟩
  | _, _, i + 1, _, .cons _ s, e => by
    obtain ⟨y, h1, h2⟩ := vals_at (i := i) s (by simpa using e)
    exact ⟨y, by simpa using h1, h2⟩
theorem row_of {pn : List (Addr × Obj)} {sg : L2.St} {H : Hp} {s : Shared} {m : Mp} (hK : X.K = p.K) (I : L2.Inv X pn sg H s) {ts : List (List Int)} {ys : List L2.V} {vs : List Value} {i : Nat} {v : Value} {h' : Heap} {d : List Int} {bs : List Addr} (r : RVs p m H (mapT ts) ys) (rv : Vals ys vs)
    (hi : vs[i]? = some v) (rd : Reads h' v (tD d) bs) (k : ∀ b o, s.heap.get? b = some o → h'.get? b = some o) : ∃ y, RelV y v ∧ RV p m H (.tup (mapI d)) y := by
  obtain ⟨y, hy, ry⟩ := vals_at rv hi
  have li : i < ts.length := by
    have := (List.getElem?_eq_some_iff.mp hi).1
    have l1 := r.length
    have l2 := rv.length
    rw [mapT_len] at l1
    omega
  obtain ⟨y2, hy2, rr⟩ := r.at (mapT_at (List.getElem?_eq_getElem li))
  rw [hy] at hy2
  cases hy2
  obtain ⟨as, h1⟩ := tup_reads hK I rr ry
  have h2 : Reads h' v (tD ts[i]) as := W.reads_keeps k h1
  have e := (Reads.unique h2 _ _ rd).1
  rw [← tD_inj e]
  exact ⟨y, ry, rr⟩
def rBest (p : Pd) (mx : Bool) : List V → Hp → VK → Prop := fun vs H Q => ∃ (a : Addr) (ys : List V) (m : Mp) (h : Hh) (xs : List IV) (E : XK), vs = [V.ref a] ∧ (SqT p.K H a ys ∨ H a = some (.lst ys)) ∧ RH p m h H ∧ RVs p m H xs ys ∧ Ok (RV p) p m H E (bestK mx xs h) Q
theorem best_ints {m : Mp} {h : Hh} {H : Hp} {E : XK} {Q : VK} {mx : Bool} {i : Int} {r : List Int} (t : RH p m h H) (e : intsL xs = some (i :: r)) (ok : Ok (RV p) p m H E (bestK mx xs h) Q) : Q (.int (match mx with
    | true => r.foldl max i
    | false => r.foldl min i)) H := by
  unfold bestK at ok
  rw [e] at ok
  cases mx with
  | true =>
    have q := Ok.int t (show Ok (RV p) p m H E (.ok (.int (maxF i r)) h) Q from ok)
    rw [maxF_eq] at q
    exact q
  | false =>
    have q := Ok.int t (show Ok (RV p) p m H E (.ok (.int (minF i r)) h) Q from ok)
    rw [minF_eq] at q
    exact q
theorem best_rows {m : Mp} {h : Hh} {H : Hp} {E : XK} {Q : VK} {mx : Bool} {xs : List IV} (e : intsL xs = none) (ok : Ok (RV p) p m H E (bestK mx xs h) Q) : ∃ t r, xs = mapT (t :: r) ∧ Ok (RV p) p m H E (.ok (.tup (mapI (match mx with
    | true => maxT t r
    | false => minT t r))) h) Q := by
  unfold bestK at ok
  rw [e] at ok
  dsimp only at ok
  cases q : tupsL xs with
  | none =>
    rw [q] at ok
    exact ok.elim
  | some ts =>
    rw [q] at ok
    cases ts with
    | nil => exact ok.elim
    | cons t r =>
      refine ⟨t, r, tupsL_map q, ?_⟩
      cases mx with
      | true => exact ok
      | false => exact ok
theorem reads_int {hp : Heap} {v : Value} {i : Int} {as : List Addr} (r : Reads hp v (.int i) as) : ∃ t, v = .int i t := by
  cases r
  exact ⟨_, rfl⟩
theorem cr_best (hK : X.K = p.K) (hc : X.calm = true) (hu : X.A.units + 65 < cLine) : CallR X (.builtin "min") (rBest p false) ∧ CallR X (.builtin "max") (rBest p true) := by
  have hd1 : ∀ n : Int, ∀ ns : List Int, PyData.depthAll (PyData.int n :: ns.map PyData.int) = 0 := fun n ns => ints_depth (n :: ns)
  have hd2 : ∀ (t : List Int) (ts : List (List Int)), PyData.depthAll (tD t :: ts.map tD) ≤ 1 := fun t ts => tD_depths (t :: ts)
  refine ⟨fun pn s sg H vs us Q I ru q => ?_, fun pn s sg H vs us Q I ru q => ?_⟩
  · obtain ⟨a, ys, m, h, xs, E, rfl, hT, rh, rx, ok⟩ := q
    cases Vals.ref1 ru
    have hh : X.A.handled = none := I.ok.hd hc
    cases e : intsL xs with
    | some ns =>
      cases ns with
      | nil =>
        unfold bestK at ok
        rw [e] at ok
        exact ok.elim
      | cons n ns =>
        have ey := intsL_ok e rx
        subst ey
        have qq := best_ints (mx := false) rh e ok
        have fin : ∀ (v : Value) (h' : Heap) (tk : Nat) (bs : List Addr), Reads h' v (W.minD (.int n) (ns.map .int)) bs → (∀ b o, s.heap.get? b = some o → h'.get? b = some o) → EP X pn sg Q v { s with heap := h', toks := tk } := fun v h' tk bs r k => by
          rw [W.minD_ints] at r
          obtain ⟨t, rfl⟩ := reads_int r
          exact ⟨.int (ns.foldl min n), H, I.kept (t' := tk) k, ⟨t, rfl⟩, qq⟩
        rcases hT with hT | hT
        · obtain ⟨its, r, ht, hz⟩ := I.tuple (by rw [hK]; exact hT)
          exact W.min_tuple_data hh ht (ints_reads (ns := n :: ns) (hp := s.heap) (by simpa using r)) (ints_alike (n :: ns)) (by rw [hd1]; omega) fun i v h' tk bs _ r k => fin v h' tk bs r k
        · obtain ⟨its, r, ht, hz⟩ := I.list (SqL.of hT)
          exact W.min_list_data hh ht.isList (ints_reads (ns := n :: ns) (hp := s.heap) (by simpa using r)) (ints_alike (n :: ns)) (by rw [hd1]; omega) fun i v h' tk bs _ r k => fin v h' tk bs r k
    | none =>
      obtain ⟨t, ts, ex, ok2⟩ := best_rows e ok
      subst ex
      have fin : ∀ (its : List Value), Vals ys its → ∀ (i : Nat) (v : Value) (h' : Heap) (tk : Nat) (bs : List Addr), its.toArray[i]? = some v → Reads h' v (W.minD (tD t) (ts.map tD)) bs → (∀ b o, s.heap.get? b = some o → h'.get? b = some o) → EP X pn sg Q v { s with heap := h', toks := tk } := fun its r i v h' tk bs hi rd k => by
        rw [minT_eq] at rd
        obtain ⟨y, ry, rr⟩ := row_of hK I rx r (by simpa using hi) rd k
        exact ⟨y, H, I.kept (t' := tk) k, ry, ok2 m H y Xt.refl rh rr⟩
      rcases hT with hT | hT
      · obtain ⟨its, r, ht, hz⟩ := I.tuple (by rw [hK]; exact hT)
        obtain ⟨as, ra⟩ := tups_reads hK I rx r
        exact W.min_tuple_data hh ht (by simpa using ra) (tD_alikeAll (t :: ts)) (by have := hd2 t ts; omega) fun i v h' tk bs hi rd k => fin its r i v h' tk bs hi rd k
      · obtain ⟨its, r, ht, hz⟩ := I.list (SqL.of hT)
        obtain ⟨as, ra⟩ := tups_reads hK I rx r
        exact W.min_list_data hh ht.isList (by simpa using ra) (tD_alikeAll (t :: ts)) (by have := hd2 t ts; omega) fun i v h' tk bs hi rd k => fin its r i v h' tk bs hi rd k
  · obtain ⟨a, ys, m, h, xs, E, rfl, hT, rh, rx, ok⟩ := q
    cases Vals.ref1 ru
    have hh : X.A.handled = none := I.ok.hd hc
    cases e : intsL xs with
    | some ns =>
      cases ns with
      | nil =>
        unfold bestK at ok
        rw [e] at ok
        exact ok.elim
      | cons n ns =>
        have ey := intsL_ok e rx
        subst ey
        have qq := best_ints (mx := true) rh e ok
        have fin : ∀ (v : Value) (h' : Heap) (tk : Nat) (bs : List Addr), Reads h' v (W.maxD (.int n) (ns.map .int)) bs → (∀ b o, s.heap.get? b = some o → h'.get? b = some o) → EP X pn sg Q v { s with heap := h', toks := tk } := fun v h' tk bs r k => by
          rw [W.maxD_ints] at r
          obtain ⟨t, rfl⟩ := reads_int r
          exact ⟨.int (ns.foldl max n), H, I.kept (t' := tk) k, ⟨t, rfl⟩, qq⟩
        rcases hT with hT | hT
        · obtain ⟨its, r, ht, hz⟩ := I.tuple (by rw [hK]; exact hT)
          exact W.max_tuple_data hh ht (ints_reads (ns := n :: ns) (hp := s.heap) (by simpa using r)) (ints_alike (n :: ns)) (by rw [hd1]; omega) fun i v h' tk bs _ r k => fin v h' tk bs r k
        · obtain ⟨its, r, ht, hz⟩ := I.list (SqL.of hT)
          exact W.max_list_data hh ht.isList (ints_reads (ns := n :: ns) (hp := s.heap) (by simpa using r)) (ints_alike (n :: ns)) (by rw [hd1]; omega) fun i v h' tk bs _ r k => fin v h' tk bs r k
    | none =>
      obtain ⟨t, ts, ex, ok2⟩ := best_rows e ok
      subst ex
      have fin : ∀ (its : List Value), Vals ys its → ∀ (i : Nat) (v : Value) (h' : Heap) (tk : Nat) (bs : List Addr), its.toArray[i]? = some v → Reads h' v (W.maxD (tD t) (ts.map tD)) bs → (∀ b o, s.heap.get? b = some o → h'.get? b = some o) → EP X pn sg Q v { s with heap := h', toks := tk } := fun its r i v h' tk bs hi rd k => by
        rw [maxT_eq] at rd
        obtain ⟨y, ry, rr⟩ := row_of hK I rx r (by simpa using hi) rd k
        exact ⟨y, H, I.kept (t' := tk) k, ry, ok2 m H y Xt.refl rh rr⟩
      rcases hT with hT | hT
      · obtain ⟨its, r, ht, hz⟩ := I.tuple (by rw [hK]; exact hT)
        obtain ⟨as, ra⟩ := tups_reads hK I rx r
        exact W.max_tuple_data hh ht (by simpa using ra) (tD_alikeAll (t :: ts)) (by have := hd2 t ts; omega) fun i v h' tk bs hi rd k => fin its r i v h' tk bs hi rd k
      · obtain ⟨its, r, ht, hz⟩ := I.list (SqL.of hT)
        obtain ⟨as, ra⟩ := tups_reads hK I rx r
        exact W.max_list_data hh ht.isList (by simpa using ra) (tD_alikeAll (t :: ts)) (by have := hd2 t ts; omega) fun i v h' tk bs hi rd k => fin its r i v h' tk bs hi rd k
theorem c_min (hK : X.K = p.K) (hc : X.calm = true) (hu : X.A.units + 65 < cLine) : CallR X (.builtin "min") (rdC p (bfn .min)) := CallR.wk ((call_min2 hc).or (cr_best hK hc hu).1) fun xs H Q q => by
  obtain ⟨m, h, as, E, rh, ra, o⟩ := q
  cases ra with
  | nil => cases o
  | cons r1 r2 =>
    cases r2 with
    | nil =>
      right
      obtain ⟨ys, e, o2⟩ := items_r (k := fun xs => bestK false xs h) (show Ok (RV p) p m H E (match items _ h with
        | some xs => bestK false xs h
        | none => .fail) Q from o)
      obtain ⟨l, vs, rfl, s, r2⟩ := items_ok rh r1 e
      exact ⟨l, vs, m, h, ys, E, rfl, s, rh, r2, o2⟩
    | cons r3 r4 =>
      cases r4 with
      | cons _ _ => cases o
      | nil =>
        left
        cases r1 <;> first | (cases o; done) | skip
        cases r3 <;> first | (cases o; done) | skip
        rename_i i j
        have o1 : Ok (RV p) p m H E (match ilt j i with
          | true => .ok (.int j) h
          | false => .ok (.int i) h) Q := o
        rw [ilt_eq] at o1
        refine ⟨i, j, rfl, ?_⟩
        by_cases z : j < i
        · rw [if_pos z]
          rw [decide_eq_true z] at o1
          exact Ok.int rh o1
        · rw [if_neg z]
          rw [decide_eq_false z] at o1
          exact Ok.int rh o1
theorem c_max (hK : X.K = p.K) (hc : X.calm = true) (hu : X.A.units + 65 < cLine) : CallR X (.builtin "max") (rdC p (bfn .max)) := CallR.wk ((call_max2 hc).or (cr_best hK hc hu).2) fun xs H Q q => by
  obtain ⟨m, h, as, E, rh, ra, o⟩ := q
  cases ra with
  | nil => cases o
  | cons r1 r2 =>
    cases r2 with
    | nil =>
      right
      obtain ⟨ys, e, o2⟩ := items_r (k := fun xs => bestK true xs h) (show Ok (RV p) p m H E (match items _ h with
        | some xs => bestK true xs h
        | none => .fail) Q from o)
      obtain ⟨l, vs, rfl, s, r2⟩ := items_ok rh r1 e
      exact ⟨l, vs, m, h, ys, E, rfl, s, rh, r2, o2⟩
    | cons r3 r4 =>
      cases r4 with
      | cons _ _ => cases o
      | nil =>
        left
        cases r1 <;> first | (cases o; done) | skip
        cases r3 <;> first | (cases o; done) | skip
        rename_i i j
        have o1 : Ok (RV p) p m H E (match ilt i j with
          | true => .ok (.int j) h
          | false => .ok (.int i) h) Q := o
        rw [ilt_eq] at o1
        refine ⟨i, j, rfl, ?_⟩
        by_cases z : j > i
        · rw [if_pos z]
          rw [decide_eq_true z] at o1
          exact Ok.int rh o1
        · rw [if_neg z]
          rw [decide_eq_false z] at o1
          exact Ok.int rh o1
theorem insT_perm (t : List Int) : ∀ ts : List (List Int), (insT t ts).Perm (t :: ts)
  | [] => List.Perm.refl _
  | u :: r => by
    unfold insT
    cases ltL u t with
    | true => exact ((insT_perm t r).cons u).trans (List.Perm.swap t u r)
    | false => exact List.Perm.refl _
theorem sortT_perm : ∀ ts : List (List Int), (sortT ts).Perm ts
  | [] => List.Perm.refl _
  | t :: r => (insT_perm t (sortT r)).trans ((sortT_perm r).cons t)
theorem ltL_dec (a b : List Int) : ltL a b = decide (a < b) := by
  rw [ltL_eq]
  exact W.dataLt_ints a b
theorem insT_pw (t : List Int) : ∀ ts : List (List Int), ts.Pairwise (· ≤ ·) → (insT t ts).Pairwise (· ≤ ·)
  | [], _ => by simp [insT]
  | u :: r, h => by
    unfold insT
    rw [List.pairwise_cons] at h
    rw [ltL_dec]
    by_cases e : u < t
    · rw [decide_eq_true e]
      refine List.pairwise_cons.mpr ⟨fun z hz => ?_, insT_pw t r h.2⟩
      rcases List.mem_cons.mp ((insT_perm t r).mem_iff.mp hz) with q | q
      · rw [q]
        exact List.le_of_lt e
      · exact h.1 z q
    · rw [decide_eq_false e]
      refine List.pairwise_cons.mpr ⟨fun z hz => ?_, List.pairwise_cons.mpr h⟩
      have e2 : t ≤ u := List.not_lt.mp e
      rcases List.mem_cons.mp hz with q | q
      · rw [q]; exact e2
      · exact List.le_trans e2 (h.1 z q)
theorem sortT_pw : ∀ ts : List (List Int), (sortT ts).Pairwise (· ≤ ·)
  | [] => .nil
  | t :: r => insT_pw t _ (sortT_pw r)
theorem mergeT_eq (ts : List (List Int)) : ts.mergeSort (W.dataLe false tD) = sortT ts := by
  have le_iff : ∀ a b : List Int, W.dataLe false tD a b = true ↔ a ≤ b := fun a b => by
    have e : W.dataLe false tD a b = !W.dataLt (tD b) (tD a) := rfl
    have e2 : W.dataLt (tD b) (tD a) = decide (b < a) := W.dataLt_ints b a
    rw [e, e2]
    simp [List.not_lt]
  have h1 : (ts.mergeSort (W.dataLe false tD)).Pairwise (· ≤ ·) := by
    refine List.Pairwise.imp (fun {a b} h => (le_iff a b).mp h) (List.pairwise_mergeSort (fun a b c h1 h2 => ?_) (fun a b => ?_) ts)
    · exact (le_iff a c).mpr (List.le_trans ((le_iff a b).mp h1) ((le_iff b c).mp h2))
    · rw [Bool.or_eq_true, le_iff, le_iff]
      exact List.le_total a b
  exact List.Perm.eq_of_pairwise (fun a b _ _ h1 h2 => List.le_antisymm h1 h2) h1 (sortT_pw ts) ((List.mergeSort_perm ts _).trans (sortT_perm ts).symm)
def rSortT (p : Pd) : List V → Hp → VK → Prop := fun vs H Q => ∃ (a : Addr) (ys : List V) (m : Mp) (h : Hh) (ts : List (List Int)) (E : XK), vs = [V.ref a] ∧ H a = some (.lst ys) ∧ RH p m h H ∧ RVs p m H (mapT ts) ys ∧ neT ts = true ∧ Ok (RV p) p m H E (newL (mapT (sortT ts)) h) Q
theorem cr_sortT (hK : X.K = p.K) (hu : X.A.units + 65 < cLine) : CallR X (.builtin "sorted") (rSortT p) := by
  intro pn s sg H vs us Q I ru q
  obtain ⟨a, ys, m, h, ts, E, rfl, hT, rh, rx, ne, ok⟩ := q
  cases Vals.ref1 ru
  obtain ⟨its, rv, hl, hz⟩ := I.list (SqL.of hT)
  have each : ∀ {ts : List (List Int)} {ys : List V} {its : List Value}, RVs p m H (mapT ts) ys → Vals ys its → W.EachIs (fun v t => ∃ y, RelV y v ∧ RV p m H (.tup (mapI t)) y) its ts := by
    intro ts
    induction ts with
    | nil =>
      intro ys its r v
      cases r
      cases v
      exact .nil
    | cons t ts ih =>
      intro ys its r v
      cases r with
      | cons r1 r2 =>
        cases v with
        | cons v1 v2 => exact .cons ⟨_, v1, r1⟩ (ih r2 v2)
  have back : ∀ {out : List Value} {us : List (List Int)}, W.EachIs (fun v t => ∃ y, RelV y v ∧ RV p m H (.tup (mapI t)) y) out us → ∃ ws, Vals ws out ∧ RVs p m H (mapT us) ws := by
    intro out us e
    induction e with
    | nil => exact ⟨[], .nil, .nil⟩
    | cons r _ ih =>
      obtain ⟨y, r1, r2⟩ := r
      obtain ⟨ws, h1, h2⟩ := ih
      exact ⟨y :: ws, .cons r1 h1, .cons r2 h2⟩
  have e1 := each rx rv
  have nes : ∀ {ts : List (List Int)}, neT ts = true → ∀ t ∈ ts, ∃ x r, t = x :: r := by
    intro ts
    induction ts with
    | nil => intro _ t ht; cases ht
    | cons u ts ih =>
      intro h t ht
      cases u with
      | nil => cases h
      | cons x r =>
        rcases List.mem_cons.mp ht with z | z
        · exact ⟨x, r, z⟩
        · exact ih h t z
  refine W.sorted_data (enc := tD) (bs := ts) hl.isList e1 (e1.mono fun v t ⟨y, r1, r2⟩ => tup_reads hK I r2 r1) (fun d hd d' hd' => ?_) (.inl fun d hd => ?_) ?_ (fun b _ => ?_) fun out hlen he => ?_
  · obtain ⟨x, _, rfl⟩ := List.mem_map.mp hd
    obtain ⟨y, _, rfl⟩ := List.mem_map.mp hd'
    exact tD_alike x y
  · obtain ⟨x, hx, rfl⟩ := List.mem_map.mp hd
    obtain ⟨i, r, rfl⟩ := nes ne x hx
    exact ⟨.int i, r.map .int, rfl⟩
  · rw [← e1.length, ← rv.length]
    exact hz
  · rw [tD_depth]
    omega
  · rw [mergeT_eq] at he
    obtain ⟨ws, h1, h2⟩ := back he
    obtain ⟨ep, he'⟩ := PyProof.Rows.sortedAll_at s.heap its out.toArray
    have hn : H (s.heap.objs.size + 1) = none := I.hok.fresh (Nat.le_succ _)
    have hlw : ws.length ≤ sizeLine := by
      rw [h1.length, hlen, ← e1.length, ← rv.length]
      exact hz
    refine ⟨.ref _, upd H (s.heap.objs.size + 1) (.lst ws), I.laid (t' := s.toks) (fun _ _ => PyProof.Rows.sortedAll_old) (Nat.le_succ _) ⟨hlw, out, ep, h1, he'⟩, rfl, Ok.newL rh h2 ok hn⟩
theorem c_sorted (hK : X.K = p.K) (hu : X.A.units + 65 < cLine) : CallR X (.builtin "sorted") (rdC p (bfn .sorted)) := CallR.wk (cr_sorted.or (cr_sortT hK hu)) fun xs H Q q => by
  obtain ⟨m, h, as, E, rh, ra, o⟩ := q
  obtain ⟨a, x, rfl, rfl, r1, o1⟩ := one_of (b := .sorted) ra (two_no (fun z => nomatch z) (fun z => nomatch z) (fun z => nomatch z)) o
  have o1' : Ok (RV p) p m H E (match lstOf a h with
    | some xs => match Nat.blt xs.length 64 with
      | true => match intsL xs with
        | some ns => newL (mapI (sortF ns)) h
        | none => sortK (tupsL xs) h
      | false => .fail
    | none => .fail) Q := o1
  cases e : lstOf a h with
  | none =>
    rw [e] at o1'
    cases o1'
  | some ys =>
    rw [e] at o1'
    obtain ⟨l, vs, rfl, s, r2⟩ := lstOf_ok rh r1 e
    cases e1 : Nat.blt ys.length 64 with
    | false =>
      simp only [e1] at o1'
      cases o1'
    | true =>
      simp only [e1] at o1'
      cases e2 : intsL ys with
      | none =>
        right
        simp only [e2] at o1'
        cases e3 : tupsL ys with
        | none =>
          rw [e3] at o1'
          exact o1'.elim
        | some ts =>
          rw [e3] at o1'
          unfold sortK at o1'
          dsimp only at o1'
          cases e4 : neT ts with
          | false =>
            rw [e4] at o1'
            exact o1'.elim
          | true =>
            rw [e4] at o1'
            have ex := tupsL_map e3
            subst ex
            exact ⟨l, vs, m, h, ts, E, rfl, s, rh, r2, e4, o1'⟩
      | some ns =>
        left
        simp only [e2] at o1'
        have e3 := intsL_ok e2 r2
        have l64 : ns.length < 64 := by
          have z1 : ys.length + 1 ≤ 64 := by
            have : Nat.ble (ys.length + 1) 64 = true := e1
            rwa [Nat.ble_eq] at this
          have z2 := r2.length
          rw [e3, List.length_map] at z2
          omega
        rw [hK]
        refine ⟨l, ns, rfl, by rw [← e3]; exact SqL.of s, l64, fun ns' q hp hw hq => ?_⟩
        have e4 : ns' = sortF ns := sorted_one (hp.trans (sortF_perm ns).symm) hw (sortF_pw ns)
        subst e4
        exact Ok.newL rh (mapI_rv _) o1' hq
end
end
end Rk
namespace Rk
noncomputable section
open PySem PySem.Spec PyProof.Rows L2
section
variable {g : Gd} {T : Tab} {p : Pd} {cf : Nat → List IV → Hh → R IV} {W : Wx} {c : Cc} {X : Cx}
def noSlice : Expr → Bool
  | .Slice .. => false
  | _ => true
theorem noSlice_ok {b : Expr} (h : noSlice b = true) : PlainIx b := by
  intro o i
  cases b <;> first | rfl | cases h
theorem place_ok {n : Nat} : ∀ {i : Int} {k : Nat}, place n i = some k → ixN n i = some k
  | .ofNat z, k, e => by
    have e1 : (match Nat.blt z n with
      | true => some z
      | false => none) = some k := e
    cases q : Nat.blt z n with
    | false =>
      rw [q] at e1
      cases e1
    | true =>
      rw [q] at e1
      cases e1
      have lt : z + 1 ≤ n := by
        have w : Nat.ble (z + 1) n = true := q
        rwa [Nat.ble_eq] at w
      have h0 : (0 : Int) ≤ (z : Int) := by omega
      have h1 : (z : Int) < (n : Int) := by omega
      show (if (0 : Int) ≤ (z : Int) then (if (z : Int) < (n : Int) then some (z : Int).toNat else none) else _) = _
      rw [if_pos h0, if_pos h1]
      rfl
  | .negSucc z, k, e => by
    have e1 : (match Nat.blt z n with
      | true => some (Nat.sub (Nat.sub n z) 1)
      | false => none) = some k := e
    cases q : Nat.blt z n with
    | false =>
      rw [q] at e1
      cases e1
    | true =>
      rw [q] at e1
      cases e1
      have lt : z + 1 ≤ n := by
        have w : Nat.ble (z + 1) n = true := q
        rwa [Nat.ble_eq] at w
      have h0 : ¬ (0 : Int) ≤ Int.negSucc z := by omega
      have h1 : -(n : Int) ≤ Int.negSucc z := by omega
      unfold ixN
      rw [if_neg h0, if_pos h1]
      have h2 : (Int.negSucc z + (n : Int)).toNat = n - z - 1 := by omega
      rw [h2]
      rfl
theorem itemAt_ok {K : Pd} {m : Mp} {H : Hp} {xs : List IV} {vs : List V} {i : Int} {v : IV} (r : RVs K m H xs vs) (e : itemAt xs i = some v) : ∃ V, atI vs i = some V ∧ RV K m H v V := by
  rw [itemAt_eq] at e
  cases q : place xs.length i with
  | none =>
    rw [q] at e
    cases e
  | some k =>
    rw [q] at e
    obtain ⟨V, h1, h2⟩ := r.at e
    refine ⟨V, ?_, h2⟩
    unfold atI
    rw [← r.length, place_ok q]
    exact h1
theorem IxR.wk {r r' : R2} (h : IxR X r) (i : ∀ x y H Q, r' x y H Q → r x y H Q) : IxR X r' := fun a b pn s sg H x y v u Q I ra rb q e => h a b pn s sg H x y v u Q I ra rb (i x y H Q q) e
theorem place_lt {n : Nat} {i : Int} {k : Nat} (e : place n i = some k) : k < n := by
  cases i with
  | ofNat z =>
    have e1 : (match Nat.blt z n with
      | true => some z
      | false => none) = some k := e
    cases q : Nat.blt z n with
    | false =>
      rw [q] at e1
      cases e1
    | true =>
      rw [q] at e1
      cases e1
      have w : Nat.ble (k + 1) n = true := q
      rw [Nat.ble_eq] at w
      exact w
  | negSucc z =>
    have e1 : (match Nat.blt z n with
      | true => some (Nat.sub (Nat.sub n z) 1)
      | false => none) = some k := e
    cases q : Nat.blt z n with
    | false =>
      rw [q] at e1
      cases e1
    | true =>
      rw [q] at e1
      cases e1
      have w : Nat.ble (z + 1) n = true := q
      rw [Nat.ble_eq] at w
      show n - z - 1 < n
      omega
theorem itemQ_eq (q : List IV) (i : Int) : itemQ q i = itemAt (revR q) i := by
  rw [itemAt_eq, ← lenR_rev]
  unfold itemQ
  cases e : place (lenR q) i with
  | none => rfl
  | some k =>
    have l := place_lt e
    have b : Nat.blt k (lenR q) = true := by
      show Nat.ble (k + 1) (lenR q) = true
      rw [Nat.ble_eq]
      exact l
    have z := nthQ_eq q k
    unfold nthQ at z
    rw [b] at z
    exact z
def rIxK : R2 := fun x y H Q => ∃ a v, x = .ref a ∧ DGet H a y (some v) ∧ Q v H
theorem ix_dict (hu : X.A.units + 65 < cLine) : IxR X rIxK := by
  intro value slice pn s sg H x y v u Q I rx ry h hs
  obtain ⟨a, w, rfl, gt, q⟩ := h
  cases rx
  have hT := dict_typeIs I gt
  unfold subscriptTail
  refine wpAny_bind ?_
  rw [getitemInPython_of_ne hT.not_modules]
  refine wpAny_bind (wpAny_specialOf hT PySem.F.slot_dict_getitem.lookup ?_)
  have fin : wpAny (model X.prog X.w) X.A (subscripted slice false (.ref a) u) (fun r s₃ => wpAny (model X.prog X.w) X.A (letTemporaryGo value (.ref a) r >>= fun _ => pure r) (EP X pn sg Q) X.xe s₃) X.xe s := by
    rw [hs]
    exact wpAny_operating (wpAny_mono (d_getItem (by omega) I gt ry fun w' s3 I3 rw' => (⟨w, H, I3, rw', q⟩ : EP X pn sg Q w' s3)) (fun r s₃ h₃ => wpAny_bind (wpAny_letTemporaryGo (wpAny_pure h₃))) fun _ _ x => x)
  first
    | exact wpAny_pure (wpAny_bind fin)
    | exact wpAny_bind fin
    | exact wpAny_bind (wpAny_pure (wpAny_bind fin))
theorem idx_ok (hK : X.K = p.K) (hu : X.A.units + 65 < cLine) : IxR X (rdO p Rk.idx) := IxR.wk ((ix_list.or ix_tup).or (ix_dict hu)) fun x y H Q hq => by
  obtain ⟨m, h, a, b, E, rh, ra, rb, ok⟩ := hq
  cases ra <;> first | (cases ok; done) | skip
  · rename_i xs l vs s r
    left
    right
    cases rb <;> first | (cases ok; done) | skip
    rename_i i
    obtain ⟨v, e, o⟩ := ofO_some (p := p) (show Ok (RV p) p m H E (ofO (itemAt xs i) h) Q from ok)
    obtain ⟨V, e1, rv⟩ := itemAt_ok r e
    exact ⟨l, vs, i, V, rfl, rfl, by rw [hK]; exact s, e1, o m H V Xt.refl rh rv⟩
  · rename_i n l em
    simp only [Rk.idx] at ok
    cases g : h.get n with
    | none =>
      rw [g] at ok
      cases ok
    | some o =>
      rw [g] at ok
      cases o with
      | inst _ _ => cases ok
      | dict d =>
        right
        have ok : Ok (RV p) p m H E (idxK d b h) Q := ok
        unfold idxK at ok
        cases hk : dkey d.t b with
        | false =>
          rw [hk] at ok
          cases ok
        | true =>
          rw [hk] at ok
          obtain ⟨v, e, o⟩ := ofO_some (p := p) (show Ok (RV p) p m H E (ofO (dlook b d.kvs) h) Q from ok)
          obtain ⟨oo, h1, h2, _⟩ := dget_ok rh em g hk rb
          obtain ⟨V, e1, rv⟩ := h2 v e
          subst e1
          exact ⟨l, V, rfl, h1, o m H V Xt.refl rh rv⟩
      | lst xs =>
        left
        left
        cases rb <;> first | (cases ok; done) | skip
        rename_i i
        obtain ⟨vs, hv, r⟩ := rh.lst em g
        obtain ⟨v, e, o⟩ := ofO_some (p := p) (show Ok (RV p) p m H E (ofO (itemQ xs i) h) Q from ok)
        rw [itemQ_eq] at e
        obtain ⟨V, e1, rv⟩ := itemAt_ok r e
        exact ⟨l, vs, i, V, rfl, rfl, SqL.of hv, e1, o m H V Xt.refl rh rv⟩
theorem n_idx (C : CxOk g T p cf W c X) {a b : Expr} {Ma Mb : Rho → Hh → R IV} {pos} (hs : noSlice b = true) (ha : PE X a (rdE p W Ma)) (hb : PE X b (rdE p W Mb)) :
    PE X (.Subscript a b pos) (rdE p W fun r h => (Ma r h).bd fun x h => (Mb r h).bd fun y h => Rk.idx x y h) := by
  refine PE.wk (pe_ix (idx_ok C.K C.un) ha hb (noSlice_ok hs)) fun σ H Q q => ?_
  obtain ⟨m, r, h, s, t, o⟩ := q
  exact ⟨m, r, h, s, t, o.bd.mono fun V1 H1 ⟨m1, h1, v1, e1, rh1, rv1, ok1⟩ => ⟨m1, r, h1, s.mono e1, rh1, ok1.bd.mono fun V2 H2 ⟨m2, h2, v2, e2, rh2, rv2, ok2⟩ => ⟨m2, h2, v1, v2, _, rh2, rv1.mono e2, rv2, ok2⟩⟩⟩
theorem bnd_eq (n d : Nat) (o : Option Int) : bnd n d o = HT.sIx n d o := by
  cases o with
  | none => rfl
  | some v =>
    unfold HT.sIx
    cases v with
    | ofNat k =>
      have h0 : ¬ ((k : Int) < 0) := by omega
      show _ = (if (k : Int) < 0 then _ else min (k : Int).toNat n)
      rw [if_neg h0]
      show (match Nat.ble k n with
        | true => k
        | false => n) = min k n
      cases q : Nat.ble k n with
      | true =>
        have : k ≤ n := by rwa [Nat.ble_eq] at q
        rw [Nat.min_eq_left this]
      | false =>
        have : ¬ k ≤ n := fun z => by
          rw [← Nat.ble_eq, q] at z
          cases z
        rw [Nat.min_eq_right (by omega)]
    | negSucc k =>
      have h0 : Int.negSucc k < 0 := Int.negSucc_lt_zero k
      show _ = (if Int.negSucc k < 0 then (Int.negSucc k + (n : Int)).toNat else _)
      rw [if_pos h0]
      show n - (k + 1) = _
      omega
theorem cut_rv {K : Pd} {m : Mp} {H : Hp} {xs : List IV} {vs : List V} (r : RVs K m H xs vs) (lo hi : Option Int) : RVs K m H (cut xs lo hi) (cutV vs lo hi) := by
  unfold cut cutV
  rw [bnd_eq, bnd_eq, r.length]
  exact (r.drop _).take _
theorem cut_whole {vs : List V} {lo hi : Option Int} (h : HT.sIx vs.length 0 lo = 0 ∧ HT.sIx vs.length vs.length hi = vs.length) : cutV vs lo hi = vs := by
  unfold cutV
  rw [h.1, h.2]
  simp
def rdS (p : Pd) : V → Option Int → Option Int → Hp → VK → Prop := fun x lo hi H Q => ∃ m h a E, RH p m h H ∧ RV p m H a x ∧ Ok (RV p) p m H E (slc a lo hi h) Q
theorem SlR.wk {r r' : V → Option Int → Option Int → Hp → VK → Prop} (h : SlR X r) (i : ∀ x lo hi H Q, r' x lo hi H Q → r x lo hi H Q) : SlR X r' := fun pn s sg H x v vl vu lo hi sl Q I a b c' d q => h pn s sg H x v vl vu lo hi sl Q I a b c' d (i x lo hi H Q q)
theorem slc_ok (hK : X.K = p.K) : SlR X (rdS p) := SlR.wk (sl_list.or sl_tupA) fun x lo hi H Q hq => by
  obtain ⟨m, h, a, E, rh, ra, ok⟩ := hq
  cases ra <;> first | (cases ok; done) | skip
  · rename_i xs l vs s r
    right
    refine ⟨l, vs, rfl, by rw [hK]; exact s, fun z => ?_, fun _ q hq => Ok.tup rh (cut_rv r lo hi) ok hq⟩
    have rr := cut_rv r lo hi
    rw [cut_whole z] at rr
    exact Ok.tupS rh s rr ok
  · rename_i n l em
    left
    simp only [slc] at ok
    cases g : h.get n with
    | none =>
      rw [g] at ok
      cases ok
    | some o =>
      rw [g] at ok
      cases o with
      | dict _ => cases ok
      | inst _ _ => cases ok
      | lst xs =>
        obtain ⟨vs, hv, r⟩ := rh.lst em g
        exact ⟨l, vs, rfl, SqL.of hv, fun q hq => Ok.newL rh (cut_rv r lo hi) ok hq⟩
  · rename_i xs l vs s r
    left
    exact ⟨l, vs, rfl, by rw [hK]; exact s.sq, fun q hq => Ok.newL rh (cut_rv r lo hi) ok hq⟩
theorem po_none' : PO X none (rdP p W fun _ h => .ok none h) := ⟨fun pn s sg H Q I q => po_none.run pn s sg H Q I (by
  obtain ⟨m, r, h, s, t, o⟩ := q
  exact o m H none Xt.refl t rfl)⟩
def intP (x : IV) (h : Hh) : R (Option Int) := match x with
  | .int i => .ok (some i) h
  | _ => .fail
theorem po_some' {e : Expr} {M : Rho → Hh → R IV} (he : PE X e (rdE p W M)) : PO X (some e) (rdP p W fun r h => (M r h).bd intP) := ⟨fun pn s sg H Q I q => (po_some he).run pn s sg H Q I (by
  obtain ⟨m, r, h, s, t, o⟩ := q
  refine ⟨m, r, h, s, t, o.bd.mono fun V1 H1 z => ?_⟩
  obtain ⟨m1, h1, v1, e1, rh1, rv1, ok1⟩ := z
  cases rv1 <;> first | (cases ok1; done) | skip
  rename_i i
  exact ⟨i, rfl, ok1 m1 H1 (some i) Xt.refl rh1 rfl⟩)⟩
theorem n_sl (C : CxOk g T p cf W c X) {e : Expr} {lo hi : Option Expr} {M : Rho → Hh → R IV} {Ml Mh : Rho → Hh → R (Option Int)} {p2 pos} (he : PE X e (rdE p W M)) (hl : PO X lo (rdP p W Ml)) (hh : PO X hi (rdP p W Mh)) :
    PE X (.Subscript e (.Slice lo hi none p2) pos) (rdE p W fun r h => (M r h).bd fun x h => (Ml r h).bd fun l h => (Mh r h).bd fun u h => slc x l u h) := by
  refine PE.wk (pe_slice (slc_ok C.K) he hl hh) fun σ H Q q => ?_
  obtain ⟨m, r, h, s, t, o⟩ := q
  refine ⟨m, r, h, s, t, o.bd.mono fun V1 H1 z => ?_⟩
  obtain ⟨m1, h1, v1, e1, rh1, rv1, ok1⟩ := z
  refine ⟨m1, r, h1, s.mono e1, rh1, ok1.bd.mono fun V2 H2 z => ?_⟩
  obtain ⟨m2, h2, v2, e2, rh2, rv2, ok2⟩ := z
  refine ⟨m2, r, h2, (s.mono e1).mono e2, rh2, ok2.bd.mono fun V3 H3 z => ?_⟩
  obtain ⟨m3, h3, v3, e3, rh3, rv3, ok3⟩ := z
  cases rv2
  cases rv3
  exact ⟨m3, h3, v1, _, rh3, (rv1.mono e2).mono e3, ok3⟩
theorem n_slr {e : Expr} {M : Rho → Hh → R IV} {k p1 p2 p3 pos} (hK : X.K = p.K) (he : PE X e (rdE p W M)) : PE X (.Subscript e (.Slice none none (some (.UnaryOp .USub (.Constant (.int 1) k p1) p2)) p3) pos) (rdE p W fun r h => (M r h).bd slcR) := by
  refine PE.wk (pe_revL he) fun σ H Q q => ?_
  obtain ⟨m, r, h, s, t, o⟩ := q
  refine ⟨m, r, h, s, t, o.bd.mono fun V1 H1 z => ?_⟩
  obtain ⟨m1, h1, v1, e1, rh1, rv1, ok1⟩ := z
  cases rv1 <;> first | (cases ok1; done) | skip
  rename_i n l em
  simp only [slcR] at ok1
  cases g : h1.get n with
  | none =>
    rw [g] at ok1
    cases ok1
  | some o =>
    rw [g] at ok1
    cases o with
    | dict _ => cases ok1
    | inst _ _ => cases ok1
    | lst xs =>
      obtain ⟨vs, hv, r⟩ := rh1.lst em g
      have ok1 : Ok (RV p) p m1 H1 (fun c d H => W c d σ H) (newQ (revR xs) h1) Q := ok1
      rw [newQ_eq, revR_eq (revR xs)] at ok1
      exact ⟨l, vs, rfl, SqL.of hv, fun q hq => Ok.newL rh1 r.rev ok1 hq⟩
def tyN : Ty → String
  | .int => "int"
  | .bool => "bool"
  | .str => "str"
  | .tuple => "tuple"
  | .list => "list"
  | _ => ""
def tyS : Ty → Str
  | .int => "int"
  | .bool => "bool"
  | .str => "str"
  | .tuple => "tuple"
  | .list => "list"
  | _ => ""
def plainTy : Ty → Bool
  | .own _ => false
  | .blt _ => false
  | _ => true
def srcN (a : IV) (h : Hh) : Option String := match a with
  | .non => some "NoneType"
  | .bl _ => some "bool"
  | .int _ => some "int"
  | .str _ => some "str"
  | .tup _ => some "tuple"
  | .ref n => match h.get n with
    | some (.lst _) => some "list"
    | _ => none
  | _ => none
theorem srcN_ok {m : Mp} {h : Hh} {H : Hp} {a : IV} {x : V} {n : String} {K : Pd} (rh : RH K m h H) (ra : RV K m H a x) (e : srcN a h = some n) : TyX K H x (.type n) := by
  cases ra <;> first | (cases e; done) | skip
  · cases e; exact .base .non
  · cases e; exact .base (.bl _)
  · cases e; exact .base (.int _)
  · cases e; exact .base (.str _)
  · cases e
    rename_i s r
    rcases s with (s | ⟨o, s⟩) | ⟨o, its, k, s1, s2, _⟩
    · exact .base (.tup s)
    · exact .fTuple s
    · exact .kTuple s1 s2
  · rename_i k l em
    simp only [srcN] at e
    cases g : h.get k with
    | none =>
      rw [g] at e
      cases e
    | some o =>
      rw [g] at e
      cases o with
      | dict _ => cases e
      | inst _ _ => cases e
      | lst xs =>
        cases e
        obtain ⟨vs, hv, r⟩ := rh.lst em g
        exact .base (.lst hv)
theorem tyIs_ok {m : Mp} {h : Hh} {H : Hp} {a : IV} {x : V} {t : Ty} {b : Bool} {K : Pd} {bs : List Nat} (rh : RH K m h H) (ra : RV K m H a x) (pt : plainTy t = true) (e : tyIs bs a t h = some b) : ∃ n, srcN a h = some n ∧ kitB n (tyN t) = some b := by
  cases ra with
  | exn => cases t <;> first | (cases e; done) | cases pt
  | rol _ _ => cases e
  | fn _ => cases e
  | rng _ => cases e
  | non => cases t <;> first | (cases pt; done) | (cases e; exact ⟨_, rfl, by decide +kernel⟩)
  | bl _ => cases t <;> first | (cases pt; done) | (cases e; exact ⟨_, rfl, by decide +kernel⟩)
  | int _ => cases t <;> first | (cases pt; done) | (cases e; exact ⟨_, rfl, by decide +kernel⟩)
  | str _ => cases t <;> first | (cases pt; done) | (cases e; exact ⟨_, rfl, by decide +kernel⟩)
  | tup _ _ => cases t <;> first | (cases pt; done) | (cases e; exact ⟨_, rfl, by decide +kernel⟩)
  | ref em =>
    rename_i k l
    simp only [tyIs] at e
    simp only [srcN]
    cases g : h.get k with
    | none =>
      rw [g] at e
      cases e
    | some o =>
      rw [g] at e
      cases o with
      | dict _ => cases e
      | inst _ _ => cases e
      | lst xs => cases t <;> first | (cases pt; done) | (cases e; exact ⟨_, rfl, by decide +kernel⟩)
theorem pe_ty (C : CxOk g T p cf W c X) {t : Ty} {pos : Pos} (pt : plainTy t = true) (hf : g.free.contains (tyS t) = true) (hg : glB c.sc (tyS t) = true) : PE X (.Name (tyS t) pos) (tC (.ty (tyN t))) := by
  have z := C.free _ hf
  have y := gl_ok C hg
  cases t <;> first | (cases pt; done) | skip
  all_goals exact pe_bltn y z (by decide +kernel) rfl (by decide) (by decide)
theorem n_isi1 (C : CxOk g T p cf W c X) {t : Ty} {a : Expr} {Ma : Rho → Hh → R IV} {q q2 pos : Pos} (pt : plainTy t = true) (hf : g.free.contains (tyS t) = true) (hg : glB c.sc (tyS t) = true) (hfi : g.free.contains "isinstance" = true) (hgi : glB c.sc "isinstance" = true)
    (hst : star a = false) (ha : PE X a (rdE p W Ma)) : PE X (.Call (.Name "isinstance" q) [a, .Name (tyS t) q2] [] pos) (rdE p W fun r h => (Ma r h).bd fun x h => obl (tyAny T.exs x h [t]) h) := by
  refine PE.wk (pe_callB (e := a) (es := [.Name (tyS t) q2]) (id := "isinstance") call_isi (gl_ok C hgi) (C.free _ hfi) (by decide +kernel) (pa_cons ha (pa_cons (pe_ty C pt hf hg) pa_nil rfl) (star_cons hst)) (by decide) (by decide) (star_cons hst) rfl) fun σ H Q q => ?_
  obtain ⟨m, r, h, s, t1, o⟩ := q
  refine ⟨m, r, h, s, t1, o.bd.mono fun V1 H1 z => ?_⟩
  obtain ⟨m1, h1, v1, e1, rh1, rv1, ok1⟩ := z
  obtain ⟨b, e2, q2⟩ := obl_ok rh1 ok1
  have e3 : tyIs T.exs v1 t h1 = some b := by
    unfold tyAny at e2
    cases z : tyIs T.exs v1 t h1 with
    | none =>
      rw [z] at e2
      cases e2
    | some k =>
      rw [z] at e2
      cases k <;> exact e2
  obtain ⟨n, e4, e5⟩ := tyIs_ok rh1 rv1 pt e3
  show rIsi X.K [V1, .ty (tyN t)] H1 Q
  exact ⟨V1, .ty (tyN t), .type n, .type (tyN t), b, rfl, .ty _, by rw [C.K]; exact srcN_ok rh1 rv1 e4, kit_ty e5, q2⟩
theorem n_isi2 (C : CxOk g T p cf W c X) {t t2 : Ty} {a : Expr} {Ma : Rho → Hh → R IV} {q q2 q3 q4 pos : Pos} {k : Nat} (pt : plainTy t = true) (hf : g.free.contains (tyS t) = true) (hg : glB c.sc (tyS t) = true)
    (pt2 : plainTy t2 = true) (hf2 : g.free.contains (tyS t2) = true) (hg2 : glB c.sc (tyS t2) = true) (hfi : g.free.contains "isinstance" = true) (hgi : glB c.sc "isinstance" = true)
    (hst : star a = false) (ha : PE X a (rdE p W Ma)) : PE X (.Call (.Name "isinstance" q) [a, .Tuple [.Name (tyS t) q2, .Name (tyS t2) q3] k q4] [] pos) (rdE p W fun r h => (Ma r h).bd fun x h => obl (tyAny T.exs x h [t, t2]) h) := by
  refine PE.wk (pe_callB (e := a) (es := [.Tuple [.Name (tyS t) q2, .Name (tyS t2) q3] k q4]) (id := "isinstance") call_isiT (gl_ok C hgi) (C.free _ hfi) (by decide +kernel)
    (pa_cons ha (pa_cons (pe_tup (pa_cons (pe_ty C pt hf hg) (pa_cons (pe_ty C pt2 hf2 hg2) pa_nil rfl) rfl)) pa_nil rfl) (star_cons hst)) (by decide) (by decide) (star_cons hst) rfl) fun σ H Q q => ?_
  obtain ⟨m, r, h, s, t1, o⟩ := q
  refine ⟨m, r, h, s, t1, o.bd.mono fun V1 H1 z => ?_⟩
  obtain ⟨m1, h1, v1, e1, rh1, rv1, ok1⟩ := z
  obtain ⟨b, e2, q2'⟩ := obl_ok rh1 ok1
  refine ⟨(by show 2 ≤ sizeLine; decide), fun tp htp => ?_⟩
  have x1 : Xt m1 H1 m1 (upd H1 tp (.tup [.ty (tyN t), .ty (tyN t2)])) := Xt.laid htp
  have rh2 := rh1.laid (u := .tup [.ty (tyN t), .ty (tyN t2)]) htp
  have q3' : Q (.bl b) (upd H1 tp (.tup [.ty (tyN t), .ty (tyN t2)])) := by
    have e9 : obl (tyAny T.exs v1 h1 [t, t2]) h1 = .ok (.bl b) h1 := by rw [e2]; rfl
    rw [e9] at ok1
    exact ok1 m1 _ _ x1 rh2 (.bl b)
  show rIsiT X.K [V1, .ref tp] (upd H1 tp (.tup [.ty (tyN t), .ty (tyN t2)])) Q
  cases z : tyIs T.exs v1 t h1 with
  | none =>
    unfold tyAny at e2
    rw [z] at e2
    cases e2
  | some k1 =>
    obtain ⟨n, e4, e5⟩ := tyIs_ok rh1 rv1 pt z
    refine ⟨V1, tp, _, .type n, [.type (tyN t), .type (tyN t2)], b, rfl, upd_same, .cons (.ty _) (.cons (.ty _) .nil), by rw [C.K]; exact srcN_ok rh2 (rv1.mono x1) e4, ?_, q3'⟩
    unfold tyAny at e2
    rw [z] at e2
    cases k1 with
    | true =>
      cases e2
      exact kitAny_cons (kit_ty e5) (fun w => nomatch w) fun _ => rfl
    | false =>
      have e2' : tyAny T.exs v1 h1 [t2] = some b := e2
      unfold tyAny at e2'
      cases z2 : tyIs T.exs v1 t2 h1 with
      | none =>
        rw [z2] at e2'
        cases e2'
      | some k2 =>
        obtain ⟨n2, e6, e7⟩ := tyIs_ok rh1 rv1 pt2 z2
        rw [e4] at e6
        cases e6
        rw [z2] at e2'
        refine kitAny_cons (kit_ty e5) (fun _ => ?_) fun w => nomatch w
        cases k2 with
        | true =>
          cases e2'
          exact kitAny_cons (kit_ty e7) (fun w => nomatch w) fun _ => rfl
        | false =>
          cases e2'
          exact kitAny_cons (kit_ty e7) (fun _ => kitAny_nil) fun w => nomatch w
end
end
end Rk
namespace Rk
noncomputable section
open PySem PySem.Spec PyProof.Rows L2
def SqB (t : Bool) (K : PySem.W.Frag) (H : Hp) (a : Addr) (xs : List V) : Prop := match t with
  | true => SqT K H a xs
  | false => SqL K H a xs
def AtB (t : Bool) (h : Heap) (it a : Addr) (i : Nat) : Prop := match t with
  | true => h.IsTupleIter it a i
  | false => h.IsListIter it a i
def InB (t : Bool) (h : Heap) (a : Addr) (us : Array Value) : Prop := match t with
  | true => h.IsTuple a us
  | false => h.IsList a us
def obB (t : Bool) (a : Addr) : Obj := match t with
  | true => { cls := .type "tuple_iterator", data := .fields #[.ref a, .int 0 0] }
  | false => { cls := .type "list_iterator", data := .fields #[.ref a, .int 0 0] }
theorem InB.at' {t : Bool} {h h' : Heap} {a : Addr} {us : Array Value} (p : InB t h a us) (k : ∀ b o, h.get? b = some o → h'.get? b = some o) : InB t h' a us := by
  cases t with
  | true => exact Heap.IsTuple.at p fun o e => k a o e
  | false => exact Heap.IsList.at p fun o e => k a o e
theorem AtB.at' {t : Bool} {h h' : Heap} {it a : Addr} {i : Nat} (p : AtB t h it a i) (k : ∀ o, h.get? it = some o → h'.get? it = some o) : AtB t h' it a i := by
  cases t with
  | true => exact Heap.IsTupleIter.at p k
  | false => exact Heap.IsListIter.at p k
theorem AtB.obj {t : Bool} {h : Heap} {it a : Addr} {i : Nat} (p : AtB t h it a i) : ∃ o, h.get? it = some o ∧ ∀ v, o.data ≠ .cell v := by
  cases t with
  | true =>
    obtain ⟨o, e, c, d⟩ := p
    exact ⟨o, e, fun v z => by rw [d] at z; cases z⟩
  | false =>
    obtain ⟨o, e, c, d⟩ := p
    exact ⟨o, e, fun v z => by rw [d] at z; cases z⟩
theorem AtB.new {t : Bool} {h : Heap} {it a : Addr} (e : h.get? it = some (obB t a)) : AtB t h it a 0 := by
  cases t with
  | true => exact ⟨_, e, rfl, rfl⟩
  | false => exact ⟨_, e, rfl, rfl⟩
theorem bgB (t : Bool) (a : Addr) (us : Array Value) : Begins (.ref a) (obB t a) fun h => InB t h a us := by
  cases t with
  | true => exact begins_tuple a us
  | false => exact begins_list a us
theorem drB {prog : Program} {w : World} {A : Around} (hh : A.handled = none) (t : Bool) (it a : Addr) (ne : a ≠ it) (us : Array Value) :
    Draws prog w A it [it, a] us.size (fun i v => us[i]? = some v) fun i h => AtB t h it a i ∧ InB t h a us := by
  cases t with
  | true => exact Draws.tuple hh it a ne us
  | false => exact Draws.list hh it a ne us
section
variable {X : Cx} {pins : List (Addr × Obj)} {σ : L2.St} {H : Hp} {s : Shared}
theorem SqB.run {t : Bool} {a : Addr} {xs : List V} (I : L2.Inv X pins σ H s) (q : SqB t X.K H a xs) : ∃ us, Vals xs us ∧ InB t s.heap a us.toArray := by
  cases t with
  | true =>
    obtain ⟨us, rv, p, _⟩ := I.tuple q
    exact ⟨us, rv, p⟩
  | false =>
    obtain ⟨us, rv, p, _⟩ := I.list q
    exact ⟨us, rv, p.isList⟩
theorem SqB.inj {t : Bool} {a : Addr} {xs ys : List V} (I : L2.Inv X pins σ H s) (q : SqB t X.K H a xs) (r : SqB t X.K H a ys) : xs = ys := by
  cases t with
  | true => exact I.tuple_inj q r
  | false => exact I.list_inj q r
theorem SqB.lt {t : Bool} {a : Addr} {us : Array Value} (p : InB t s.heap a us) : a < s.heap.objs.size := by
  cases t with
  | true =>
    obtain ⟨o, e, _⟩ := p
    exact Heap.lt_size e
  | false =>
    obtain ⟨o, e, _⟩ := p
    exact Heap.lt_size e
end
def ItB (t : Bool) (K : PySem.W.Frag) (a : Addr) : L2.It :=
  ⟨fun i H => ∃ (xs : List V) (x : V), SqB t K H a xs ∧ xs[i]? = some x, fun i H x H' => H' = H ∧ ∀ xs, SqB t K H a xs → xs[i]? = some x, fun i H => ∃ xs, SqB t K H a xs ∧ xs.length = i⟩
theorem tnB {P : Program} {w : World} {K : PySem.W.Frag} {tg : Expr} (t : Bool) (a it : Addr) : Turn P w K tg (ItB t K a) [it] it (fun i h => AtB t h it a i) := by
  cases t with
  | true =>
    have T := turn_tuple (P := P) (w := w) (K := K) (tg := tg) a it
    exact { mem := T.mem, obj := T.obj, keep := T.keep, item := T.item, self := T.self, done := fun X h1 h2 h3 h4 i pins s σ H E I hf st hg => T.done X h1 h2 h3 h4 i pins s σ H E I hf st (by
      obtain ⟨xs, q, l⟩ := hg
      exact ⟨xs, q, Nat.le_of_eq l⟩) }
  | false =>
    have T := turn_list (P := P) (w := w) (K := K) (tg := tg) a it
    exact { mem := T.mem, obj := T.obj, keep := T.keep, item := T.item, self := T.self, done := fun X h1 h2 h3 h4 i pins s σ H E I hf st hg => T.done X h1 h2 h3 h4 i pins s σ H E I hf st (by
      obtain ⟨xs, q, l⟩ := hg
      exact ⟨xs, q, Nat.le_of_eq l⟩) }
def IeB (t : Bool) (K : PySem.W.Frag) (a : Addr) : L2.It :=
  ⟨fun i H => ∃ (xs : List V) (x : V), SqB t K H a xs ∧ xs[i]? = some x, fun i H v H' => ∃ T x, v = .ref T ∧ H T = none ∧ H' = upd H T (.tup [.int (i : Nat), x]) ∧ ∀ xs, SqB t K H a xs → xs[i]? = some x, fun i H => ∃ xs : List V, SqB t K H a xs ∧ xs.length = i⟩
theorem in1_h {A : Around} (h : A.handled = none) : A.in1.handled = none := h
theorem teB {P : Program} {w : World} {K : PySem.W.Frag} {es : List Expr} {kq : Nat} {qp : Pos} (t : Bool) (a e it : Addr) :
    Turn P w K (.Tuple es kq qp) (IeB t K a) [e, it] e (fun i h => (∃ old, IsEnum h e it ((i : Nat) : Int) old) ∧ AtB t h it a i ∧ e ≠ it ∧ a ≠ it ∧ e ≠ a) where
  mem := by simp
  obj := fun i h st b hb => by
    obtain ⟨⟨old, he⟩, hit, _⟩ := st
    have e' : b = e ∨ b = it := by simpa using hb
    rcases e' with z | z
    · rw [z]; exact ⟨_, he, fun v q => nomatch q⟩
    · rw [z]; exact hit.obj
  keep := fun i h h' st k => by
    obtain ⟨⟨old, he⟩, hi, hn⟩ := st
    exact ⟨⟨old, k e (by simp) _ he⟩, hi.at' fun o q => k it (by simp) o q, hn⟩
  item := by
    intro X hP hw hK hc i pins s σ H E I hf st hg
    subst hP hw hK
    obtain ⟨⟨old, he⟩, hit, hne, hai, hea⟩ := st
    obtain ⟨xs, x, hq, hx⟩ := hg
    obtain ⟨us, rv, p⟩ := SqB.run I hq
    obtain ⟨u0, hu0, ru0⟩ := rv.get hx
    have hel : e < s.heap.objs.size := Heap.lt_size he
    have hil : it < s.heap.objs.size := by
      obtain ⟨o, q, _⟩ := hit.obj
      exact Heap.lt_size q
    have hlt : i < us.toArray.size := by
      rw [List.size_toArray]
      exact (List.getElem?_eq_some_iff.mp hu0).1
    have D := drB (prog := X.prog) (w := X.w) (A := X.A.in1) (in1_h (I.ok.hd hc)) t it a hai us.toArray
    refine wpAny_pyNext_enum_itemD D he ⟨hit, p⟩ hlt hne (by simp [hne, hea]) fun u h' tk hu ho hit' hT hsz hk => ?_
    have hu : us.toArray[i]? = some u := hu
    have euu : u = u0 := by
      rw [List.getElem?_toArray, hu0] at hu
      exact (Option.some.inj hu).symm
    subst euu
    refine ⟨_, rfl, wpAny_letOwnedTupleGo_enum (s := { s with heap := h', toks := tk + 1 }) ho fun h2 he' sb => ?_⟩
    have hT2 : h2.get? s.heap.objs.size = some { cls := .type "tuple", data := .seq #[.int i tk, u] } := (sb.2 _ (Nat.ne_of_gt hel)).trans hT
    have new : ObjOk X.prog X.w (upd H s.heap.objs.size (.tup [.int (i : Nat), x])) h2 s.heap.objs.size (.tup [.int (i : Nat), x]) :=
      ⟨by show 2 ≤ sizeLine; decide, [.int i tk, u], .cons ⟨_, rfl⟩ (.cons ru0 .nil), ⟨_, hT2, rfl, _, rfl⟩⟩
    have I1 : L2.Inv X pins σ (upd H s.heap.objs.size (.tup [.int (i : Nat), x])) { s with heap := h2, toks := tk + 1 } :=
      I.turnedNew (ch := [e, it]) (fun b ob hb q => (sb.2 b (fun z => hb (by simp [z]))).trans (hk b ob (fun z => hb (by simp [z])) (fun z => hb (by simp [z])) q)) hf (Nat.le_refl _) new
    refine ⟨.ref s.heap.objs.size, _, I1, rfl, ⟨_, x, rfl, I.hok.fresh (Nat.le_refl _), rfl, fun ys hy => by rw [SqB.inj I hy hq]; exact hx⟩, ⟨⟨u, ?_⟩, hit'.1.at' fun o q => (sb.2 it (Ne.symm hne)).trans q, hne, hai, hea⟩, fun b hb => ?_⟩
    · have e1 : ((i + 1 : Nat) : Int) = (i : Int) + 1 := by omega
      rw [e1]; exact he'
    · have hb' : b < s.heap.objs.size := by
        have e' : b = e ∨ b = it := by simpa using hb
        rcases e' with z | z
        · rw [z]; exact hel
        · rw [z]; exact hil
      rw [upd_ne (Nat.ne_of_lt hb')]
      exact (hf b hb).1
  done := by
    intro X hP hw hK hc i pins s σ H E I hf st hg
    subst hP hw hK
    obtain ⟨⟨old, he⟩, hit, hne, hai, hea⟩ := st
    obtain ⟨xs, hq, hx⟩ := hg
    obtain ⟨us, rv, p⟩ := SqB.run I hq
    obtain ⟨f0, f1, f2, f3, f4, f5⟩ := hf it (by simp)
    have hl := rv.length
    have en : us.toArray.size = i := by
      rw [List.size_toArray, ← hl]
      exact hx
    have D := drB (prog := X.prog) (w := X.w) (A := X.A.in1) (in1_h (I.ok.hd hc)) t it a hai us.toArray
    exact wpAny_pyNext_enum_endD D he (by rw [en]; exact ⟨hit, p⟩) fun h' eb => ⟨rfl, I.turned (t' := s.toks) (fun b o hb q => eb b o hb q) f0 f1 f3 f4 f5⟩
  self := fun A i s Q E st h => by
    obtain ⟨⟨_, he⟩, _⟩ := st
    exact wpAny_pyIter_enum he h
theorem meets_en {v : Value} {o : Obj} {G : Heap → Prop} (B : Begins v o G) :
    Meets (Builtin.«enumerate.__new__» ⟨[.type "enumerate", v], []⟩) (fun _ R s => G s.heap ∧
      R (.ok (.ret (.ref (s.heap.push o).objs.size))) { s with heap := (s.heap.push o).push { cls := .type "enumerate", data := .fields #[.none, .bool false, .ref s.heap.objs.size, rawInt 0, .none, .none] } }) :=
  .of_wp fun prog w A R s hh => by
    obtain ⟨hp, g, d, tk, os⟩ := s
    obtain ⟨h1, h⟩ := hh
    have hsub := sub_enumerate
    have q1 : ∀ {A' : Around} {E : Value → Shared → Prop} {Q : Value → Shared → Prop}, Q (.ref hp.objs.size) ⟨hp.push o, g, d, tk, os⟩ → wpAny (model prog w) A' (pyIter v) Q E ⟨hp, g, d, tk, os⟩ :=
      fun q => B.iter prog w _ _ ⟨hp, g, d, tk, os⟩ _ h1 q
    wp_walk using q1
    refine wpAny_stack_any fun st => wpAny_pure ?_
    split
    · rename_i c _ _ _ _ _
      cases (c == Value.type "enumerate")
      · wp_walk using q1
        exact ⟨_, rfl, h⟩
      · wp_walk using q1
        exact ⟨_, rfl, h⟩
    · wp_walk using q1
      exact ⟨_, rfl, h⟩
theorem en_begins {prog : Program} {w : World} {A : Around} {E : Value → Shared → Prop} {s : Shared} {v : Value} {o : Obj} {G : Heap → Prop} {Q : Value → Shared → Prop} (B : Begins v o G) (h1 : G s.heap)
    (h : ∀ h', IsEnum h' (s.heap.objs.size + 1) s.heap.objs.size 0 .none → h'.get? s.heap.objs.size = some o → (∀ b o, s.heap.get? b = some o → h'.get? b = some o) → Q (.ref (s.heap.objs.size + 1)) { s with heap := h' }) :
    wpAny (model prog w) A (call (.type "enumerate") [v]) Q E s := by
  refine callType_new F.called_enumerate (by decide) (F.typeCall_enumerate_1 _) (F.newCall_enumerate_1 _) (fun obj => F.args_object_init_2 obj _) F.entry_enumerate_new (meets_en B) ⟨h1, ?_⟩
  have hz : (s.heap.push o).objs.size = s.heap.objs.size + 1 := Heap.size_push ..
  show _ ∧ _
  rw [hz]
  have he : IsEnum ((s.heap.push o).push { cls := .type "enumerate", data := .fields #[.none, .bool false, .ref s.heap.objs.size, rawInt 0, .none, .none] }) (s.heap.objs.size + 1) s.heap.objs.size 0 .none := by
    have := Heap.get?_push_size (s.heap.push o) (o := { cls := .type "enumerate", data := .fields #[.none, .bool false, .ref s.heap.objs.size, rawInt 0, .none, .none] }) rfl
    rw [hz] at this
    exact this
  exact ⟨⟨_, he, rfl⟩, h _ he (Heap.get?_push_of_some _ (Heap.get?_push_size _ B.free)) fun b o x => Heap.get?_push_of_some _ (Heap.get?_push_of_some _ x)⟩
def IzB (t u : Bool) (K : PySem.W.Frag) (a b : Addr) : L2.It :=
  ⟨fun i H => ∃ (xs ys : List V) (x y : V), SqB t K H a xs ∧ SqB u K H b ys ∧ xs[i]? = some x ∧ ys[i]? = some y,
    fun i H v H' => ∃ T x y, v = .ref T ∧ H T = none ∧ H' = upd H T (.tup [x, y]) ∧ (∀ xs, SqB t K H a xs → xs[i]? = some x) ∧ ∀ ys, SqB u K H b ys → ys[i]? = some y,
    fun i H => ∃ xs ys : List V, SqB t K H a xs ∧ SqB u K H b ys ∧ i ≤ xs.length ∧ i ≤ ys.length ∧ (i = xs.length ∨ i = ys.length)⟩
theorem tzB {P : Program} {w : World} {K : PySem.W.Frag} {es : List Expr} {kq : Nat} {qp : Pos} (t u : Bool) {a b z TI TO i1 i2 : Addr} (S : ZipSep2 z TI TO i1 i2 [i1, a] [i2, b]) (ha : a ≠ i1) (hb : b ≠ i2) :
    Turn P w K (.Tuple es kq qp) (IzB t u K a b) [z, TI, TO, i1, i2] z (fun i h => IsZip h z TI TO .none ∧ IsTupOf2 h TI (.ref i1) (.ref i2) ∧ (∃ x y, IsTupOf2 h TO x y) ∧ AtB t h i1 a i ∧ AtB u h i2 b i) where
  mem := by simp
  obj := fun i h st c hc => by
    obtain ⟨hz, hTI, ⟨x, y, hTO⟩, h1, h2⟩ := st
    have e' : c = z ∨ c = TI ∨ c = TO ∨ c = i1 ∨ c = i2 := by simpa using hc
    rcases e' with q | q | q | q | q
    · rw [q]; exact ⟨_, hz, fun v q => nomatch q⟩
    · rw [q]; exact ⟨_, hTI, fun v q => nomatch q⟩
    · rw [q]; exact ⟨_, hTO, fun v q => nomatch q⟩
    · rw [q]; exact h1.obj
    · rw [q]; exact h2.obj
  keep := fun i h h' st k => by
    obtain ⟨hz, hTI, ⟨x, y, hTO⟩, h1, h2⟩ := st
    exact ⟨k z (by simp) _ hz, k TI (by simp) _ hTI, ⟨x, y, k TO (by simp) _ hTO⟩, h1.at' fun o q => k i1 (by simp) o q, h2.at' fun o q => k i2 (by simp) o q⟩
  item := by
    intro X hP hw hK hc i pins s σ H E I hf st hg
    subst hP hw hK
    obtain ⟨hz, hTI, ⟨x0, y0, hTO⟩, h1, h2⟩ := st
    obtain ⟨xs, ys, x, y, hqx, hqy, hx, hy⟩ := hg
    obtain ⟨us, rv, p⟩ := SqB.run I hqx
    obtain ⟨us2, rv2, p2⟩ := SqB.run I hqy
    obtain ⟨u0, hu0, ru0⟩ := rv.get hx
    obtain ⟨w0, hw0, rw0⟩ := rv2.get hy
    have lt1 : i < us.toArray.size := by
      rw [List.size_toArray]
      exact (List.getElem?_eq_some_iff.mp hu0).1
    have lt2 : i < us2.toArray.size := by
      rw [List.size_toArray]
      exact (List.getElem?_eq_some_iff.mp hw0).1
    have hzl : z < s.heap.objs.size := Heap.lt_size hz
    have D1 := drB (prog := X.prog) (w := X.w) (A := X.A.in1) (in1_h (I.ok.hd hc)) t i1 a ha us.toArray
    have D2 := drB (prog := X.prog) (w := X.w) (A := X.A.in1) (in1_h (I.ok.hd hc)) u i2 b hb us2.toArray
    refine wpAny_pyNext_zipD2_item S D1 D2 hz hTI hTO ⟨h1, p⟩ ⟨h2, p2⟩ lt1 lt2 fun ua ub h' tk hua hub z' TO' st1' st2' hT hsz hk => ?_
    have hua : us.toArray[i]? = some ua := hua
    have hub : us2.toArray[i]? = some ub := hub
    have e1 : ua = u0 := by
      rw [List.getElem?_toArray, hu0] at hua
      exact (Option.some.inj hua).symm
    have e2 : ub = w0 := by
      rw [List.getElem?_toArray, hw0] at hub
      exact (Option.some.inj hub).symm
    subst e1 e2
    refine ⟨_, rfl, wpAny_letOwnedTupleGo_zip (s := { s with heap := h', toks := tk }) z' fun h3 z'' sb => ?_⟩
    have hT2 : h3.get? s.heap.objs.size = some { cls := .type "tuple", data := .seq #[ua, ub] } := (sb.2 _ (Nat.ne_of_gt hzl)).trans hT
    have new : ObjOk X.prog X.w (upd H s.heap.objs.size (.tup [x, y])) h3 s.heap.objs.size (.tup [x, y]) :=
      ⟨by show 2 ≤ sizeLine; decide, [ua, ub], .cons ru0 (.cons rw0 .nil), ⟨_, hT2, rfl, _, rfl⟩⟩
    have I1 : L2.Inv X pins σ (upd H s.heap.objs.size (.tup [x, y])) { s with heap := h3, toks := tk } :=
      I.turnedNew (t' := tk) (ch := [z, TI, TO, i1, i2]) (fun c o hb q => (sb.2 c (fun q' => hb (by simp [q']))).trans (hk c o (fun q' => hb (by simp [q'])) (fun q' => hb (by simp [q'])) (fun q' => hb (by simp [q'])) (fun q' => hb (by simp [q'])) q)) hf (Nat.le_refl _) new
    refine ⟨.ref s.heap.objs.size, _, I1, rfl, ⟨_, x, y, rfl, I.hok.fresh (Nat.le_refl _), rfl, fun l hl => by rw [SqB.inj I hl hqx]; exact hx, fun l hl => by rw [SqB.inj I hl hqy]; exact hy⟩, ⟨z'', ?_, ⟨ua, ub, ?_⟩, ?_, ?_⟩, fun c hcm => ?_⟩
    · exact (sb.2 _ S.TIz).trans (hk _ _ S.TIz S.TITO S.TIi1 S.TIi2 hTI)
    · exact (sb.2 _ S.TOz).trans TO'
    · exact st1'.1.at' fun o q => (sb.2 _ (Ne.symm S.zi1)).trans q
    · exact st2'.1.at' fun o q => (sb.2 _ (Ne.symm S.zi2)).trans q
    · have hlt : c < s.heap.objs.size := by
        have e' : c = z ∨ c = TI ∨ c = TO ∨ c = i1 ∨ c = i2 := by simpa using hcm
        rcases e' with q | q | q | q | q
        · rw [q]; exact hzl
        · rw [q]; exact Heap.lt_size hTI
        · rw [q]; exact Heap.lt_size hTO
        · rw [q]; obtain ⟨_, e1, _⟩ := h1.obj; exact Heap.lt_size e1
        · rw [q]; obtain ⟨_, e1, _⟩ := h2.obj; exact Heap.lt_size e1
      rw [upd_ne (Nat.ne_of_lt hlt)]
      exact (hf c hcm).1
  done := by
    intro X hP hw hK hc i pins s σ H E I hf st hg
    subst hP hw hK
    obtain ⟨hz, hTI, ⟨x0, y0, hTO⟩, h1, h2⟩ := st
    obtain ⟨xs, ys, hqx, hqy, l1, l2, hend⟩ := hg
    obtain ⟨us, rv, p⟩ := SqB.run I hqx
    obtain ⟨us2, rv2, p2⟩ := SqB.run I hqy
    have n1 : us.toArray.size = xs.length := by
      rw [List.size_toArray, ← rv.length]
    have n2 : us2.toArray.size = ys.length := by
      rw [List.size_toArray, ← rv2.length]
    have D1 := drB (prog := X.prog) (w := X.w) (A := X.A.in1) (in1_h (I.ok.hd hc)) t i1 a ha us.toArray
    have D2 := drB (prog := X.prog) (w := X.w) (A := X.A.in1) (in1_h (I.ok.hd hc)) u i2 b hb us2.toArray
    exact wpAny_pyNext_zipD2_end S D1 D2 hz hTI hTO ⟨h1, p⟩ ⟨h2, p2⟩ (by rw [n1]; exact l1) (by rw [n2]; exact l2) (by rw [n1, n2]; exact hend) fun h' tk hk => ⟨rfl, I.turnedL (t' := tk) (ch := [z, TI, TO, i1, i2]) (fun c o hb q =>
      hk c o (fun q' => hb (by simp [q'])) (fun q' => hb (by simp [q'])) (fun q' => hb (by simp [q'])) (fun q' => hb (by simp [q'])) q) hf⟩
  self := fun A i s Q E st h => wpAny_pyIter_zip st.1 h
end
end Rk
namespace Rk
noncomputable section
open PySem PySem.Spec PyProof.Rows L2
structure SimOk (p : Pd) (J : L2.It) (Z : Nat → Ir → Mp → Hp → Prop) : Prop where
  mono : ∀ i k m H m' H', Z i k m H → Xt m H m' H' → Z i k m' H'
  stop : ∀ i k m h H, Z i k m H → RH p m h H → nxt k h = .stop → J.stop i H
  yld : ∀ i k m h H v k', Z i k m H → RH p m h H → nxt k h = .yld v k' → J.go i H ∧ ∀ x H', J.yld i H x H' → Xt m H m H' ∧ RH p m h H' ∧ RV p m H' v x ∧ Z (i + 1) k' m H'
def RI (p : Pd) : Mp → Hp → Ir → L2.It → Prop := fun m H k J => ∃ Z, SimOk p J Z ∧ Z 0 k m H
abbrev rdI (p : Pd) (W : Wx) (M : Rho → Hh → R Ir) : TI := rdG (RI p) p W M
def Src (p : Pd) (t : Bool) (a : Addr) (i : Nat) (s : Sc) (m : Mp) (H : Hp) : Prop := match s with
  | .tup xs => t = true ∧ ∃ vs, SqT p.K H a vs ∧ RVs p m H xs (vs.drop i) ∧ i ≤ vs.length
  | .lst n j => t = false ∧ m n = some a ∧ j = i
theorem Src.mono {p : Pd} {t : Bool} {a : Addr} {i : Nat} {s : Sc} {m m' : Mp} {H H' : Hp} (q : Src p t a i s m H) (x : Xt m H m' H') : Src p t a i s m' H' := by
  cases s with
  | tup xs =>
    obtain ⟨e, vs, s1, r, l⟩ := q
    exact ⟨e, vs, x.sqT s1, r.mono x, l⟩
  | lst n j =>
    obtain ⟨e, e1, e2⟩ := q
    exact ⟨e, x.mp _ _ e1, e2⟩
theorem Src.stop {p : Pd} {t : Bool} {a : Addr} {i : Nat} {s : Sc} {m : Mp} {h : Hh} {H : Hp} (q : Src p t a i s m H) (r : RH p m h H) (e : nxs s h = .stop) : ∃ vs, SqB t p.K H a vs ∧ vs.length = i := by
  cases s with
  | tup xs =>
    obtain ⟨e0, vs, s1, rv, l⟩ := q
    subst e0
    cases xs with
    | cons x xs => cases e
    | nil =>
      refine ⟨vs, s1, ?_⟩
      have z := rv.length
      rw [List.length_drop] at z
      have z' : 0 = vs.length - i := z
      omega
  | lst n j =>
    obtain ⟨e0, e1, e2⟩ := q
    subst e0 e2
    unfold nxs at e
    dsimp only at e
    cases g : h.get n with
    | none =>
      rw [g] at e
      cases e
    | some o =>
      rw [g] at e
      cases o with
      | lst xs =>
        obtain ⟨vs, hv, rv⟩ := r.lst e1 g
        refine ⟨vs, .inl (.inl hv), ?_⟩
        dsimp only at e
        rw [nthQ_eq, lenR_rev] at e
        cases g2 : nth (revR xs) j with
        | some x =>
          rw [g2] at e
          cases e
        | none =>
          rw [g2] at e
          dsimp only at e
          cases g3 : Nat.beq (revR xs).length j with
          | false =>
            rw [g3] at e
            cases e
          | true =>
            rw [← rv.length]
            exact Nat.eq_of_beq_eq_true g3
      | dict _ => cases e
      | inst _ _ => cases e
theorem Src.yld {p : Pd} {t : Bool} {a : Addr} {i : Nat} {s s' : Sc} {m : Mp} {h : Hh} {H : Hp} {v : IV} (q : Src p t a i s m H) (r : RH p m h H) (e : nxs s h = .yld v s') :
    ∃ vs x, SqB t p.K H a vs ∧ vs[i]? = some x ∧ RV p m H v x ∧ Src p t a (i + 1) s' m H := by
  cases s with
  | tup xs =>
    obtain ⟨e0, vs, s1, rv, l⟩ := q
    subst e0
    cases xs with
    | nil => cases e
    | cons x xs =>
      cases e
      obtain ⟨V, hV, rV⟩ := RVs.at (i := 0) rv rfl
      have hV2 : vs[i]? = some V := by
        rw [List.getElem?_drop] at hV
        exact hV
      refine ⟨vs, V, s1, hV2, rV, rfl, vs, s1, ?_, ?_⟩
      · have z := rv.drop 1
        rw [List.drop_drop] at z
        exact z
      · have := (List.getElem?_eq_some_iff.mp hV2).1
        omega
  | lst n j =>
    obtain ⟨e0, e1, e2⟩ := q
    subst e0 e2
    unfold nxs at e
    dsimp only at e
    cases g : h.get n with
    | none =>
      rw [g] at e
      cases e
    | some o =>
      rw [g] at e
      cases o with
      | lst xs =>
        obtain ⟨vs, hv, rv⟩ := r.lst e1 g
        dsimp only at e
        rw [nthQ_eq, lenR_rev] at e
        cases g2 : nth (revR xs) j with
        | none =>
          rw [g2] at e
          dsimp only at e
          cases g3 : Nat.beq (revR xs).length j <;> (rw [g3] at e; cases e)
        | some x =>
          rw [g2] at e
          cases e
          obtain ⟨V, hV, rV⟩ := rv.at g2
          exact ⟨vs, V, .inl (.inl hv), hV, rV, rfl, e1, rfl⟩
      | dict _ => cases e
      | inst _ _ => cases e
theorem sim_one {p : Pd} {t : Bool} {a : Addr} : SimOk p (ItB t p.K a) fun i k m H => ∃ s, k = .one s ∧ Src p t a i s m H where
  mono := fun i k m H m' H' ⟨s, e, q⟩ x => ⟨s, e, q.mono x⟩
  stop := fun i k m h H ⟨s, e, q⟩ r n => by
    subst e
    have n' : nxs s h = .stop := by
      unfold nxt at n
      dsimp only at n
      cases g : nxs s h with
      | stop => rfl
      | yld v s' =>
        rw [g] at n
        cases n
      | fail =>
        rw [g] at n
        cases n
    exact q.stop r n'
  yld := fun i k m h H v k' ⟨s, e, q⟩ r n => by
    subst e
    unfold nxt at n
    dsimp only at n
    cases g : nxs s h with
    | stop =>
      rw [g] at n
      cases n
    | fail =>
      rw [g] at n
      cases n
    | yld v1 s' =>
      rw [g] at n
      cases n
      obtain ⟨vs, x, s1, hx, rv, q'⟩ := q.yld r g
      refine ⟨⟨vs, x, s1, hx⟩, fun x' H' ⟨e1, e2⟩ => ?_⟩
      subst e1
      have e3 := e2 vs s1
      rw [hx] at e3
      cases e3
      exact ⟨Xt.refl, r, rv, s', rfl, q'⟩
theorem sim_en {p : Pd} {t : Bool} {a : Addr} : SimOk p (IeB t p.K a) fun i k m H => ∃ s, k = .en i s ∧ Src p t a i s m H where
  mono := fun i k m H m' H' ⟨s, e, q⟩ x => ⟨s, e, q.mono x⟩
  stop := fun i k m h H ⟨s, e, q⟩ r n => by
    subst e
    have n' : nxs s h = .stop := by
      unfold nxt at n
      dsimp only at n
      cases g : nxs s h with
      | stop => rfl
      | yld v s' =>
        rw [g] at n
        cases n
      | fail =>
        rw [g] at n
        cases n
    exact q.stop r n'
  yld := fun i k m h H v k' ⟨s, e, q⟩ r n => by
    subst e
    unfold nxt at n
    dsimp only at n
    cases g : nxs s h with
    | stop =>
      rw [g] at n
      cases n
    | fail =>
      rw [g] at n
      cases n
    | yld v1 s' =>
      rw [g] at n
      cases n
      obtain ⟨vs, x, s1, hx, rv, q'⟩ := q.yld r g
      refine ⟨⟨vs, x, s1, hx⟩, fun x' H' ⟨T, y, e1, e2, e3, e4⟩ => ?_⟩
      subst e1 e3
      have e5 := e4 vs s1
      rw [hx] at e5
      cases e5
      have xt : Xt m H m (upd H T (.tup [.int (i : Nat), x])) := Xt.laid e2
      exact ⟨xt, r.laid e2, .tup (.inl (.inl upd_same)) (.cons (.int _) (.cons (rv.mono xt) .nil)), s', rfl, q'.mono xt⟩
theorem SqB.len {t : Bool} {X : Cx} {H : Hp} {a : Addr} : True := trivial
theorem sim_zi {p : Pd} {t u : Bool} {a b : Addr} : SimOk p (IzB t u p.K a b) fun i k m H => ∃ s s2, k = .zi s s2 ∧ Src p t a i s m H ∧ Src p u b i s2 m H where
  mono := fun i k m H m' H' ⟨s, s2, e, q, q2⟩ x => ⟨s, s2, e, q.mono x, q2.mono x⟩
  stop := fun i k m h H ⟨s, s2, e, q, q2⟩ r n => by
    subst e
    unfold nxt at n
    dsimp only at n
    cases g : nxs s h with
    | fail =>
      rw [g] at n
      cases n
    | stop =>
      rw [g] at n
      obtain ⟨vs, s1, l⟩ := q.stop r g
      dsimp only at n
      cases g2 : nxs s2 h with
      | fail =>
        rw [g2] at n
        cases n
      | stop =>
        obtain ⟨ws, s3, l3⟩ := q2.stop r g2
        exact ⟨vs, ws, s1, s3, Nat.le_of_eq l.symm, Nat.le_of_eq l3.symm, .inl l.symm⟩
      | yld v s' =>
        obtain ⟨ws, x, s3, hx, _⟩ := q2.yld r g2
        exact ⟨vs, ws, s1, s3, Nat.le_of_eq l.symm, Nat.le_of_lt (List.getElem?_eq_some_iff.mp hx).1, .inl l.symm⟩
    | yld v s' =>
      rw [g] at n
      obtain ⟨vs, x, s1, hx, _⟩ := q.yld r g
      dsimp only at n
      cases g2 : nxs s2 h with
      | fail =>
        rw [g2] at n
        cases n
      | yld v s' =>
        rw [g2] at n
        cases n
      | stop =>
        obtain ⟨ws, s3, l3⟩ := q2.stop r g2
        exact ⟨vs, ws, s1, s3, Nat.le_of_lt (List.getElem?_eq_some_iff.mp hx).1, Nat.le_of_eq l3.symm, .inr l3.symm⟩
  yld := fun i k m h H v k' ⟨s, s2, e, q, q2⟩ r n => by
    subst e
    unfold nxt at n
    dsimp only at n
    cases g : nxs s h with
    | fail =>
      rw [g] at n
      cases n
    | stop =>
      rw [g] at n
      dsimp only at n
      cases g2 : nxs s2 h <;> (rw [g2] at n; cases n)
    | yld v1 s' =>
      rw [g] at n
      obtain ⟨vs, x, s1, hx, rv, q'⟩ := q.yld r g
      dsimp only at n
      cases g2 : nxs s2 h with
      | fail =>
        rw [g2] at n
        cases n
      | stop =>
        rw [g2] at n
        cases n
      | yld v2 s2' =>
        rw [g2] at n
        cases n
        obtain ⟨ws, y, s3, hy, rw2, q2'⟩ := q2.yld r g2
        refine ⟨⟨vs, ws, x, y, s1, s3, hx, hy⟩, fun x' H' ⟨T, x1, y1, e1, e2, e3, e4, e5⟩ => ?_⟩
        subst e1 e3
        have e6 := e4 vs s1
        rw [hx] at e6
        cases e6
        have e7 := e5 ws s3
        rw [hy] at e7
        cases e7
        have xt : Xt m H m (upd H T (.tup [x, y])) := Xt.laid e2
        exact ⟨xt, r.laid e2, .tup (.inl (.inl upd_same)) (.cons (rv.mono xt) (.cons (rw2.mono xt) .nil)), s', s2', rfl, q'.mono xt, q2'.mono xt⟩
theorem sim_rng {p : Pd} {lo : Int} {n : Nat} : SimOk p (Itr lo n) fun i k m H => i ≤ n ∧ k = .rng (lo + (i : Nat)) 1 (n - i) where
  mono := fun _ _ _ _ _ _ q _ => q
  stop := fun i k m h H ⟨l, e⟩ r g => by
    subst e
    unfold nxt at g
    dsimp only at g
    cases z : n - i with
    | zero =>
      show n ≤ i
      omega
    | succ j =>
      rw [z] at g
      cases g
  yld := fun i k m h H v k' ⟨l, e⟩ r g => by
    subst e
    unfold nxt at g
    dsimp only at g
    cases z : n - i with
    | zero =>
      rw [z] at g
      cases g
    | succ j =>
      rw [z] at g
      cases g
      refine ⟨show i < n by omega, fun x H' ⟨e1, e2⟩ => ?_⟩
      subst e1 e2
      refine ⟨Xt.refl, r, .int _, by omega, ?_⟩
      have a1 : n - (i + 1) = j := by omega
      rw [a1]
      have a2 : Int.add (lo + (i : Nat)) 1 = lo + ((i + 1 : Nat) : Int) := by
        show lo + (i : Int) + 1 = _
        omega
      rw [a2]
theorem sim_rngC {p : Pd} {lo c : Int} {n : Nat} : SimOk p (Itc lo c n) fun i k m H => i ≤ n ∧ k = .rng (lo + (i : Nat) * c) c (n - i) where
  mono := fun _ _ _ _ _ _ q _ => q
  stop := fun i k m h H ⟨l, e⟩ r g => by
    subst e
    unfold nxt at g
    dsimp only at g
    cases z : n - i with
    | zero =>
      show n ≤ i
      omega
    | succ j =>
      rw [z] at g
      cases g
  yld := fun i k m h H v k' ⟨l, e⟩ r g => by
    subst e
    unfold nxt at g
    dsimp only at g
    cases z : n - i with
    | zero =>
      rw [z] at g
      cases g
    | succ j =>
      rw [z] at g
      cases g
      refine ⟨show i < n by omega, fun x H' ⟨e1, e2⟩ => ?_⟩
      subst e1 e2
      refine ⟨Xt.refl, r, .int _, by omega, ?_⟩
      have a1 : n - (i + 1) = j := by omega
      rw [a1]
      have a2 : Int.add (lo + (i : Nat) * c) c = lo + ((i + 1 : Nat) : Int) * c := by
        show lo + (i : Int) * c + c = _
        have : ((i + 1 : Nat) : Int) = (i : Int) + 1 := by omega
        rw [this, Int.add_mul]
        omega
      rw [a2]
section
variable {g : Gd} {T : Tab} {p : Pd} {cf : Nat → List IV → Hh → R IV} {W : Wx} {c : Cc} {X : Cx} {tg : Expr}
theorem RI.one {m : Mp} {H : Hp} {t : Bool} {a : Addr} {s : Sc} (q : Src p t a 0 s m H) : RI p m H (.one s) (ItB t p.K a) := ⟨_, sim_one, s, rfl, q⟩
theorem Src.tup0 {m : Mp} {H : Hp} {a : Addr} {xs : List IV} {vs : List V} (s : SqT p.K H a vs) (r : RVs p m H xs vs) : Src p true a 0 (.tup xs) m H := ⟨rfl, vs, s, r, Nat.zero_le _⟩
theorem pie_seq {pins : List (Addr × Obj)} {σ : L2.St} {H : Hp} {s : Shared} {R : L2.It → Hp → Prop} {t : Bool} {a : Addr} {xs : List V} (I : L2.Inv X pins σ H s) (q : SqB t X.K H a xs) (r : R (ItB t X.K a) H) :
    wpAny (model X.prog X.w) X.A (pyIter (.ref a)) (PIE X pins σ tg R) X.xe s := by
  obtain ⟨us, rv, ib⟩ := SqB.run I q
  refine (bgB t a us.toArray).iter _ _ _ _ _ _ ib ?_
  refine ⟨s.heap.objs.size, [s.heap.objs.size], _, _, H, rfl, I.kept (t' := s.toks) fun b o e => Heap.get?_push_of_some _ e, tnB t a _, AtB.new (Heap.get?_push_size _ (bgB t a us.toArray).free), fun b hb => ?_, r⟩
  have e : b = s.heap.objs.size := by simpa using hb
  subst e
  exact I.fpOk (Nat.le_refl _) (I.hok.fresh (Nat.le_refl _))
def exI (x : IV) (h : Hh) : R Ir := match x with
  | .rng lo n => .ok (.rng lo 1 n) h
  | _ => match scOf x h with
    | some s => .ok (.one s) h
    | none => .fail
theorem i_ex (C : CxOk g T p cf W c X) {e : Expr} {M : Rho → Hh → R IV} (he : PE X e (rdE p W M)) : PI X tg e (rdI p W fun r h => (M r h).bd exI) := by
  refine ⟨fun pins s σ H R I z => ?_⟩
  refine thn (he.run pins s σ H _ I z.bd) fun v s1 q => ?_
  obtain ⟨x, H1, I1, r1, m1, r, h1, a, sl, rh, rv, ok⟩ := q
  cases rv with
  | tup sq rvs =>
    cases r1
    exact pie_seq (t := true) I1 (by rw [C.K]; exact sq) (by rw [C.K]; exact ok m1 H1 _ Xt.refl rh (RI.one (Src.tup0 sq rvs)))
  | ref e1 =>
    cases r1
    obtain ⟨o, ho⟩ := rh.un _ _ e1
    rename_i nn ad
    have ok : Ok (RI p) p m1 H1 (fun c d H => W c d σ H) (match scL nn (h1.get nn) with
      | some s => .ok (.one s) h1
      | none => .fail) R := ok
    rw [ho] at ok
    cases o with
    | lst xs =>
      obtain ⟨vs, hv, _⟩ := rh.lst e1 ho
      refine pie_seq (t := false) (xs := vs) I1 (.inl (.inl hv)) ?_
      rw [C.K]
      exact ok m1 H1 _ Xt.refl rh (RI.one (t := false) ⟨rfl, e1, rfl⟩)
    | dict _ => exact ok.elim
    | inst _ _ => exact ok.elim
  | rng rg =>
    cases r1
    obtain ⟨hi, e1, e2, b1, b2, b3, b4⟩ := rg
    obtain ⟨t, u, w, e3⟩ := I1.hok _ _ e1
    refine wpAny_pyIter_range e3 (small_one b1 b2 b3 b4) ?_
    subst e2
    rename_i lo ad
    refine pi_one (tk := s1.toks) I1 _ (turn_range _ lo (hi - lo).toNat) ?_ (ok m1 H1 _ Xt.refl rh ⟨_, sim_rng (p := p) (lo := lo) (n := (hi - lo).toNat), Nat.zero_le _, ?_⟩)
    · have e1 : lo + ((0 : Nat) : Int) * 1 = lo := by simp
      have e2 : (((hi - lo).toNat : Nat) : Int) - ((0 : Nat) : Int) = Builtin.Range.rangeSize lo hi 1 := by rw [rangeSize_one]; split <;> omega
      show IsRangeIter _ _ (lo + ((0 : Nat) : Int) * 1) ((((hi - lo).toNat : Nat) : Int) - ((0 : Nat) : Int)) 1
      rw [e1, e2]
      exact Heap.get?_push_size _ rfl
    · have e1 : lo + ((0 : Nat) : Int) = lo := by simp
      rw [e1]
      rfl
  | non => exact ok.elim
  | bl _ => exact ok.elim
  | int _ => exact ok.elim
  | str _ => exact ok.elim
  | exn => exact ok.elim
  | rol _ _ => exact ok.elim
  | fn _ => exact ok.elim
theorem w62 {j : Int} (h : within62 j = true) : -(2 ^ 62) ≤ j ∧ j < 2 ^ 62 := by
  have h1 : j.natAbs ≤ 4611686018427387903 := by
    have h2 : Nat.ble j.natAbs 4611686018427387903 = true := h
    rwa [Nat.ble_eq] at h2
  constructor <;> omega
theorem PI.wk {e : Expr} {t t' : TI} (h : PI X tg e t) (i : ∀ σ H Q, t' σ H Q → t σ H Q) : PI X tg e t' := ⟨fun pn s sg H Q I q => h.run pn s sg H Q I (i sg H Q q)⟩
def r1I (x : IV) (h : Hh) : R Ir := match x with
  | .int j => match within62 j with
    | true => .ok (.rng 0 1 (Int.toNat j)) h
    | false => .fail
  | _ => .fail
def r2I (x y : IV) (h : Hh) : R Ir := match x with
  | .int i => match y with
    | .int j => match within62 i with
      | true => match within62 j with
        | true => .ok (.rng i 1 (Int.toNat (Int.sub j i))) h
        | false => .fail
      | false => .fail
    | _ => .fail
  | _ => .fail
def r3I (x y : IV) (h : Hh) : R Ir := match x with
  | .int i => match y with
    | .int j => match within62 i with
      | true => match within62 j with
        | true => .ok (.rng i (-1) (Int.toNat (Int.sub i j))) h
        | false => .fail
      | false => .fail
    | _ => .fail
  | _ => .fail
theorem i_rng1 (C : CxOk g T p cf W c X) {a : Expr} {M : Rho → Hh → R IV} {q pos : Pos} (hf : g.free.contains ("range" : Str) = true) (hg : glB c.sc ("range" : Str) = true) (hs : star a = false) (ha : PE X a (rdE p W M)) :
    PI X tg (.Call (.Name "range" q) [a] [] pos) (rdI p W fun r h => (M r h).bd r1I) := by
  refine PI.wk (pi_range1 (gl_ok C hg) (C.free _ hf) (pa_cons ha pa_nil (by cases a <;> first | rfl | cases hs)) (by rw [star_cons hs]; rfl)) fun σ H R z => ?_
  obtain ⟨m, r, h, s, t, o⟩ := rdG.bd (rel := RV p) (k := fun _ x h => r1I x h) z
  refine ⟨m, r, h, s, t, o.mono fun V1 H1 w => ?_⟩
  obtain ⟨m1, r1, h1, a1, s1, t1, rv, ok⟩ := w
  cases rv <;> first | exact ok.elim | skip
  rename_i j
  cases e : within62 j with
  | false =>
    unfold r1I at ok
    dsimp only at ok
    rw [e] at ok
    exact ok.elim
  | true =>
    unfold r1I at ok
    dsimp only at ok
    rw [e] at ok
    refine ⟨j, rfl, (w62 e).1, (w62 e).2, ok m1 H1 _ Xt.refl t1 ⟨_, sim_rng, Nat.zero_le _, rfl⟩⟩
theorem i_rng2 (C : CxOk g T p cf W c X) {a b : Expr} {M N : Rho → Hh → R IV} {q pos : Pos} (hf : g.free.contains ("range" : Str) = true) (hg : glB c.sc ("range" : Str) = true) (hs : star a = false) (hs2 : star b = false) (ha : PE X a (rdE p W M)) (hb : PE X b (rdE p W N)) :
    PI X tg (.Call (.Name "range" q) [a, b] [] pos) (rdI p W fun r h => (M r h).bd fun x h => (N r h).bd fun y h => r2I x y h) := by
  refine PI.wk (pi_range2 (gl_ok C hg) (C.free _ hf) (pa_cons ha (pa_cons hb pa_nil (by cases b <;> first | rfl | cases hs2)) (by cases a <;> first | rfl | cases hs)) (by rw [star_cons hs, star_cons hs2]; rfl) (by rw [star_cons hs2]; rfl)) fun σ H R z => ?_
  obtain ⟨m, r, h, s, t, o⟩ := rdG.bd (rel := RV p) (k := fun r x h => (N r h).bd fun y h => r2I x y h) z
  refine ⟨m, r, h, s, t, o.mono fun V1 H1 w => ?_⟩
  obtain ⟨m1, r1, h1, a1, s1, t1, rv, ok⟩ := w
  refine ⟨m1, r1, h1, s1, t1, ok.bd.mono fun V2 H2 w2 => ?_⟩
  obtain ⟨m2, h2, a2, x2, t2, rv2, ok2⟩ := w2
  have rv := rv.mono x2
  cases rv <;> first | exact ok2.elim | skip
  cases rv2 <;> first | exact ok2.elim | skip
  rename_i i j
  unfold r2I at ok2
  dsimp only at ok2
  cases e : within62 i with
  | false =>
    rw [e] at ok2
    exact ok2.elim
  | true =>
    rw [e] at ok2
    dsimp only at ok2
    cases e2 : within62 j with
    | false =>
      rw [e2] at ok2
      exact ok2.elim
    | true =>
      rw [e2] at ok2
      exact ⟨i, j, rfl, ⟨(w62 e).1, (w62 e).2, (w62 e2).1, (w62 e2).2⟩, ok2 m2 H2 _ Xt.refl t2 ⟨_, sim_rng, Nat.zero_le _, by
        have : i + ((0 : Nat) : Int) = i := by simp
        rw [this]
        rfl⟩⟩
theorem i_rng3 (C : CxOk g T p cf W c X) {a b : Expr} {M N : Rho → Hh → R IV} {q pos p1 p2 : Pos} {k : Nat} (hf : g.free.contains ("range" : Str) = true) (hg : glB c.sc ("range" : Str) = true) (hs : star a = false) (hs2 : star b = false) (ha : PE X a (rdE p W M)) (hb : PE X b (rdE p W N)) :
    PI X tg (.Call (.Name "range" q) [a, b, .UnaryOp .USub (.Constant (.int 1) k p1) p2] [] pos) (rdI p W fun r h => (M r h).bd fun x h => (N r h).bd fun y h => r3I x y h) := by
  refine PI.wk (pi_range3 (gl_ok C hg) (C.free _ hf) (pa_cons ha (pa_cons hb (pa_cons (pe_un un_neg pe_int) pa_nil rfl) (by cases b <;> first | rfl | cases hs2)) (by cases a <;> first | rfl | cases hs)) (by rw [star_cons hs]) (by rw [star_cons hs2]; rfl)) fun σ H R z => ?_
  obtain ⟨m, r, h, s, t, o⟩ := rdG.bd (rel := RV p) (k := fun r x h => (N r h).bd fun y h => r3I x y h) z
  refine ⟨m, r, h, s, t, o.mono fun V1 H1 w => ?_⟩
  obtain ⟨m1, r1, h1, a1, s1, t1, rv, ok⟩ := w
  refine ⟨m1, r1, h1, s1, t1, ok.bd.mono fun V2 H2 w2 => ?_⟩
  obtain ⟨m2, h2, a2, x2, t2, rv2, ok2⟩ := w2
  have rv := rv.mono x2
  cases rv <;> first | exact ok2.elim | skip
  cases rv2 <;> first | exact ok2.elim | skip
  rename_i i j
  unfold r3I at ok2
  dsimp only at ok2
  cases e : within62 i with
  | false =>
    rw [e] at ok2
    exact ok2.elim
  | true =>
    rw [e] at ok2
    dsimp only at ok2
    cases e2 : within62 j with
    | false =>
      rw [e2] at ok2
      exact ok2.elim
    | true =>
      rw [e2] at ok2
      refine ⟨1, rfl, i, j, -1, _, rfl, RgC.neg (w62 e).1 (w62 e).2 (w62 e2).1 (w62 e2).2, ok2 m2 H2 _ Xt.refl t2 ⟨_, sim_rngC, Nat.zero_le _, by
        have : i + ((0 : Nat) : Int) * (-1) = i := by simp
        rw [this]
        rfl⟩⟩
def enI (x : IV) (h : Hh) : R Ir := match scOf x h with
  | some s => .ok (.en 0 s) h
  | none => .fail
theorem seq_of {m : Mp} {h : Hh} {H : Hp} {x : IV} {v : V} {s : Sc} (r : RH p m h H) (rv : RV p m H x v) (e : scOf x h = some s) : ∃ t a xs, v = .ref a ∧ SqB t p.K H a xs ∧ Src p t a 0 s m H := by
  cases rv with
  | tup sq rvs =>
    cases e
    exact ⟨true, _, _, rfl, sq, Src.tup0 sq rvs⟩
  | ref e1 =>
    rename_i n ad
    obtain ⟨o, ho⟩ := r.un _ _ e1
    have e : scL n (h.get n) = some s := e
    rw [ho] at e
    cases o with
    | lst xs =>
      cases e
      obtain ⟨vs, hv, _⟩ := r.lst e1 ho
      exact ⟨false, _, vs, rfl, .inl (.inl hv), rfl, e1, rfl⟩
    | dict _ => cases e
    | inst _ _ => cases e
  | non => cases e
  | bl _ => cases e
  | int _ => cases e
  | str _ => cases e
  | rng _ => cases e
  | rol _ _ => cases e
  | exn => cases e
  | fn _ => cases e
theorem i_enum (C : CxOk g T p cf W c X) {e : Expr} {M : Rho → Hh → R IV} {q pos qp : Pos} {es : List Expr} {kq : Nat} (hf : g.free.contains ("enumerate" : Str) = true) (hg : glB c.sc ("enumerate" : Str) = true) (hs : star e = false) (he : PE X e (rdE p W M)) :
    PI X (.Tuple es kq qp) (.Call (.Name "enumerate" q) [e] [] pos) (rdI p W fun r h => (M r h).bd enI) := by
  refine ⟨fun pins s σ H R I z => ?_⟩
  obtain ⟨m, r, h, sl, t, o⟩ := rdG.bd (rel := RV p) (k := fun _ x h => enI x h) z
  refine Call_ (ld_blt I (gl_ok C hg) (C.free _ hf) boot_enumerate (PyProof.Rows.callWith_type1 (thn ((pa_cons he pa_nil (by cases e <;> first | rfl | cases hs)).run pos pins s σ H (fun vs H1 => ∃ x, vs = [x] ∧ ∃ m1 r h1 a, RSl p m1 H1 r σ ∧ RH p m1 h1 H1 ∧ RV p m1 H1 a x ∧ Ok (RI p) p m1 H1 (fun c d H => W c d σ H) (enI a h1) R) I ⟨m, r, h, sl, t, o.mono fun b H1 w => ⟨b, rfl, w⟩⟩) fun us s1 w => ?_) (star_cons hs) rfl))
  obtain ⟨vs, H1, I1, r1, x, ex, m1, r2, h1, a, sl1, rh, rv, ok⟩ := w
  subst ex
  cases r1 with
  | cons rl rr =>
    cases rr
    unfold enI at ok
    cases e1 : scOf a h1 with
    | none =>
      rw [e1] at ok
      exact ok.elim
    | some sc =>
      rw [e1] at ok
      obtain ⟨tt, ad, xs, ev, sq, src⟩ := seq_of rh rv e1
      subst ev
      cases rl
      have sq' : SqB tt X.K H1 ad xs := by rw [C.K]; exact sq
      obtain ⟨us, rvv, ib⟩ := SqB.run I1 sq'
      refine en_begins (bgB tt ad us.toArray) ib fun h' he hit hk => wpAny_pyIter_enum he ?_
      have I2 : L2.Inv X pins σ H1 { s1 with heap := h' } := I1.kept (t' := s1.toks) hk
      have al := SqB.lt ib
      refine ⟨s1.heap.objs.size + 1, [s1.heap.objs.size + 1, s1.heap.objs.size], _, _, H1, rfl, I2, teB tt ad (s1.heap.objs.size + 1) s1.heap.objs.size, ⟨⟨.none, he⟩, AtB.new hit, Nat.succ_ne_self _, Nat.ne_of_lt al, ?_⟩, fun b hb => ?_, ?_⟩
      · exact Ne.symm (Nat.ne_of_lt (Nat.lt_succ_of_lt al))
      · have e' : b = s1.heap.objs.size + 1 ∨ b = s1.heap.objs.size := by simpa using hb
        have hle : s1.heap.objs.size ≤ b := by
          rcases e' with z | z
          · rw [z]; exact Nat.le_add_right _ _
          · rw [z]; exact Nat.le_refl _
        exact I1.fpOk hle (I1.hok.fresh hle)
      · rw [C.K]
        exact ok m1 H1 _ Xt.refl rh ⟨_, sim_en, sc, rfl, src⟩
def ziI (x y : IV) (h : Hh) : R Ir := match scOf x h with
  | some s => match scOf y h with
    | some t => .ok (.zi s t) h
    | none => .fail
  | none => .fail
theorem i_zip (C : CxOk g T p cf W c X) {e e2 : Expr} {M N : Rho → Hh → R IV} {q pos qp : Pos} {es : List Expr} {kq : Nat} (hf : g.free.contains ("zip" : Str) = true) (hg : glB c.sc ("zip" : Str) = true) (hs : star e = false) (hs2 : star e2 = false) (he : PE X e (rdE p W M)) (he2 : PE X e2 (rdE p W N)) :
    PI X (.Tuple es kq qp) (.Call (.Name "zip" q) [e, e2] [] pos) (rdI p W fun r h => (M r h).bd fun x h => (N r h).bd fun y h => ziI x y h) := by
  refine ⟨fun pins s σ H R I z => ?_⟩
  obtain ⟨m, r, h, sl, t, o⟩ := rdG.bd (rel := RV p) (k := fun r x h => (N r h).bd fun y h => ziI x y h) z
  refine Call_ (ld_blt I (gl_ok C hg) (C.free _ hf) PyProof.Rows.boot_zip (PyProof.Rows.callWith_type1 (thn ((pa_cons he (pa_cons he2 pa_nil (by cases e2 <;> first | rfl | cases hs2)) (by cases e <;> first | rfl | cases hs)).run pos pins s σ H (fun vs H1 => ∃ x y, vs = [x, y] ∧ ∃ m1 h1 a b, RH p m1 h1 H1 ∧ RV p m1 H1 a x ∧ RV p m1 H1 b y ∧ Ok (RI p) p m1 H1 (fun c d H => W c d σ H) (ziI a b h1) R) I
    ⟨m, r, h, sl, t, o.mono fun v H1 w => ?_⟩) fun us s1 w => ?_) (by rw [star_cons hs]) (by rw [star_cons hs2]; rfl)))
  · obtain ⟨m1, r1, h1, a, sl1, rh, rv, ok⟩ := w
    refine ⟨m1, r1, h1, sl1, rh, ok.bd.mono fun v2 H2 w2 => ?_⟩
    obtain ⟨m2, h2, b, x2, rh2, rv2, ok2⟩ := w2
    exact ⟨v, v2, rfl, m2, h2, a, b, rh2, rv.mono x2, rv2, ok2⟩
  · obtain ⟨vs, H1, I1, r1, x, y, ex, m1, h1, a, b, rh, rv, rv2, ok⟩ := w
    subst ex
    cases r1 with
    | cons rl rr =>
      cases rr with
      | cons rl2 rr =>
        cases rr
        unfold ziI at ok
        cases e1 : scOf a h1 with
        | none =>
          rw [e1] at ok
          exact ok.elim
        | some sc =>
          rw [e1] at ok
          dsimp only at ok
          cases e2 : scOf b h1 with
          | none =>
            rw [e2] at ok
            exact ok.elim
          | some sc2 =>
            rw [e2] at ok
            obtain ⟨tt, ad, xs, ev, sq, src⟩ := seq_of rh rv e1
            obtain ⟨tu, bd, ys, ev2, sq2, src2⟩ := seq_of rh rv2 e2
            subst ev ev2
            cases rl
            cases rl2
            have sq' : SqB tt X.K H1 ad xs := by rw [C.K]; exact sq
            have sq2' : SqB tu X.K H1 bd ys := by rw [C.K]; exact sq2
            obtain ⟨us, rvv, ib⟩ := SqB.run I1 sq'
            obtain ⟨us2, rvv2, ib2⟩ := SqB.run I1 sq2'
            refine zip_begins2 (bgB tt ad us.toArray) (bgB tu bd us2.toArray) ib ib2 fun h' hz hTI hTO h1' h2' hsz hk => wpAny_pyIter_zip hz ?_
            have I2 : L2.Inv X pins σ H1 { s1 with heap := h' } := I1.kept (t' := s1.toks) hk
            have al := SqB.lt ib
            have bl := SqB.lt ib2
            refine ⟨s1.heap.objs.size + 4, [s1.heap.objs.size + 4, s1.heap.objs.size + 2, s1.heap.objs.size + 3, s1.heap.objs.size, s1.heap.objs.size + 1], _, _, H1, rfl, I2,
              tzB tt tu (zip_sep2 (fp1 := [ad]) (fp2 := [bd]) (fun c hc => ?_) (fun c hc => ?_)) (Nat.ne_of_lt al) (Nat.ne_of_lt (Nat.lt_succ_of_lt bl)), ⟨hz, hTI, ⟨_, _, hTO⟩, AtB.new h1', AtB.new h2'⟩, fun c hcm => ?_, ?_⟩
            · have e' : c = ad := by simpa using hc
              rw [e']; exact al
            · have e' : c = bd := by simpa using hc
              rw [e']; exact bl
            · have e' : c = s1.heap.objs.size + 4 ∨ c = s1.heap.objs.size + 2 ∨ c = s1.heap.objs.size + 3 ∨ c = s1.heap.objs.size ∨ c = s1.heap.objs.size + 1 := by simpa using hcm
              have hle : s1.heap.objs.size ≤ c := by
                rcases e' with z | z | z | z | z
                · rw [z]; exact Nat.le_add_right _ _
                · rw [z]; exact Nat.le_add_right _ _
                · rw [z]; exact Nat.le_add_right _ _
                · rw [z]; exact Nat.le_refl _
                · rw [z]; exact Nat.le_add_right _ _
              exact I1.fpOk hle (I1.hok.fresh hle)
            · rw [C.K]
              exact ok m1 H1 _ Xt.refl rh ⟨_, sim_zi, sc, sc2, rfl, src, src2⟩
end
end
end Rk
namespace Rk
noncomputable section
open PySem PySem.Spec PyProof.Rows L2
mutual
def tgIn : Tg → List Nat → Bool
  | .nm i, vs => vs.contains i
  | .tp ts, vs => tgsIn ts vs
def tgsIn : List Tg → List Nat → Bool
  | [], _ => true
  | t :: ts, vs => tgIn t vs && tgsIn ts vs
end
def Wr (σ σ' : L2.St) (f : List Nat → Bool) : Prop := σ'.length = σ.length ∧ ∀ vs, f vs = true → wipe σ' vs = wipe σ vs
theorem wipe_at (σ : L2.St) (x : Option V) : ∀ (vs : List Nat) (i : Nat), i ∈ vs → wipe (σ.set i x) vs = wipe σ vs
  | [], _, h => by cases h
  | v :: vs, i, h => by
    by_cases e : i ∈ vs
    · show (wipe (σ.set i x) vs).set v none = (wipe σ vs).set v none
      rw [wipe_at σ x vs i e]
    · have ev : i = v := by
        rcases List.mem_cons.mp h with z | z
        · exact z
        · exact absurd z e
      subst ev
      show (wipe (σ.set i x) vs).set i none = (wipe σ vs).set i none
      have key : ∀ (ws : List Nat), i ∉ ws → wipe (σ.set i x) ws = (wipe σ ws).set i x := fun ws => by
        induction ws with
        | nil => intro _; rfl
        | cons w ws ih =>
          intro hw
          have h1 : i ≠ w := fun z => hw (by rw [z]; exact List.mem_cons_self ..)
          have h2 : i ∉ ws := fun z => hw (List.mem_cons_of_mem _ z)
          show (wipe (σ.set i x) ws).set w none = ((wipe σ ws).set w none).set i x
          rw [ih h2, List.set_comm _ _ h1]
      rw [key vs e, List.set_set]
def gA (p : Pd) (t : Tg) : TG := fun v σ H Q => ∃ m r h x r', RSl p m H r σ ∧ RH p m h H ∧ RV p m H x v ∧ asg t x r h = some r' ∧ ∀ σ', RSl p m H r' σ' → Wr σ σ' (tgIn t) → Q σ' H
def gAs (p : Pd) (ts : List Tg) : TGs := fun vs σ H Q => ∃ m r h xs r', RSl p m H r σ ∧ RH p m h H ∧ RVs p m H xs vs ∧ asgs ts xs r h = some r' ∧ ∀ σ', RSl p m H r' σ' → Wr σ σ' (tgsIn ts) → Q σ' H
theorem PG.wk {X : Cx} {e : Expr} {t t' : TG} (h : PG X e t) (i : ∀ v σ H Q, t' v σ H Q → t v σ H Q) : PG X e t' := ⟨fun pn s sg H v u Q I r q => h.run pn s sg H v u Q I r (i v sg H Q q)⟩
theorem PGs.wk {X : Cx} {e : List Expr} {t t' : TGs} (h : PGs X e t) (i : ∀ v σ H Q, t' v σ H Q → t v σ H Q) : PGs X e t' := ⟨fun pn s sg H v u Q I r q => h.run pn s sg H v u Q I r (i v sg H Q q)⟩
section
variable {g : Gd} {T : Tab} {p : Pd} {cf : Nat → List IV → Hh → R IV} {W : Wx} {c : Cc} {X : Cx}
theorem locB_ok (C : CxOk g T p cf W c X) {x : Str} (h : locB c x = true) : L2.Loc X.env.scope x ∧ (X.fn x = true ∨ X.env.scope.names.lookup x = some .local) := by
  unfold locB at h
  unfold L2.Loc
  rw [C.sc]
  cases e : c.sc.names.lookup x with
  | none =>
    rw [e] at h
    cases h
  | some k =>
    rw [e] at h
    cases k <;> first | cases h; done | exact ⟨.inl rfl, .inr rfl⟩ | exact ⟨.inr rfl, .inl (C.fn x h)⟩
theorem g_name (C : CxOk g T p cf W c X) {i : Nat} {x : Str} {pos : Pos} (hx : at? c.N i = some x) (hl : locB c x = true) : PG X (.Name x pos) (gA p (.nm i)) := by
  obtain ⟨l1, l2⟩ := locB_ok C hl
  refine PG.wk (pg_name (i := i) C.nd (by rw [C.n, ← at_list]; exact hx) l1 l2) fun v σ H Q ⟨m, r, h, x, r', s, t, rv, e, k⟩ => ?_
  cases e
  exact k _ (s.put rv) ⟨List.length_set .., fun vs hv => wipe_at _ _ _ _ (by
    have hv' : vs.contains i = true := by unfold tgIn at hv; exact hv
    simpa using hv')⟩
theorem g_nil : PGs X [] (gAs p []) := PGs.wk pgs_nil fun vs σ H Q ⟨m, r, h, xs, r', s, t, rv, e, k⟩ => by
  cases rv with
  | cons _ _ => cases e
  | nil =>
    cases e
    exact ⟨rfl, k σ s ⟨rfl, fun _ _ => rfl⟩⟩
theorem asgE_cons {e : Expr} {es : List Expr} {env : Env} (h : star e = false) : assignEach (e :: es) env = (false, assign e env) :: assignEach es env := by
  cases e <;> first | rfl | cases h
theorem g_cons {e : Expr} {es : List Expr} {t : Tg} {ts : List Tg} (hs : star e = false) (h1 : PG X e (gA p t)) (h2 : PGs X es (gAs p ts)) : PGs X (e :: es) (gAs p (t :: ts)) := by
  refine PGs.wk (pgs_cons h1 h2 (by rw [asgE_cons hs]; rfl)) fun vs σ H Q ⟨m, r, h, xs, r', s, tt, rv, e, k⟩ => ?_
  cases rv with
  | nil => cases e
  | @cons x v xs vs rv1 rvs =>
    have e' : (match asg t x r h with
      | some r' => asgs ts xs r' h
      | none => none) = some r' := e
    cases e1 : asg t x r h with
    | none =>
      rw [e1] at e'
      cases e'
    | some r1 =>
      rw [e1] at e'
      refine ⟨v, vs, rfl, m, r, h, x, r1, s, tt, rv1, e1, fun σ1 s1 w1 => ⟨m, r1, h, xs, r', s1, tt, rvs, e', fun σ2 s2 w2 => k σ2 s2 ⟨by rw [w2.1, w1.1], fun ws hw => ?_⟩⟩⟩
      have hw' : (tgIn t ws && tgsIn ts ws) = true := hw
      rw [Bool.and_eq_true] at hw'
      rw [w2.2 ws hw'.2, w1.2 ws hw'.1]
theorem asgE_len {env : Env} : ∀ {es : List Expr}, (assignEach es env).length = es.length
  | [] => rfl
  | e :: es => by
    have : (assignEach (e :: es) env).length = (assignEach es env).length + 1 := by cases e <;> rfl
    rw [this, asgE_len]
    rfl
theorem asgE_no {env : Env} : ∀ {es : List Expr}, plainEs es = true → (assignEach es env).findIdx? (·.1) = none
  | [], _ => rfl
  | e :: es, h => by
    unfold plainEs at h
    rw [Bool.and_eq_true, Bool.not_eq_true'] at h
    rw [asgE_cons h.1, List.findIdx?_cons]
    dsimp only
    rw [asgE_no h.2]
    rfl
theorem asgs_len : ∀ {ts : List Tg} {xs : List IV} {r r' : Rho} {h : Hh}, asgs ts xs r h = some r' → xs.length = ts.length
  | [], [], _, _, _, _ => rfl
  | [], _ :: _, _, _, _, e => by cases e
  | _ :: _, [], _, _, _, e => by cases e
  | t :: ts, x :: xs, r, r', h, e => by
    have e' : (match asg t x r h with
      | some r' => asgs ts xs r' h
      | none => none) = some r' := e
    cases e1 : asg t x r h with
    | none =>
      rw [e1] at e'
      cases e'
    | some r1 =>
      rw [e1] at e'
      show xs.length + 1 = ts.length + 1
      rw [asgs_len e']
theorem g_tup (C : CxOk g T p cf W c X) (hc : c.calm = true) {es : List Expr} {kq : Nat} {pos : Pos} {ts : List Tg} (h : PGs X es (gAs p ts)) (hl : es.length = ts.length) (hs : plainEs es = true) : PG X (.Tuple es kq pos) (gA p (.tp ts)) := by
  refine ⟨fun pn s σ H v u Q I r ⟨m, rr, h1, x, r', sl, t, rv, e, k⟩ => ?_⟩
  have e' : (match items x h1 with
    | some xs => asgs ts xs rr h1
    | none => none) = some r' := e
  cases rv with
  | tup sq rvs =>
    exact (pg_tup (C.calm hc) h (by rw [asgE_len]) (asgE_no hs)).run pn s σ H _ u Q I r ⟨_, _, rfl, by rw [C.K]; exact sq, by rw [← rvs.length, asgs_len e', hl], m, rr, h1, _, r', sl, t, rvs, e', k⟩
  | @ref n a e1 =>
    unfold items at e'
    dsimp only at e'
    cases g1 : h1.get n with
    | none =>
      rw [g1] at e'
      cases e'
    | some o =>
      rw [g1] at e'
      cases o with
      | dict _ => cases e'
      | inst _ _ => cases e'
      | lst xs =>
        have e' : asgs ts (revR xs) rr h1 = some r' := e'
        obtain ⟨vs, hv, rvs⟩ := t.lst e1 g1
        exact (pg_lst (C.calm hc) h (by rw [asgE_len]) (asgE_no hs)).run pn s σ H _ u Q I r ⟨_, vs, rfl, .inl (.inl hv), by rw [← rvs.length, asgs_len e', hl], m, rr, h1, revR xs, r', sl, t, rvs, e', k⟩
  | non => cases e'
  | bl _ => cases e'
  | int _ => cases e'
  | str _ => cases e'
  | rng _ => cases e'
  | exn => cases e'
  | rol _ _ => cases e'
  | fn _ => cases e'
abbrev W0 : Wx := fun _ _ _ _ => False
def blkCc (c : Cc) (scope : Scope) : Cc := { N := c.N, sc := relS scope c.sc, fn := fun x => scope.names.lookup x == some .cell, calm := c.calm }
theorem blk_ok (C : CxOk g T p cf W c X) (s : Shared) (H : Hp) (scope : Scope) (C0 : Addr) (cl : List (Str × Addr)) (fp : List Addr) : CxOk g T p cf W0 (blkCc c scope) (X.blk s H scope (compEnvC scope cl C0 X.env) fp) where
  n := C.n
  nd := C.nd
  sc := by
    show relS scope X.env.scope = relS scope c.sc
    rw [C.sc]
  fn := fun x h => h
  K := C.K
  tk := fun u s' ⟨_, _, _, _, _, _, _, _, _, _, _, _, _, _, _, _, w⟩ => w.elim
  calm := C.calm
  un := C.un
  fns := C.fns
  dfs := fun hc i ps e => by
    obtain ⟨fd, lv, A⟩ := C.dfs hc i ps e
    exact ⟨fd, lv, ⟨A.kp, A.room, A.rm1, A.ok, A.bind, A.bindk⟩⟩
  cls := C.cls
  nc := C.nc
  fld := C.fld
  nf := C.nf
  mf := C.mf
  ini := C.ini
  cfl := C.cfl
  nds := C.nds
  free := C.free
  own := PassesOwn.never
  glo := C.glo
def lcM (t : Tg) (own : List Nat) (Mi : Rho → Hh → R Ir) (Mt : Rho → Hh → R Bool) (Me : Rho → Hh → R IV) (r : Rho) (h : Hh) : R IV :=
  (Mi r h).bd fun k h => (newL [] h).bd fun d h => match d with
    | .ref n => (lcL t (wip r own) Mt Me n turns k h).bd fun _ h => .ok d h
    | _ => .fail
theorem append_eq {n : Nat} {y : IV} {h h' : Hh} {v : IV} (e : bmt .append (.ref n) [y] h = .ok v h') : ∃ q, h.get n = some (.lst q) ∧ (revR q).length < sizeLine ∧ h.set n (.lst (y :: q)) = some h' ∧ v = .non := by
  unfold bmt at e
  dsimp only at e
  cases g1 : h.get n with
  | none =>
    rw [g1] at e
    cases e
  | some o =>
    rw [g1] at e
    cases o with
    | dict _ => cases e
    | inst _ _ => cases e
    | lst xs =>
      dsimp only at e
      rw [lenR_eq] at e
      cases g2 : Nat.blt xs.length fewL with
      | false =>
        rw [g2] at e
        cases e
      | true =>
        rw [g2] at e
        dsimp only at e
        cases g3 : h.set n (.lst (y :: xs)) with
        | none =>
          rw [g3] at e
          cases e
        | some h1 =>
          rw [g3] at e
          cases e
          refine ⟨xs, rfl, ?_, g3, rfl⟩
          have : Nat.ble (xs.length + 1) fewL = true := g2
          rw [Nat.ble_eq] at this
          rw [revR_len]
          exact Nat.lt_of_lt_of_le this (by decide)
def lcW (p : Pd) (J : L2.It) (Z : Nat → Ir → Mp → Hp → Prop) (E : XK) (t : Tg) (rw_ : Rho) (σw : L2.St) (Mt : Rho → Hh → R Bool) (Me : Rho → Hh → R IV) (D : Addr) (n : Nat) (Q : VK) (i f : Nat) (H : Hp) : Prop :=
  ∃ m h k, Z i k m H ∧ RSl p m H rw_ σw ∧ RH p m h H ∧ m n = some D ∧ Ok (RV p) p m H E ((lcL t rw_ Mt Me n f k h).bd fun _ h => .ok (.ref n) h) Q
theorem lc_turn {J : L2.It} {Z : Nat → Ir → Mp → Hp → Prop} (sim : SimOk p J Z) {E : XK} {t : Tg} {rw_ : Rho} {σ : L2.St} {own : List Nat} {Mt : Rho → Hh → R Bool} {Me : Rho → Hh → R IV} {D : Addr} {n : Nat} {Q : VK} (ht : tgIn t own = true) :
    ∀ i f H, lcW p J Z E t rw_ (wipe σ own) Mt Me D n Q i f H →
      (J.stop i H ∧ Q (.ref D) H) ∨ (J.go i H ∧ ∃ Nx : Hp → Prop, (∀ H', Nx H' → ∃ m', m' < f ∧ lcW p J Z E t rw_ (wipe σ own) Mt Me D n Q (i + 1) m' H') ∧ ∀ x H', J.yld i H x H' → gA p t x (wipe σ own) H' fun σ2 H2 => wipe σ2 own = wipe σ own ∧ rdT p W0 Mt σ2 H2 fun b H3 =>
        if b = true then rdE p W0 Me σ2 H3 fun y H4 => ∃ acc, H4 D = some (.lst acc) ∧ acc.length < sizeLine ∧ Nx (upd H4 D (.lst (acc ++ [y]))) else Nx H3) := by
  intro i f H ⟨m, h, k, z, sl, rh, mD, ok⟩
  cases f with
  | zero => exact ok.elim
  | succ f =>
    unfold lcL at ok
    cases e : nxt k h with
    | fail =>
      rw [e] at ok
      exact ok.elim
    | stop =>
      rw [e] at ok
      exact .inl ⟨sim.stop i k m h H z rh e, ok m H _ Xt.refl rh (.ref mD)⟩
    | yld v k' =>
      rw [e] at ok
      dsimp only at ok
      obtain ⟨go, yl⟩ := sim.yld i k m h H v k' z rh e
      refine .inr ⟨go, fun H' => lcW p J Z E t rw_ (wipe σ own) Mt Me D n Q (i + 1) f H', fun H' w => ⟨f, Nat.lt_succ_self f, w⟩, fun x H' hy => ?_⟩
      obtain ⟨x1, rh1, rv1, z1⟩ := yl x H' hy
      have ok := ok.ext x1
      have sl1 := sl.mono x1
      cases ea : asg t v rw_ h with
      | none =>
        rw [ea] at ok
        exact ok.elim
      | some r' =>
        rw [ea] at ok
        dsimp only at ok
        refine ⟨m, rw_, h, v, r', sl1, rh1, rv1, ea, fun σ2 s2 w2 => ⟨?_, m, r', h, s2, rh1, ?_⟩⟩
        · rw [w2.2 own ht]
          exact wipe_wipe
        · cases ec : Mt r' h with
          | fail =>
            rw [ec] at ok
            exact ok.elim
          | exc _ _ =>
            rw [ec] at ok
            exact ok.elim
          | ok b h2 =>
            rw [ec] at ok
            dsimp only at ok
            intro m2 H3 b' x2 rh2 eb
            cases eb
            have ok := ok.ext x2
            cases b with
            | false =>
              rw [if_neg Bool.false_ne_true]
              exact ⟨m2, h2, k', sim.mono _ _ _ _ _ _ z1 x2, sl1.mono x2, rh2, x2.mp _ _ (x1.mp _ _ mD), ok⟩
            | true =>
              rw [if_pos rfl]
              dsimp only at ok
              refine ⟨m2, r', h2, s2.mono x2, rh2, ?_⟩
              cases ee : Me r' h2 with
              | fail =>
                rw [ee] at ok
                exact ok.elim
              | exc _ _ =>
                rw [ee] at ok
                exact ok.elim
              | ok y h4 =>
                rw [ee] at ok
                dsimp only at ok
                intro m4 H4 y' x4 rh4 ry
                have ok := ok.ext x4
                cases eb : bmt .append (.ref n) [y] h4 with
                | fail =>
                  rw [eb] at ok
                  exact ok.elim
                | exc _ _ =>
                  rw [eb] at ok
                  exact ok.elim
                | ok v5 h5 =>
                  rw [eb] at ok
                  dsimp only at ok
                  obtain ⟨xs, e1, e2, e3, _⟩ := append_eq eb
                  have mD4 := x4.mp _ _ (x2.mp _ _ (x1.mp _ _ mD))
                  obtain ⟨acc, ha, ra⟩ := rh4.lst mD4 e1
                  obtain ⟨x5, rh5⟩ := rh4.setL (vs := acc) mD4 ha e3 (ws := acc ++ [y']) (by rw [revR_cons]; exact RVs.app ra (.cons ry .nil))
                  refine ⟨acc, ha, by rw [← ra.length]; exact e2, m4, h5, k', sim.mono _ _ _ _ _ _ z1 (x2.trans (x4.trans x5)), sl1.mono (x2.trans (x4.trans x5)), rh5, mD4, ok.ext x5⟩
where
  wipe_wipe : wipe (wipe σ own) own = wipe σ own := by
    have key : ∀ vs : List Nat, (∀ v ∈ vs, v ∈ own) → wipe (wipe σ own) vs = wipe σ own := by
      intro vs
      induction vs with
      | nil => intro _; rfl
      | cons v vs ih =>
        intro hv
        show (wipe (wipe σ own) vs).set v none = _
        rw [ih fun w hw => hv w (List.mem_cons_of_mem _ hw)]
        apply List.ext_getElem?
        intro j
        by_cases e : v = j
        · subst e
          by_cases l : v < (wipe σ own).length
          · rw [List.getElem?_set_self l]
            cases q : (wipe σ own)[v]? with
            | none =>
              rw [List.getElem?_eq_none_iff] at q
              omega
            | some o =>
              cases o with
              | none => rfl
              | some u => exact absurd (hv v (List.mem_cons_self ..)) (wipe_some q).2
          · rw [List.getElem?_eq_none (by rw [List.length_set]; omega), List.getElem?_eq_none (by omega)]
        · rw [List.getElem?_set_ne e]
    exact key own fun v h => h
theorem lc_rd {t : Tg} {own : List (Str × Nat)} {Mi : Rho → Hh → R Ir} {Mt : Rho → Hh → R Bool} {Me : Rho → Hh → R IV} (ht : tgIn t (own.map (·.2)) = true) {σ : L2.St} {H : Hp} {Q : VK} (z : rdE p W (lcM t (own.map (·.2)) Mi Mt Me) σ H Q) :
    tLc (rdI p W Mi) (gA p t) (rdT p W0 Mt) (rdE p W0 Me) (own.map (·.2)) σ H Q := by
  unfold lcM at z
  obtain ⟨m, r, h, sl, rh, o⟩ := rdG.bd (rel := RI p) (k := fun r k h => (newL [] h).bd fun d h => match d with
    | .ref n => (lcL t (wip r (own.map (·.2))) Mt Me n turns k h).bd fun _ h => .ok d h
    | _ => .fail) z
  refine ⟨m, r, h, sl, rh, o.mono fun J H1 w => ?_⟩
  obtain ⟨m1, r1, h1, k, sl1, rh1, ⟨Z, sim, z0⟩, ok1⟩ := w
  intro D hD
  unfold newL at ok1
  cases e : newLst h1 [] with
  | none =>
    rw [e] at ok1
    exact ok1.elim
  | some h2 =>
    rw [e] at ok1
    obtain ⟨m2, x2, rh2, e2⟩ := rh1.newL (vs := []) hD e .nil
    refine ⟨lcW p J Z (fun c d H => W c d σ H) t (wip r1 (own.map (·.2))) (wipe σ (own.map (·.2))) Mt Me D h1.nx Q, ⟨turns, m2, h2, k, sim.mono _ _ _ _ _ _ z0 x2, (sl1.mono x2).wip _, rh2, e2, Ok.ext ok1 x2⟩, fun i f H w => lc_turn sim ht i f H w⟩
theorem n_lc (C : CxOk g T p cf W c X) (hc : c.calm = true) {elt tg iter : Expr} {ifs : List Expr} {scope : Scope} {own : List (Str × Nat)} {pos : Pos} {t : Tg} {Mi : Rho → Hh → R Ir} {Mt : Rho → Hh → R Bool} {Me : Rho → Hh → R IV}
    (hi : PI X tg iter (rdI p W Mi)) (ok : blkC c.N c.sc scope own = true) (ht : tgIn t (own.map (·.2)) = true)
    (hB : ∀ X', CxOk g T p cf W0 (blkCc c scope) X' → PG X' tg (gA p t) ∧ PTs X' ifs (rdT p W0 Mt) ∧ PE X' elt (rdE p W0 Me)) (hs : ∀ env x, foldedSetIterable iter env x = pure x) :
    PE X (.ListComp elt [⟨tg, iter, ifs, 0⟩] scope pos) (rdE p W (lcM t (own.map (·.2)) Mi Mt Me)) := by
  have bk := blkOk_by ok
  refine PE.wk (pe_lc (C.calm hc) C.nd hi (by rw [C.n, C.sc]; exact bk) (fun s H C0 cl fp => (hB _ (blk_ok C s H scope C0 cl fp)).1) (fun s H C0 cl fp => (hB _ (blk_ok C s H scope C0 cl fp)).2.1) (fun s H C0 cl fp => (hB _ (blk_ok C s H scope C0 cl fp)).2.2) (fun x => hs _ x)) fun σ H Q z => lc_rd ht z
end
end
end Rk
namespace Rk
noncomputable section
open PySem PySem.Spec PyProof.Rows L2
section
variable {g : Gd} {T : Tab} {p : Pd} {cf : Nat → List IV → Hh → R IV} {W : Wx} {c : Cc} {X : Cx}
def lcWg (p : Pd) (J : L2.It) (Z : Nat → Ir → Mp → Hp → Prop) (E : XK) (t : Tg) (rw_ : Rho) (σw : L2.St) (Mt : Rho → Hh → R Bool) (Me : Rho → Hh → R IV) (D : Addr) (n : Nat) (K : Hh → R IV) (P : Mp → Hp → Prop) (Q : VK) (i f : Nat) (H : Hp) : Prop :=
  ∃ m h k, Z i k m H ∧ RSl p m H rw_ σw ∧ RH p m h H ∧ m n = some D ∧ P m H ∧ Ok (RV p) p m H E ((lcL t rw_ Mt Me n f k h).bd fun _ h => K h) Q
theorem lc_turn_g {J : L2.It} {Z : Nat → Ir → Mp → Hp → Prop} (sim : SimOk p J Z) {E : XK} {t : Tg} {rw_ : Rho} {σ : L2.St} {own : List Nat} {Mt : Rho → Hh → R Bool} {Me : Rho → Hh → R IV} {D : Addr} {n : Nat} {K : Hh → R IV} {P : Mp → Hp → Prop} {Q : VK} (hP : ∀ m H m' H', P m H → Xt m H m' H' → P m' H') (ht : tgIn t own = true) :
    ∀ i f H, lcWg p J Z E t rw_ (wipe σ own) Mt Me D n K P Q i f H →
      (J.stop i H ∧ ∃ m h, RH p m h H ∧ m n = some D ∧ P m H ∧ Ok (RV p) p m H E (K h) Q) ∨ (J.go i H ∧ ∃ Nx : Hp → Prop, (∀ H', Nx H' → ∃ m', m' < f ∧ lcWg p J Z E t rw_ (wipe σ own) Mt Me D n K P Q (i + 1) m' H') ∧ ∀ x H', J.yld i H x H' → gA p t x (wipe σ own) H' fun σ2 H2 => wipe σ2 own = wipe σ own ∧ rdT p W0 Mt σ2 H2 fun b H3 =>
        if b = true then rdE p W0 Me σ2 H3 fun y H4 => ∃ acc, H4 D = some (.lst acc) ∧ acc.length < sizeLine ∧ Nx (upd H4 D (.lst (acc ++ [y]))) else Nx H3) := by
  intro i f H ⟨m, h, k, z, sl, rh, mD, hp, ok⟩
  cases f with
  | zero => exact ok.elim
  | succ f =>
    unfold lcL at ok
    cases e : nxt k h with
    | fail =>
      rw [e] at ok
      exact ok.elim
    | stop =>
      rw [e] at ok
      exact .inl ⟨sim.stop i k m h H z rh e, m, h, rh, mD, hp, ok⟩
    | yld v k' =>
      rw [e] at ok
      dsimp only at ok
      obtain ⟨go, yl⟩ := sim.yld i k m h H v k' z rh e
      refine .inr ⟨go, fun H' => lcWg p J Z E t rw_ (wipe σ own) Mt Me D n K P Q (i + 1) f H', fun H' w => ⟨f, Nat.lt_succ_self f, w⟩, fun x H' hy => ?_⟩
      obtain ⟨x1, rh1, rv1, z1⟩ := yl x H' hy
      have ok := ok.ext x1
      have sl1 := sl.mono x1
      cases ea : asg t v rw_ h with
      | none =>
        rw [ea] at ok
        exact ok.elim
      | some r' =>
        rw [ea] at ok
        dsimp only at ok
        refine ⟨m, rw_, h, v, r', sl1, rh1, rv1, ea, fun σ2 s2 w2 => ⟨?_, m, r', h, s2, rh1, ?_⟩⟩
        · rw [w2.2 own ht]
          exact wipe_wip2
        · cases ec : Mt r' h with
          | fail =>
            rw [ec] at ok
            exact ok.elim
          | exc _ _ =>
            rw [ec] at ok
            exact ok.elim
          | ok b h2 =>
            rw [ec] at ok
            dsimp only at ok
            intro m2 H3 b' x2 rh2 eb
            cases eb
            have ok := ok.ext x2
            cases b with
            | false =>
              rw [if_neg Bool.false_ne_true]
              exact ⟨m2, h2, k', sim.mono _ _ _ _ _ _ z1 x2, sl1.mono x2, rh2, x2.mp _ _ (x1.mp _ _ mD), hP _ _ _ _ hp (x1.trans x2), ok⟩
            | true =>
              rw [if_pos rfl]
              dsimp only at ok
              refine ⟨m2, r', h2, s2.mono x2, rh2, ?_⟩
              cases ee : Me r' h2 with
              | fail =>
                rw [ee] at ok
                exact ok.elim
              | exc _ _ =>
                rw [ee] at ok
                exact ok.elim
              | ok y h4 =>
                rw [ee] at ok
                dsimp only at ok
                intro m4 H4 y' x4 rh4 ry
                have ok := ok.ext x4
                cases eb : bmt .append (.ref n) [y] h4 with
                | fail =>
                  rw [eb] at ok
                  exact ok.elim
                | exc _ _ =>
                  rw [eb] at ok
                  exact ok.elim
                | ok v5 h5 =>
                  rw [eb] at ok
                  dsimp only at ok
                  obtain ⟨xs, e1, e2, e3, _⟩ := append_eq eb
                  have mD4 := x4.mp _ _ (x2.mp _ _ (x1.mp _ _ mD))
                  obtain ⟨acc, ha, ra⟩ := rh4.lst mD4 e1
                  obtain ⟨x5, rh5⟩ := rh4.setL (vs := acc) mD4 ha e3 (ws := acc ++ [y']) (by rw [revR_cons]; exact RVs.app ra (.cons ry .nil))
                  refine ⟨acc, ha, by rw [← ra.length]; exact e2, m4, h5, k', sim.mono _ _ _ _ _ _ z1 (x2.trans (x4.trans x5)), sl1.mono (x2.trans (x4.trans x5)), rh5, mD4, hP _ _ _ _ hp (x1.trans (x2.trans (x4.trans x5))), ok.ext x5⟩
where
  wipe_wip2 : wipe (wipe σ own) own = wipe σ own := by
    have key : ∀ vs : List Nat, (∀ v ∈ vs, v ∈ own) → wipe (wipe σ own) vs = wipe σ own := by
      intro vs
      induction vs with
      | nil => intro _; rfl
      | cons v vs ih =>
        intro hv
        show (wipe (wipe σ own) vs).set v none = _
        rw [ih fun w hw => hv w (List.mem_cons_of_mem _ hw)]
        apply List.ext_getElem?
        intro j
        by_cases e : v = j
        · subst e
          by_cases l : v < (wipe σ own).length
          · rw [List.getElem?_set_self l]
            cases q : (wipe σ own)[v]? with
            | none =>
              rw [List.getElem?_eq_none_iff] at q
              omega
            | some o =>
              cases o with
              | none => rfl
              | some u => exact absurd (hv v (List.mem_cons_self ..)) (wipe_some q).2
          · rw [List.getElem?_eq_none (by rw [List.length_set]; omega), List.getElem?_eq_none (by omega)]
        · rw [List.getElem?_set_ne e]
    exact key own fun v h => h
def inM (t2 : Tg) (Mi2 : Rho → Hh → R Ir) (Mt2 : Rho → Hh → R Bool) (Me : Rho → Hh → R IV) (n : Nat) (r : Rho) (h : Hh) : R Unit := (Mi2 r h).bd fun k2 h => lcL t2 (wip r (nmsT t2)) Mt2 Me n turns k2 h
def lc2M (t t2 : Tg) (own : List Nat) (Mi : Rho → Hh → R Ir) (Mt : Rho → Hh → R Bool) (Mi2 : Rho → Hh → R Ir) (Mt2 : Rho → Hh → R Bool) (Me : Rho → Hh → R IV) (r : Rho) (h : Hh) : R IV :=
  (Mi r h).bd fun k h => (newL [] h).bd fun d h => match d with
    | .ref n => (lcO t (wip r own) Mt (inM t2 Mi2 Mt2 Me n) turns k h).bd fun _ h => .ok d h
    | _ => .fail
def lcW2 (p : Pd) (J : L2.It) (Z : Nat → Ir → Mp → Hp → Prop) (E : XK) (t : Tg) (rw_ : Rho) (σw : L2.St) (Mt : Rho → Hh → R Bool) (Mn : Rho → Hh → R Unit) (D : Addr) (n : Nat) (Q : VK) (i f : Nat) (H : Hp) : Prop :=
  ∃ m h k, Z i k m H ∧ RSl p m H rw_ σw ∧ RH p m h H ∧ m n = some D ∧ Ok (RV p) p m H E ((lcO t rw_ Mt Mn f k h).bd fun _ h => .ok (.ref n) h) Q
theorem lc2_turn {J : L2.It} {Z : Nat → Ir → Mp → Hp → Prop} (sim : SimOk p J Z) {E : XK} {t t2 : Tg} {rw_ : Rho} {σ : L2.St} {own : List Nat} {Mt : Rho → Hh → R Bool} {Mi2 : Rho → Hh → R Ir} {Mt2 : Rho → Hh → R Bool} {Me : Rho → Hh → R IV} {D : Addr} {n : Nat} {Q : VK} (ht : tgIn t own = true) (ht2 : tgIn t2 (nmsT t2) = true) :
    ∀ i f H, lcW2 p J Z E t rw_ (wipe σ own) Mt (inM t2 Mi2 Mt2 Me n) D n Q i f H →
      (J.stop i H ∧ Q (.ref D) H) ∨ (J.go i H ∧ ∃ Nx : Hp → Prop, (∀ H', Nx H' → ∃ m', m' < f ∧ lcW2 p J Z E t rw_ (wipe σ own) Mt (inM t2 Mi2 Mt2 Me n) D n Q (i + 1) m' H') ∧ ∀ x H', J.yld i H x H' → gA p t x (wipe σ own) H' fun σ2 H2 => wipe σ2 own = wipe σ own ∧ rdT p W0 Mt σ2 H2 fun b H3 =>
        if b = true then rdI p W0 Mi2 σ2 H3 fun J1 H4 => ∃ W1 : Nat → Nat → Hp → Prop, (∃ m, W1 0 m H4) ∧ ∀ j k H, W1 j k H →
          (J1.stop j H ∧ Nx H) ∨ (J1.go j H ∧ ∃ Nx1 : Hp → Prop, (∀ H', Nx1 H' → ∃ k', k' < k ∧ W1 (j + 1) k' H') ∧ ∀ x H', J1.yld j H x H' → gA p t2 x (wipe σ2 (nmsT t2)) H' fun σ3 H5 => wipe σ3 (nmsT t2) = wipe σ2 (nmsT t2) ∧ rdT p W0 Mt2 σ3 H5 fun b H6 =>
            if b = true then rdE p W0 Me σ3 H6 fun y H7 => ∃ acc, H7 D = some (.lst acc) ∧ acc.length < sizeLine ∧ Nx1 (upd H7 D (.lst (acc ++ [y]))) else Nx1 H6)
        else Nx H3) := by
  intro i f H ⟨m, h, k, z, sl, rh, mD, ok⟩
  cases f with
  | zero => exact ok.elim
  | succ f =>
    unfold lcO at ok
    cases e : nxt k h with
    | fail =>
      rw [e] at ok
      exact ok.elim
    | stop =>
      rw [e] at ok
      exact .inl ⟨sim.stop i k m h H z rh e, ok m H _ Xt.refl rh (.ref mD)⟩
    | yld v k' =>
      rw [e] at ok
      dsimp only at ok
      obtain ⟨go, yl⟩ := sim.yld i k m h H v k' z rh e
      refine .inr ⟨go, fun H' => lcW2 p J Z E t rw_ (wipe σ own) Mt (inM t2 Mi2 Mt2 Me n) D n Q (i + 1) f H', fun H' w => ⟨f, Nat.lt_succ_self f, w⟩, fun x H' hy => ?_⟩
      obtain ⟨x1, rh1, rv1, z1⟩ := yl x H' hy
      have ok := ok.ext x1
      have sl1 := sl.mono x1
      cases ea : asg t v rw_ h with
      | none =>
        rw [ea] at ok
        exact ok.elim
      | some r' =>
        rw [ea] at ok
        dsimp only at ok
        refine ⟨m, rw_, h, v, r', sl1, rh1, rv1, ea, fun σ2 s2 w2 => ⟨?_, m, r', h, s2, rh1, ?_⟩⟩
        · rw [w2.2 own ht]
          exact lc_turn_g.wipe_wip2
        · cases ec : Mt r' h with
          | fail =>
            rw [ec] at ok
            exact ok.elim
          | exc _ _ =>
            rw [ec] at ok
            exact ok.elim
          | ok b h2 =>
            rw [ec] at ok
            dsimp only at ok
            intro m2 H3 b' x2 rh2 eb
            cases eb
            have ok := ok.ext x2
            cases b with
            | false =>
              rw [if_neg Bool.false_ne_true]
              exact ⟨m2, h2, k', sim.mono _ _ _ _ _ _ z1 x2, sl1.mono x2, rh2, x2.mp _ _ (x1.mp _ _ mD), ok⟩
            | true =>
              rw [if_pos rfl]
              dsimp only at ok
              refine ⟨m2, r', h2, s2.mono x2, rh2, ?_⟩
              have ei : inM t2 Mi2 Mt2 Me n r' h2 = (Mi2 r' h2).bd fun k2 h => lcL t2 (wip r' (nmsT t2)) Mt2 Me n turns k2 h := rfl
              rw [ei] at ok
              cases ee : Mi2 r' h2 with
              | fail =>
                rw [ee] at ok
                exact ok.elim
              | exc _ _ =>
                rw [ee] at ok
                exact ok.elim
              | ok k2 h4 =>
                rw [ee] at ok
                intro m4 H4 J1 x4 rh4 ri
                obtain ⟨Z1, sim1, z10⟩ := ri
                have ok := ok.ext x4
                have mD4 := x4.mp _ _ (x2.mp _ _ (x1.mp _ _ mD))
                have ok5 : Ok (RV p) p m4 H4 E ((lcL t2 (wip r' (nmsT t2)) Mt2 Me n turns k2 h4).bd fun _ h => (lcO t rw_ Mt (inM t2 Mi2 Mt2 Me n) f k' h).bd fun _ h => .ok (.ref n) h) Q := by
                  have ok : Ok (RV p) p m4 H4 E ((match lcL t2 (wip r' (nmsT t2)) Mt2 Me n turns k2 h4 with
                    | .ok _ h => lcO t rw_ Mt (inM t2 Mi2 Mt2 Me n) f k' h
                    | _ => .fail).bd fun _ h => .ok (.ref n) h) Q := ok
                  cases q : lcL t2 (wip r' (nmsT t2)) Mt2 Me n turns k2 h4 with
                  | fail =>
                    rw [q] at ok
                    exact ok.elim
                  | exc _ _ =>
                    rw [q] at ok
                    exact ok.elim
                  | ok _ _ =>
                    rw [q] at ok
                    exact ok
                refine ⟨lcWg p J1 Z1 E t2 (wip r' (nmsT t2)) (wipe σ2 (nmsT t2)) Mt2 Me D n (fun h => (lcO t rw_ Mt (inM t2 Mi2 Mt2 Me n) f k' h).bd fun _ h => .ok (.ref n) h) (fun m H => Z (i + 1) k' m H ∧ RSl p m H rw_ (wipe σ own)) Q,
                  ⟨turns, m4, h4, k2, z10, ((s2.mono x2).mono x4).wip _, rh4, mD4, ⟨sim.mono _ _ _ _ _ _ z1 (x2.trans x4), sl1.mono (x2.trans x4)⟩, ok5⟩, fun j kk HH w => ?_⟩
                rcases lc_turn_g sim1 (fun _ _ _ _ w x => ⟨sim.mono _ _ _ _ _ _ w.1 x, w.2.mono x⟩) ht2 j kk HH w with ⟨st, m6, h6, rh6, mD6, ⟨z6, sl6⟩, ok6⟩ | w
                · exact .inl ⟨st, m6, h6, k', z6, sl6, rh6, mD6, ok6⟩
                · exact .inr w
theorem lc2_rd {t t2 : Tg} {own : List (Str × Nat)} {Mi : Rho → Hh → R Ir} {Mt : Rho → Hh → R Bool} {Mi2 : Rho → Hh → R Ir} {Mt2 : Rho → Hh → R Bool} {Me : Rho → Hh → R IV} (ht : tgIn t (own.map (·.2)) = true) (ht2 : tgIn t2 (nmsT t2) = true) {σ : L2.St} {H : Hp} {Q : VK} (z : rdE p W (lc2M t t2 (own.map (·.2)) Mi Mt Mi2 Mt2 Me) σ H Q) :
    tLc2 (rdI p W Mi) (gA p t) (rdT p W0 Mt) (rdI p W0 Mi2) (gA p t2) (rdT p W0 Mt2) (rdE p W0 Me) (own.map (·.2)) (nmsT t2) σ H Q := by
  unfold lc2M at z
  obtain ⟨m, r, h, sl, rh, o⟩ := rdG.bd (rel := RI p) (k := fun r k h => (newL [] h).bd fun d h => match d with
    | .ref n => (lcO t (wip r (own.map (·.2))) Mt (inM t2 Mi2 Mt2 Me n) turns k h).bd fun _ h => .ok d h
    | _ => .fail) z
  refine ⟨m, r, h, sl, rh, o.mono fun J H1 w => ?_⟩
  obtain ⟨m1, r1, h1, k, sl1, rh1, ⟨Z, sim, z0⟩, ok1⟩ := w
  intro D hD
  unfold newL at ok1
  cases e : newLst h1 [] with
  | none =>
    rw [e] at ok1
    exact ok1.elim
  | some h2 =>
    rw [e] at ok1
    obtain ⟨m2, x2, rh2, e2⟩ := rh1.newL (vs := []) hD e .nil
    refine ⟨lcW2 p J Z (fun c d H => W c d σ H) t (wip r1 (own.map (·.2))) (wipe σ (own.map (·.2))) Mt (inM t2 Mi2 Mt2 Me h1.nx) D h1.nx Q, ⟨turns, m2, h2, k, sim.mono _ _ _ _ _ _ z0 x2, (sl1.mono x2).wip _, rh2, e2, Ok.ext ok1 x2⟩, fun i f H w => lc2_turn sim ht ht2 i f H w⟩
theorem n_lc2 (C : CxOk g T p cf W c X) (hc : c.calm = true) {elt tg iter tg1 iter1 : Expr} {ifs ifs1 : List Expr} {scope : Scope} {own : List (Str × Nat)} {pos : Pos} {t t2 : Tg} {Mi : Rho → Hh → R Ir} {Mt : Rho → Hh → R Bool} {Mi2 : Rho → Hh → R Ir} {Mt2 : Rho → Hh → R Bool} {Me : Rho → Hh → R IV}
    (hi : PI X tg iter (rdI p W Mi)) (ok : blkC c.N c.sc scope own = true) (hv : ∀ i ∈ nmsT t2, i ∈ own.map (·.2)) (ht : tgIn t (own.map (·.2)) = true) (ht2 : tgIn t2 (nmsT t2) = true)
    (hB : ∀ X', CxOk g T p cf W0 (blkCc c scope) X' → PG X' tg (gA p t) ∧ PTs X' ifs (rdT p W0 Mt) ∧ PI X' tg1 iter1 (rdI p W0 Mi2) ∧ PG X' tg1 (gA p t2) ∧ PTs X' ifs1 (rdT p W0 Mt2) ∧ PE X' elt (rdE p W0 Me)) (hs : ∀ env x, foldedSetIterable iter env x = pure x) (hs1 : ∀ env x, foldedSetIterable iter1 env x = pure x) :
    PE X (.ListComp elt [⟨tg, iter, ifs, 0⟩, ⟨tg1, iter1, ifs1, 0⟩] scope pos) (rdE p W (lc2M t t2 (own.map (·.2)) Mi Mt Mi2 Mt2 Me)) := by
  have bk := blkOk_by ok
  have hb := fun s H C0 cl fp => hB _ (blk_ok C s H scope C0 cl fp)
  refine PE.wk (pe_lc2 (C.calm hc) C.nd hi (by rw [C.n, C.sc]; exact bk) hv (fun s H C0 cl fp => (hb s H C0 cl fp).1) (fun s H C0 cl fp => (hb s H C0 cl fp).2.1) (fun s H C0 cl fp => (hb s H C0 cl fp).2.2.1) (fun s H C0 cl fp => (hb s H C0 cl fp).2.2.2.1) (fun s H C0 cl fp => (hb s H C0 cl fp).2.2.2.2.1) (fun s H C0 cl fp => (hb s H C0 cl fp).2.2.2.2.2) (fun x => hs _ x) hs1) fun σ H Q z => lc2_rd ht ht2 z
end
end
end Rk
namespace Rk
noncomputable section
open PySem PySem.Spec PyProof.Rows L2
def Iz3 (t u v : Bool) (K : PySem.W.Frag) (a b c : Addr) : L2.It :=
  ⟨fun i H => ∃ (xs ys zs : List V) (x y z : V), SqB t K H a xs ∧ SqB u K H b ys ∧ SqB v K H c zs ∧ xs[i]? = some x ∧ ys[i]? = some y ∧ zs[i]? = some z,
    fun i H w H' => ∃ T x y z, w = .ref T ∧ H T = none ∧ H' = upd H T (.tup [x, y, z]) ∧ (∀ xs, SqB t K H a xs → xs[i]? = some x) ∧ (∀ ys, SqB u K H b ys → ys[i]? = some y) ∧ ∀ zs, SqB v K H c zs → zs[i]? = some z,
    fun i H => ∃ xs ys zs : List V, SqB t K H a xs ∧ SqB u K H b ys ∧ SqB v K H c zs ∧ i ≤ xs.length ∧ i ≤ ys.length ∧ i ≤ zs.length ∧ (i = xs.length ∨ i = ys.length ∨ i = zs.length)⟩
theorem tz3 {P : Program} {w : World} {K : PySem.W.Frag} {es : List Expr} {kq : Nat} {qp : Pos} (t u v : Bool) {a b d z TI TO i1 i2 i3 : Addr} (S : ZipSep3 z TI TO i1 i2 i3 [i1, a] [i2, b] [i3, d]) (ha : a ≠ i1) (hb : b ≠ i2) (hd : d ≠ i3) :
    Turn P w K (.Tuple es kq qp) (Iz3 t u v K a b d) [z, TI, TO, i1, i2, i3] z (fun i h => IsZip h z TI TO .none ∧ IsTupOf3 h TI (.ref i1) (.ref i2) (.ref i3) ∧ (∃ x y q, IsTupOf3 h TO x y q) ∧ AtB t h i1 a i ∧ AtB u h i2 b i ∧ AtB v h i3 d i) where
  mem := by simp
  obj := fun i h st c hc => by
    obtain ⟨hz, hTI, ⟨x, y, q0, hTO⟩, h1, h2, h3⟩ := st
    have e' : c = z ∨ c = TI ∨ c = TO ∨ c = i1 ∨ c = i2 ∨ c = i3 := by simpa using hc
    rcases e' with q | q | q | q | q | q
    · rw [q]; exact ⟨_, hz, fun v q => nomatch q⟩
    · rw [q]; exact ⟨_, hTI, fun v q => nomatch q⟩
    · rw [q]; exact ⟨_, hTO, fun v q => nomatch q⟩
    · rw [q]; exact h1.obj
    · rw [q]; exact h2.obj
    · rw [q]; exact h3.obj
  keep := fun i h h' st k => by
    obtain ⟨hz, hTI, ⟨x, y, q0, hTO⟩, h1, h2, h3⟩ := st
    exact ⟨k z (by simp) _ hz, k TI (by simp) _ hTI, ⟨x, y, q0, k TO (by simp) _ hTO⟩, h1.at' fun o q => k i1 (by simp) o q, h2.at' fun o q => k i2 (by simp) o q, h3.at' fun o q => k i3 (by simp) o q⟩
  item := by
    intro X hP hw hK hc i pins s σ H E I hf st hg
    subst hP hw hK
    obtain ⟨hz, hTI, ⟨x0, y0, q0, hTO⟩, h1, h2, h3⟩ := st
    obtain ⟨xs, ys, zs, x, y, q, hqx, hqy, hqz, hx, hy, hq⟩ := hg
    obtain ⟨us, rv, p⟩ := SqB.run I hqx
    obtain ⟨us2, rv2, p2⟩ := SqB.run I hqy
    obtain ⟨us3, rv3, p3⟩ := SqB.run I hqz
    obtain ⟨u0, hu0, ru0⟩ := rv.get hx
    obtain ⟨w0, hw0, rw0⟩ := rv2.get hy
    obtain ⟨k0, hk0, rk0⟩ := rv3.get hq
    have lt1 : i < us.toArray.size := by
      rw [List.size_toArray]
      exact (List.getElem?_eq_some_iff.mp hu0).1
    have lt2 : i < us2.toArray.size := by
      rw [List.size_toArray]
      exact (List.getElem?_eq_some_iff.mp hw0).1
    have lt3 : i < us3.toArray.size := by
      rw [List.size_toArray]
      exact (List.getElem?_eq_some_iff.mp hk0).1
    have hzl : z < s.heap.objs.size := Heap.lt_size hz
    have D1 := drB (prog := X.prog) (w := X.w) (A := X.A.in1) (in1_h (I.ok.hd hc)) t i1 a ha us.toArray
    have D2 := drB (prog := X.prog) (w := X.w) (A := X.A.in1) (in1_h (I.ok.hd hc)) u i2 b hb us2.toArray
    have D3 := drB (prog := X.prog) (w := X.w) (A := X.A.in1) (in1_h (I.ok.hd hc)) v i3 d hd us3.toArray
    refine wpAny_pyNext_zipD3_item S D1 D2 D3 hz hTI hTO ⟨h1, p⟩ ⟨h2, p2⟩ ⟨h3, p3⟩ lt1 lt2 lt3 fun ua ub uc h' tk hua hub huc z' TO' st1' st2' st3' hT hsz hk => ?_
    have hua : us.toArray[i]? = some ua := hua
    have hub : us2.toArray[i]? = some ub := hub
    have huc : us3.toArray[i]? = some uc := huc
    have e1 : ua = u0 := by
      rw [List.getElem?_toArray, hu0] at hua
      exact (Option.some.inj hua).symm
    have e2 : ub = w0 := by
      rw [List.getElem?_toArray, hw0] at hub
      exact (Option.some.inj hub).symm
    have e3 : uc = k0 := by
      rw [List.getElem?_toArray, hk0] at huc
      exact (Option.some.inj huc).symm
    subst e1 e2 e3
    refine ⟨_, rfl, wpAny_letOwnedTupleGo_zip (s := { s with heap := h', toks := tk }) z' fun h3' z'' sb => ?_⟩
    have hT2 : h3'.get? s.heap.objs.size = some { cls := .type "tuple", data := .seq #[ua, ub, uc] } := (sb.2 _ (Nat.ne_of_gt hzl)).trans hT
    have new : ObjOk X.prog X.w (upd H s.heap.objs.size (.tup [x, y, q])) h3' s.heap.objs.size (.tup [x, y, q]) :=
      ⟨by show 3 ≤ sizeLine; decide, [ua, ub, uc], .cons ru0 (.cons rw0 (.cons rk0 .nil)), ⟨_, hT2, rfl, _, rfl⟩⟩
    have I1 : L2.Inv X pins σ (upd H s.heap.objs.size (.tup [x, y, q])) { s with heap := h3', toks := tk } :=
      I.turnedNew (t' := tk) (ch := [z, TI, TO, i1, i2, i3]) (fun c o hb q => (sb.2 c (fun q' => hb (by simp [q']))).trans (hk c o (fun q' => hb (by simp [q'])) (fun q' => hb (by simp [q'])) (fun q' => hb (by simp [q'])) (fun q' => hb (by simp [q'])) (fun q' => hb (by simp [q'])) q)) hf (Nat.le_refl _) new
    refine ⟨.ref s.heap.objs.size, _, I1, rfl, ⟨_, x, y, q, rfl, I.hok.fresh (Nat.le_refl _), rfl, fun l hl => by rw [SqB.inj I hl hqx]; exact hx, fun l hl => by rw [SqB.inj I hl hqy]; exact hy, fun l hl => by rw [SqB.inj I hl hqz]; exact hq⟩, ⟨z'', ?_, ⟨ua, ub, uc, ?_⟩, ?_, ?_, ?_⟩, fun c hcm => ?_⟩
    · exact (sb.2 _ S.TIz).trans (hk _ _ S.TIz S.TITO S.TIi1 S.TIi2 S.TIi3 hTI)
    · exact (sb.2 _ S.TOz).trans TO'
    · exact st1'.1.at' fun o q => (sb.2 _ fun e => S.zf1 (by rw [← e]; exact S.mem1)).trans q
    · exact st2'.1.at' fun o q => (sb.2 _ fun e => S.zf2 (by rw [← e]; exact S.mem2)).trans q
    · exact st3'.1.at' fun o q => (sb.2 _ fun e => S.zf3 (by rw [← e]; exact S.mem3)).trans q
    · have hlt : c < s.heap.objs.size := by
        have e' : c = z ∨ c = TI ∨ c = TO ∨ c = i1 ∨ c = i2 ∨ c = i3 := by simpa using hcm
        rcases e' with q | q | q | q | q | q
        · rw [q]; exact hzl
        · rw [q]; exact Heap.lt_size hTI
        · rw [q]; exact Heap.lt_size hTO
        · rw [q]; obtain ⟨_, e1, _⟩ := h1.obj; exact Heap.lt_size e1
        · rw [q]; obtain ⟨_, e1, _⟩ := h2.obj; exact Heap.lt_size e1
        · rw [q]; obtain ⟨_, e1, _⟩ := h3.obj; exact Heap.lt_size e1
      rw [upd_ne (Nat.ne_of_lt hlt)]
      exact (hf c hcm).1
  done := by
    intro X hP hw hK hc i pins s σ H E I hf st hg
    subst hP hw hK
    obtain ⟨hz, hTI, ⟨x0, y0, q0, hTO⟩, h1, h2, h3⟩ := st
    obtain ⟨xs, ys, zs, hqx, hqy, hqz, l1, l2, l3, hend⟩ := hg
    obtain ⟨us, rv, p⟩ := SqB.run I hqx
    obtain ⟨us2, rv2, p2⟩ := SqB.run I hqy
    obtain ⟨us3, rv3, p3⟩ := SqB.run I hqz
    have n1 : us.toArray.size = xs.length := by
      rw [List.size_toArray, ← rv.length]
    have n2 : us2.toArray.size = ys.length := by
      rw [List.size_toArray, ← rv2.length]
    have n3 : us3.toArray.size = zs.length := by
      rw [List.size_toArray, ← rv3.length]
    have D1 := drB (prog := X.prog) (w := X.w) (A := X.A.in1) (in1_h (I.ok.hd hc)) t i1 a ha us.toArray
    have D2 := drB (prog := X.prog) (w := X.w) (A := X.A.in1) (in1_h (I.ok.hd hc)) u i2 b hb us2.toArray
    have D3 := drB (prog := X.prog) (w := X.w) (A := X.A.in1) (in1_h (I.ok.hd hc)) v i3 d hd us3.toArray
    exact wpAny_pyNext_zipD3_end S D1 D2 D3 hz hTI hTO ⟨h1, p⟩ ⟨h2, p2⟩ ⟨h3, p3⟩ (by rw [n1]; exact l1) (by rw [n2]; exact l2) (by rw [n3]; exact l3) (by rw [n1, n2, n3]; exact hend) fun h' tk hk => ⟨rfl, I.turnedL (t' := tk) (ch := [z, TI, TO, i1, i2, i3]) (fun c o hb q =>
      hk c o (fun q' => hb (by simp [q'])) (fun q' => hb (by simp [q'])) (fun q' => hb (by simp [q'])) (fun q' => hb (by simp [q'])) (fun q' => hb (by simp [q'])) q) hf⟩
  self := fun A i s Q E st h => wpAny_pyIter_zip st.1 h
theorem Src.len {p : Pd} {t : Bool} {a : Addr} {i : Nat} {s : Sc} {m : Mp} {h : Hh} {H : Hp} (q : Src p t a i s m H) (r : RH p m h H) (n : nxs s h ≠ .fail) : ∃ vs, SqB t p.K H a vs ∧ i ≤ vs.length ∧ (nxs s h = .stop → i = vs.length) := by
  cases g : nxs s h with
  | fail => exact absurd g n
  | stop =>
    obtain ⟨vs, s1, l⟩ := q.stop r g
    exact ⟨vs, s1, Nat.le_of_eq l.symm, fun _ => l.symm⟩
  | yld v s' =>
    obtain ⟨vs, x, s1, hx, _⟩ := q.yld r g
    exact ⟨vs, s1, Nat.le_of_lt (List.getElem?_eq_some_iff.mp hx).1, fun z => by cases z⟩
theorem sim_z3 {p : Pd} {t u v : Bool} {a b d : Addr} : SimOk p (Iz3 t u v p.K a b d) fun i k m H => ∃ s s2 s3, k = .z3 s s2 s3 ∧ Src p t a i s m H ∧ Src p u b i s2 m H ∧ Src p v d i s3 m H where
  mono := fun i k m H m' H' ⟨s, s2, s3, e, q, q2, q3⟩ x => ⟨s, s2, s3, e, q.mono x, q2.mono x, q3.mono x⟩
  stop := fun i k m h H ⟨s, s2, s3, e, q, q2, q3⟩ r n => by
    subst e
    have key : nxs s h ≠ .fail ∧ nxs s2 h ≠ .fail ∧ nxs s3 h ≠ .fail ∧ (nxs s h = .stop ∨ nxs s2 h = .stop ∨ nxs s3 h = .stop) := by
      unfold nxt at n
      dsimp only at n
      cases g : nxs s h <;> cases g2 : nxs s2 h <;> cases g3 : nxs s3 h <;> rw [g, g2, g3] at n <;> first
        | (cases n; done)
        | (refine ⟨(fun z => by cases z), (fun z => by cases z), (fun z => by cases z), ?_⟩; first | exact .inl rfl | exact .inr (.inl rfl) | exact .inr (.inr rfl))
    obtain ⟨n1, n2, n3, st⟩ := key
    obtain ⟨vs, a1, a2, a3⟩ := q.len r n1
    obtain ⟨ws, b1, b2, b3⟩ := q2.len r n2
    obtain ⟨zs, c1, c2, c3⟩ := q3.len r n3
    refine ⟨vs, ws, zs, a1, b1, c1, a2, b2, c2, ?_⟩
    rcases st with z | z | z
    · exact .inl (a3 z)
    · exact .inr (.inl (b3 z))
    · exact .inr (.inr (c3 z))
  yld := fun i k m h H w k' ⟨s, s2, s3, e, q, q2, q3⟩ r n => by
    subst e
    unfold nxt at n
    dsimp only at n
    cases g : nxs s h with
    | fail =>
      rw [g] at n
      cases n
    | stop =>
      rw [g] at n
      cases g2 : nxs s2 h <;> cases g3 : nxs s3 h <;> rw [g2, g3] at n <;> cases n
    | yld v1 k1 =>
      rw [g] at n
      dsimp only at n
      cases g2 : nxs s2 h with
      | fail =>
        rw [g2] at n
        cases n
      | stop =>
        rw [g2] at n
        cases g3 : nxs s3 h <;> rw [g3] at n <;> cases n
      | yld v2 k2 =>
        rw [g2] at n
        dsimp only at n
        cases g3 : nxs s3 h with
        | fail =>
          rw [g3] at n
          cases n
        | stop =>
          rw [g3] at n
          cases n
        | yld v3 k3 =>
          rw [g3] at n
          cases n
          obtain ⟨vs, x, sx, hx, rx, nx⟩ := q.yld r g
          obtain ⟨ws, y, sy, hy, ry, ny⟩ := q2.yld r g2
          obtain ⟨zs, z, sz, hz, rz, nz⟩ := q3.yld r g3
          refine ⟨⟨vs, ws, zs, x, y, z, sx, sy, sz, hx, hy, hz⟩, fun x' H' hy' => ?_⟩
          obtain ⟨T, x2, y2, z2, e1, e2, e3, e4, e5, e6⟩ := hy'
          subst e1 e3
          have f1 := e4 _ sx
          rw [hx] at f1
          cases f1
          have f2 := e5 _ sy
          rw [hy] at f2
          cases f2
          have f3 := e6 _ sz
          rw [hz] at f3
          cases f3
          have xt : Xt m H m (upd H T (.tup [x, y, z])) := Xt.laid e2
          exact ⟨xt, r.laid e2, .tup (.inl (.inl upd_same)) (.cons (rx.mono xt) (.cons (ry.mono xt) (.cons (rz.mono xt) .nil))), k1, k2, k3, rfl, nx.mono xt, ny.mono xt, nz.mono xt⟩
def z3I (x y z : IV) (h : Hh) : R Ir := match scOf x h with
  | some s => match scOf y h with
    | some t => match scOf z h with
      | some u => .ok (.z3 s t u) h
      | none => .fail
    | none => .fail
  | none => .fail
section
variable {g : Gd} {T : Tab} {p : Pd} {cf : Nat → List IV → Hh → R IV} {W : Wx} {c : Cc} {X : Cx}
theorem i_zip3 (C : CxOk g T p cf W c X) {e e2 e3 : Expr} {M N O : Rho → Hh → R IV} {q pos qp : Pos} {es : List Expr} {kq : Nat} (hf : g.free.contains ("zip" : Str) = true) (hg : glB c.sc ("zip" : Str) = true) (hs : star e = false) (hs2 : star e2 = false) (hs3 : star e3 = false) (he : PE X e (rdE p W M)) (he2 : PE X e2 (rdE p W N)) (he3 : PE X e3 (rdE p W O)) :
    PI X (.Tuple es kq qp) (.Call (.Name "zip" q) [e, e2, e3] [] pos) (rdI p W fun r h => (M r h).bd fun x h => (N r h).bd fun y h => (O r h).bd fun z h => z3I x y z h) := by
  refine ⟨fun pins s σ H R I z => ?_⟩
  obtain ⟨m, r, h, sl, t, o⟩ := rdG.bd (rel := RV p) (k := fun r x h => (N r h).bd fun y h => (O r h).bd fun z h => z3I x y z h) z
  refine Call_ (ld_blt I (gl_ok C hg) (C.free _ hf) PyProof.Rows.boot_zip (PyProof.Rows.callWith_type1 (thn ((pa_cons he (pa_cons he2 (pa_cons he3 pa_nil (by cases e3 <;> first | rfl | cases hs3)) (by cases e2 <;> first | rfl | cases hs2)) (by cases e <;> first | rfl | cases hs)).run pos pins s σ H (fun vs H1 => ∃ x y w, vs = [x, y, w] ∧ ∃ m1 h1 a b d, RH p m1 h1 H1 ∧ RV p m1 H1 a x ∧ RV p m1 H1 b y ∧ RV p m1 H1 d w ∧ Ok (RI p) p m1 H1 (fun c d H => W c d σ H) (z3I a b d h1) R) I
    ⟨m, r, h, sl, t, o.mono fun v H1 w => ?_⟩) fun us s1 w => ?_) (by rw [star_cons hs]) (star_none (by unfold plainEs; rw [hs2]; unfold plainEs; rw [hs3]; rfl))))
  · obtain ⟨m1, r1, h1, a, sl1, rh, rv, ok⟩ := w
    refine ⟨m1, r1, h1, sl1, rh, ok.bd.mono fun v2 H2 w2 => ?_⟩
    obtain ⟨m2, h2, b, x2, rh2, rv2, ok2⟩ := w2
    refine ⟨m2, r1, h2, sl1.mono x2, rh2, ok2.bd.mono fun v3 H3 w3 => ?_⟩
    obtain ⟨m3, h3, d, x3, rh3, rv3, ok3⟩ := w3
    exact ⟨v, v2, v3, rfl, m3, h3, a, b, d, rh3, (rv.mono x2).mono x3, rv2.mono x3, rv3, ok3⟩
  · obtain ⟨vs, H1, I1, r1, x, y, w, ex, m1, h1, a, b, d, rh, rv, rv2, rv3, ok⟩ := w
    subst ex
    cases r1 with
    | cons rl rr =>
      cases rr with
      | cons rl2 rr =>
        cases rr with
        | cons rl3 rr =>
          cases rr
          unfold z3I at ok
          cases e1 : scOf a h1 with
          | none =>
            rw [e1] at ok
            exact ok.elim
          | some sc =>
            rw [e1] at ok
            dsimp only at ok
            cases e2 : scOf b h1 with
            | none =>
              rw [e2] at ok
              exact ok.elim
            | some sc2 =>
              rw [e2] at ok
              dsimp only at ok
              cases e3 : scOf d h1 with
              | none =>
                rw [e3] at ok
                exact ok.elim
              | some sc3 =>
                rw [e3] at ok
                obtain ⟨tt, ad, xs, ev, sq, src⟩ := seq_of rh rv e1
                obtain ⟨tu, bd, ys, ev2, sq2, src2⟩ := seq_of rh rv2 e2
                obtain ⟨tv, dd, zs, ev3, sq3, src3⟩ := seq_of rh rv3 e3
                subst ev ev2 ev3
                cases rl
                cases rl2
                cases rl3
                have sq' : SqB tt X.K H1 ad xs := by rw [C.K]; exact sq
                have sq2' : SqB tu X.K H1 bd ys := by rw [C.K]; exact sq2
                have sq3' : SqB tv X.K H1 dd zs := by rw [C.K]; exact sq3
                obtain ⟨us, rvv, ib⟩ := SqB.run I1 sq'
                obtain ⟨us2, rvv2, ib2⟩ := SqB.run I1 sq2'
                obtain ⟨us3, rvv3, ib3⟩ := SqB.run I1 sq3'
                refine zip_begins3 (bgB tt ad us.toArray) (bgB tu bd us2.toArray) (bgB tv dd us3.toArray) ib ib2 ib3 fun h' hz hTI hTO h1' h2' h3' hsz hk => wpAny_pyIter_zip hz ?_
                have I2 : L2.Inv X pins σ H1 { s1 with heap := h' } := I1.kept (t' := s1.toks) hk
                have al := SqB.lt ib
                have bl := SqB.lt ib2
                have dl := SqB.lt ib3
                refine ⟨s1.heap.objs.size + 5, [s1.heap.objs.size + 5, s1.heap.objs.size + 3, s1.heap.objs.size + 4, s1.heap.objs.size, s1.heap.objs.size + 1, s1.heap.objs.size + 2], _, _, H1, rfl, I2,
                  tz3 tt tu tv (zip_sep3 (fp1 := [ad]) (fp2 := [bd]) (fp3 := [dd]) (fun c hc => ?_) (fun c hc => ?_) (fun c hc => ?_)) (Nat.ne_of_lt al) (Nat.ne_of_lt (Nat.lt_succ_of_lt bl)) (Nat.ne_of_lt (Nat.lt_succ_of_lt (Nat.lt_succ_of_lt dl))), ⟨hz, hTI, ⟨_, _, _, hTO⟩, AtB.new h1', AtB.new h2', AtB.new h3'⟩, fun c hcm => ?_, ?_⟩
                · have e' : c = ad := by simpa using hc
                  rw [e']; exact al
                · have e' : c = bd := by simpa using hc
                  rw [e']; exact bl
                · have e' : c = dd := by simpa using hc
                  rw [e']; exact dl
                · have e' : c = s1.heap.objs.size + 5 ∨ c = s1.heap.objs.size + 3 ∨ c = s1.heap.objs.size + 4 ∨ c = s1.heap.objs.size ∨ c = s1.heap.objs.size + 1 ∨ c = s1.heap.objs.size + 2 := by simpa using hcm
                  have hle : s1.heap.objs.size ≤ c := by
                    rcases e' with z | z | z | z | z | z <;> rw [z] <;> first | exact Nat.le_add_right _ _ | exact Nat.le_refl _
                  exact I1.fpOk hle (I1.hok.fresh hle)
                · rw [C.K]
                  exact ok m1 H1 _ Xt.refl rh ⟨_, sim_z3, sc, sc2, sc3, rfl, src, src2, src3⟩
end
end
end Rk
namespace Rk
noncomputable section
open PySem PySem.Spec PyProof.Rows L2
def OkS (p : Pd) (W : Wx) (m : Mp) (H : Hp) (D : Ends) : RS → Prop
  | .nx r' h' => ∀ m' H' σ', Xt m H m' H' → RSl p m' H' r' σ' → RH p m' h' H' → D.nx σ' H'
  | .brk r' h' => ∀ m' H' σ', Xt m H m' H' → RSl p m' H' r' σ' → RH p m' h' H' → D.bk σ' H'
  | .cont r' h' => ∀ m' H' σ', Xt m H m' H' → RSl p m' H' r' σ' → RH p m' h' H' → D.ct σ' H'
  | .ret v h' => ∀ m' H' V, Xt m H m' H' → RH p m' h' H' → RV p m' H' v V → D.rt V H'
  | .exc x r' h' => ∀ m' H' σ' d, Xt m H m' H' → RSl p m' H' r' σ' → RH p m' h' H' → FR p m' H' x d → W (.ref (p.cA x.c)) d σ' H'
  | .fail => False
theorem OkS.ext {p : Pd} {W : Wx} {m m1 : Mp} {H H1 : Hp} {D : Ends} {r : RS} (o : OkS p W m H D r) (x : Xt m H m1 H1) : OkS p W m1 H1 D r := by
  cases r with
  | nx _ _ => exact fun m' H' σ' y => o m' H' σ' (x.trans y)
  | brk _ _ => exact fun m' H' σ' y => o m' H' σ' (x.trans y)
  | cont _ _ => exact fun m' H' σ' y => o m' H' σ' (x.trans y)
  | ret _ _ => exact fun m' H' σ' y => o m' H' σ' (x.trans y)
  | exc _ _ _ => exact fun m' H' σ' d y => o m' H' σ' d (x.trans y)
  | fail => exact o
abbrev rdM (p : Pd) (W : Wx) (M : Rho → Hh → RS) : TS := fun D σ H => ∃ m r h, RSl p m H r σ ∧ RH p m h H ∧ OkS p W m H D (M r h)
theorem rdM.st {α β : Type} {rel : Mp → Hp → α → β → Prop} {p : Pd} {W : Wx} {M : Rho → Hh → R α} {k : Rho → α → Hh → RS} {D : Ends} {σ : L2.St} {H : Hp}
    (z : rdM p W (fun r h => (M r h).st r (k r)) D σ H) :
    rdG rel p W M σ H fun b H1 => ∃ m1 r h1 a, RSl p m1 H1 r σ ∧ RH p m1 h1 H1 ∧ rel m1 H1 a b ∧ OkS p W m1 H1 D (k r a h1) := by
  obtain ⟨m, r, h, s, t, o⟩ := z
  refine ⟨m, r, h, s, t, ?_⟩
  dsimp only at o
  cases e : M r h with
  | fail =>
    rw [e] at o
    exact o
  | exc x h' =>
    rw [e] at o
    exact fun m' H' d x' rh f => o m' H' σ d x' (s.mono x') rh f
  | ok a h' =>
    rw [e] at o
    exact fun m' H' b x' rh rv => ⟨m', r, h', a, s.mono x', rh, rv, OkS.ext o x'⟩
theorem OkS.st {α β : Type} {rel : Mp → Hp → α → β → Prop} {p : Pd} {W : Wx} {M : Rho → Hh → R α} {k : α → Hh → RS} {D : Ends} {m : Mp} {H : Hp} {r : Rho} {h : Hh} {σ : L2.St} (s : RSl p m H r σ)
    (o : OkS p W m H D ((M r h).st r k)) : Ok rel p m H (fun c d H => W c d σ H) (M r h) fun b H1 => ∃ m1 h1 a, Xt m H m1 H1 ∧ RH p m1 h1 H1 ∧ rel m1 H1 a b ∧ OkS p W m1 H1 D (k a h1) := by
  cases e : M r h with
  | fail =>
    rw [e] at o
    exact o
  | exc x h' =>
    rw [e] at o
    exact fun m' H' d x' rh f => o m' H' σ d x' (s.mono x') rh f
  | ok a h' =>
    rw [e] at o
    exact fun m' H' b x' rh rv => ⟨m', h', a, x', rh, rv, OkS.ext o x'⟩
section
variable {g : Gd} {T : Tab} {p : Pd} {cf : Nat → List IV → Hh → R IV} {W : Wx} {c : Cc} {X : Cx}
theorem ss_nil : PSs X [] (rdM p W fun r h => .nx r h) := PSs.wk pss_nil fun D σ H ⟨m, r, h, s, t, o⟩ => o m H σ Xt.refl s t
def seqK (Mr : Rho → Hh → RS) : RS → RS
  | .nx r h => Mr r h
  | z => z
theorem ss_cons {st : Stmt} {rest : List Stmt} {Ms Mr : Rho → Hh → RS} (h1 : PS X st (rdM p W Ms)) (h2 : PSs X rest (rdM p W Mr)) : PSs X (st :: rest) (rdM p W fun r h => seqK Mr (Ms r h)) := by
  refine PSs.wk (pss_cons h1 h2) fun D σ H ⟨m, r, h, s, t, o⟩ => ⟨m, r, h, s, t, ?_⟩
  have o : OkS p W m H D (seqK Mr (Ms r h)) := o
  cases e : Ms r h with
  | nx r1 h1 =>
    rw [e] at o
    exact fun m' H' σ' x sl rh => ⟨m', r1, h1, sl, rh, OkS.ext o x⟩
  | brk _ _ => rw [e] at o; exact o
  | cont _ _ => rw [e] at o; exact o
  | ret _ _ => rw [e] at o; exact o
  | exc _ _ _ => rw [e] at o; exact o
  | fail => rw [e] at o; exact o
theorem s_pass {pos : Pos} : PS X (.Pass pos) (rdM p W fun r h => .nx r h) := PS.wk ps_pass fun D σ H ⟨m, r, h, s, t, o⟩ => o m H σ Xt.refl s t
theorem s_brk {pos : Pos} : PS X (.Break pos) (rdM p W fun r h => .brk r h) := PS.wk ps_break fun D σ H ⟨m, r, h, s, t, o⟩ => o m H σ Xt.refl s t
theorem s_cont {pos : Pos} : PS X (.Continue pos) (rdM p W fun r h => .cont r h) := PS.wk ps_continue fun D σ H ⟨m, r, h, s, t, o⟩ => o m H σ Xt.refl s t
def noComp : Expr → Bool
  | .ListComp .. => false
  | .SetComp .. => false
  | .DictComp .. => false
  | _ => true
theorem sw_no {e : Expr} {t : Option Expr} {l : Nat} {env : Env} (h : noComp e = true) : swapsWith e t l env = pure false := by
  cases e <;> first | rfl | cases h
theorem sw_t {e t : Expr} {l : Nat} {env : Env} (h : (match t with | .Name _ _ => false | _ => true) = true) : swapsWith e (some t) l env = pure false := by
  cases t <;> first | (cases h; done) | (cases e <;> rfl)
theorem s_exp {e : Expr} {M : Rho → Hh → R IV} {pos : Pos} (hn : noComp e = true) (he : PE X e (rdE p W M)) : PS X (.Expr e pos) (rdM p W fun r h => (M r h).st r fun _ h => .nx r h) := by
  refine PS.wk (ps_expr he (sw_no hn)) fun D σ H z => ?_
  obtain ⟨m, r, h, s, t, o⟩ := rdM.st (rel := RV p) (k := fun r _ h => .nx r h) z
  exact ⟨m, r, h, s, t, o.mono fun V H1 ⟨m1, r1, h1, a, s1, t1, _, ok⟩ => ok m1 H1 σ Xt.refl s1 t1⟩
theorem s_ret {e : Expr} {M : Rho → Hh → R IV} {pos : Pos} (he : PE X e (rdE p W M)) : PS X (.Return (some e) pos) (rdM p W fun r h => (M r h).st r fun v h => .ret v h) := by
  refine PS.wk (ps_ret he) fun D σ H z => ?_
  obtain ⟨m, r, h, s, t, o⟩ := rdM.st (rel := RV p) (k := fun _ v h => .ret v h) z
  exact ⟨m, r, h, s, t, o.mono fun V H1 ⟨m1, r1, h1, a, s1, t1, rv, ok⟩ => ok m1 H1 V Xt.refl t1 rv⟩
def ifK (Ma Mb : Rho → Hh → RS) (r : Rho) (z : Bool) (h : Hh) : RS := match z with
  | true => Ma r h
  | false => Mb r h
theorem s_if {e : Expr} {a b : List Stmt} {Mc : Rho → Hh → R Bool} {Ma Mb : Rho → Hh → RS} {pos : Pos} (hc : PT X e (rdT p W Mc)) (ha : PSs X a (rdM p W Ma)) (hb : PSs X b (rdM p W Mb)) :
    PS X (.If e a b pos) (rdM p W fun r h => (Mc r h).st r (ifK Ma Mb r)) := by
  refine PS.wk (ps_if hc ha hb) fun D σ H z => ?_
  obtain ⟨m, r, h, s, t, o⟩ := rdM.st (rel := rEq Bool) (k := ifK Ma Mb) z
  refine ⟨m, r, h, s, t, o.mono fun b H1 w => ?_⟩
  obtain ⟨m1, r1, h1, a1, s1, t1, e, ok⟩ := w
  have e : a1 = b := e
  subst e
  cases a1 with
  | true =>
    rw [if_pos rfl]
    exact ⟨m1, r1, h1, s1, t1, ok⟩
  | false =>
    rw [if_neg Bool.false_ne_true]
    exact ⟨m1, r1, h1, s1, t1, ok⟩
def asgK (t : Tg) (r : Rho) (v : IV) (h : Hh) : RS := match Rk.asg t v r h with
  | some r => .nx r h
  | none => .fail
theorem asgK_ok {t : Tg} {m : Mp} {r : Rho} {h : Hh} {v : IV} {V : V} {σ : L2.St} {H : Hp} {D : Ends} (s : RSl p m H r σ) (rh : RH p m h H) (rv : RV p m H v V) (ok : OkS p W m H D (asgK t r v h)) : gA p t V σ H D.nx := by
  unfold asgK at ok
  cases e : Rk.asg t v r h with
  | none =>
    rw [e] at ok
    exact ok.elim
  | some r' =>
    rw [e] at ok
    exact ⟨m, r, h, v, r', s, rh, rv, e, fun σ' s' _ => ok m H σ' Xt.refl s' rh⟩
def isName : Expr → Bool
  | .Name .. => true
  | _ => false
def isTupE : Expr → Bool
  | .Tuple .. => true
  | _ => false
theorem sw_none {t e : Expr} {env : Env} (h : (isName t || !isTupE e) = true) : swappedStores [t] e env = pure none := by
  cases t <;> first
    | rfl
    | (cases e <;> first | rfl | cases h)
def isLst : Expr → Bool
  | .List .. => true
  | _ => false
theorem s_asg {tg e : Expr} {t : Tg} {M : Rho → Hh → R IV} {pos : Pos} (hn : noComp e = true) (hw : (isName tg || !isTupE e) = true) (hs : star tg = false) (hg : PG X tg (gA p t)) (he : PE X e (rdE p W M)) :
    PS X (.Assign [tg] e pos) (rdM p W fun r h => (M r h).st r (asgK t r)) := by
  refine PS.wk (ps_asg he hg (sw_no hn) (sw_none hw) (by rw [asgE_cons hs]; rfl)) fun D σ H z => ?_
  obtain ⟨m, r, h, s, t1, o⟩ := rdM.st (rel := RV p) (k := asgK t) z
  exact ⟨m, r, h, s, t1, o.mono fun V H1 ⟨m1, r1, h1, a, s1, t2, rv, ok⟩ => asgK_ok s1 t2 rv ok⟩
theorem s_asg' {tg e : Expr} {t : Tg} {M : Rho → Hh → R IV} {pos : Pos} (hn : swapsWith e (some tg) pos.line X.env = pure false) (hw : swappedStores [tg] e X.env = pure none) (hs : star tg = false) (hg : PG X tg (gA p t)) (he : PE X e (rdE p W M)) :
    PS X (.Assign [tg] e pos) (rdM p W fun r h => (M r h).st r (asgK t r)) := by
  refine PS.wk (ps_asg he hg hn hw (by rw [asgE_cons hs]; rfl)) fun D σ H z => ?_
  obtain ⟨m, r, h, s, t1, o⟩ := rdM.st (rel := RV p) (k := asgK t) z
  exact ⟨m, r, h, s, t1, o.mono fun V H1 ⟨m1, r1, h1, a, s1, t2, rv, ok⟩ => asgK_ok s1 t2 rv ok⟩
theorem sw_ok {e t : Expr} {l : Nat} {env : Env} (h : (noComp e || !isName t) = true) : swapsWith e (some t) l env = pure false := by
  rw [Bool.or_eq_true] at h
  rcases h with h | h
  · exact sw_no h
  · refine sw_t ?_
    cases t <;> first | rfl | cases h
theorem s_setLc (C : CxOk g T p cf W c X) (hc : c.calm = true) {i : Nat} {y : Str} {py : Pos} {elt tg iter : Expr} {ifs : List Expr} {scope : Scope} {own : List (Str × Nat)} {pos spos : Pos} {t : Tg} {Mi : Rho → Hh → R Ir} {Mt : Rho → Hh → R Bool} {Me : Rho → Hh → R IV}
    (hy : at? c.N i = some y) (hyl : c.sc.names.lookup y = some .local) (hk : c.sc.kind = .function) (hl : (py.line == pos.line) = true) (han : (scope.names.any fun (n, k) => n == y && (k == .local || k == .cell)) = false)
    (hi : PI X tg iter (rdI p W Mi)) (ok : blkC c.N c.sc scope own = true) (ht : tgIn t (own.map (·.2)) = true)
    (hB : ∀ X', CxOk g T p cf W0 (blkCc c scope) X' → PG X' tg (gA p t) ∧ PTs X' ifs (rdT p W0 Mt) ∧ PE X' elt (rdE p W0 Me)) (hs : ∀ env x, foldedSetIterable iter env x = pure x) :
    PS X (.Assign [.Name y py] (.ListComp elt [⟨tg, iter, ifs, 0⟩] scope pos) spos) (rdM p W fun r h => (lcM t (own.map (·.2)) Mi Mt Me r h).st r (asgK (.nm i) r)) := by
  have bk := blkOk_by ok
  refine PS.wk (ps_setLc (C.calm hc) C.nd (i := i) (by rw [C.n, ← at_list]; exact hy) (by rw [C.sc]; exact hyl) (sw_true (by rw [C.sc]; exact hk) (by rw [C.sc]; exact hyl) hl han) hi (by rw [C.n, C.sc]; exact bk) (fun s H C0 cl fp => (hB _ (blk_ok C s H scope C0 cl fp)).1) (fun s H C0 cl fp => (hB _ (blk_ok C s H scope C0 cl fp)).2.1) (fun s H C0 cl fp => (hB _ (blk_ok C s H scope C0 cl fp)).2.2) (fun x => hs _ x)) fun D σ H z => ?_
  have z2 := rdM.st (rel := RV p) (k := asgK (.nm i)) z
  refine lc_rd ht (Q := fun x H1 => gName i x σ H1 D.nx) ?_
  obtain ⟨m, r, h, s, t1, o⟩ := z2
  exact ⟨m, r, h, s, t1, o.mono fun V H1 ⟨m1, r1, h1, a, s1, t2, rv, ok⟩ => ok m1 H1 _ Xt.refl (s1.put rv) t2⟩
theorem s_setLc2 (C : CxOk g T p cf W c X) (hc : c.calm = true) {i : Nat} {y : Str} {py : Pos} {elt tg iter tg1 iter1 : Expr} {ifs ifs1 : List Expr} {scope : Scope} {own : List (Str × Nat)} {pos spos : Pos} {t t2 : Tg} {Mi : Rho → Hh → R Ir} {Mt : Rho → Hh → R Bool} {Mi2 : Rho → Hh → R Ir} {Mt2 : Rho → Hh → R Bool} {Me : Rho → Hh → R IV}
    (hy : at? c.N i = some y) (hyl : c.sc.names.lookup y = some .local) (hk : c.sc.kind = .function) (hl : (py.line == pos.line) = true) (han : (scope.names.any fun (n, k) => n == y && (k == .local || k == .cell)) = false)
    (hi : PI X tg iter (rdI p W Mi)) (ok : blkC c.N c.sc scope own = true) (hv : ∀ i ∈ nmsT t2, i ∈ own.map (·.2)) (ht : tgIn t (own.map (·.2)) = true) (ht2 : tgIn t2 (nmsT t2) = true)
    (hB : ∀ X', CxOk g T p cf W0 (blkCc c scope) X' → PG X' tg (gA p t) ∧ PTs X' ifs (rdT p W0 Mt) ∧ PI X' tg1 iter1 (rdI p W0 Mi2) ∧ PG X' tg1 (gA p t2) ∧ PTs X' ifs1 (rdT p W0 Mt2) ∧ PE X' elt (rdE p W0 Me)) (hs : ∀ env x, foldedSetIterable iter env x = pure x) (hs1 : ∀ env x, foldedSetIterable iter1 env x = pure x) :
    PS X (.Assign [.Name y py] (.ListComp elt [⟨tg, iter, ifs, 0⟩, ⟨tg1, iter1, ifs1, 0⟩] scope pos) spos) (rdM p W fun r h => (lc2M t t2 (own.map (·.2)) Mi Mt Mi2 Mt2 Me r h).st r (asgK (.nm i) r)) := by
  have bk := blkOk_by ok
  have hb := fun s H C0 cl fp => hB _ (blk_ok C s H scope C0 cl fp)
  refine PS.wk (ps_setLc2 (C.calm hc) C.nd (i := i) (by rw [C.n, ← at_list]; exact hy) (by rw [C.sc]; exact hyl) (sw_true (by rw [C.sc]; exact hk) (by rw [C.sc]; exact hyl) hl han) hi (by rw [C.n, C.sc]; exact bk) hv (fun s H C0 cl fp => (hb s H C0 cl fp).1) (fun s H C0 cl fp => (hb s H C0 cl fp).2.1) (fun s H C0 cl fp => (hb s H C0 cl fp).2.2.1) (fun s H C0 cl fp => (hb s H C0 cl fp).2.2.2.1) (fun s H C0 cl fp => (hb s H C0 cl fp).2.2.2.2.1) (fun s H C0 cl fp => (hb s H C0 cl fp).2.2.2.2.2) (fun x => hs _ x) hs1) fun D σ H z => ?_
  have z2 := rdM.st (rel := RV p) (k := asgK (.nm i)) z
  refine lc2_rd ht ht2 (Q := fun x H1 => gName i x σ H1 D.nx) ?_
  obtain ⟨m, r, h, s, t1, o⟩ := z2
  exact ⟨m, r, h, s, t1, o.mono fun V H1 ⟨m1, r1, h1, a, s1, t2, rv, ok⟩ => ok m1 H1 _ Xt.refl (s1.put rv) t2⟩
theorem set_wk {t t' : TSet} (h : PSet X t) (i : ∀ o j v H Q, t' o j v H Q → t o j v H Q) : PSet X t' := fun pn s sg H o j v ov iv u Q I a b d q => h pn s sg H o j v ov iv u Q I a b d (i o j v H Q q)
def subK (r : Rho) (v x y : IV) (h : Hh) : RS := nxO r (setAt x y v h)
theorem nxO_some {m : Mp} {H : Hp} {D : Ends} {r : Rho} {o : Option Hh} (ok : OkS p W m H D (nxO r o)) : ∃ h', o = some h' ∧ OkS p W m H D (.nx r h') := by
  cases o with
  | none => exact ok.elim
  | some h' => exact ⟨h', rfl, ok⟩
theorem revR_set {q : List IV} {j : Nat} {v : IV} (l : j < q.length) : revR (q.set (Nat.sub (Nat.sub (lenR q) j) 1) v) = (revR q).set j v := by
  rw [revR_eq, revR_eq, lenR_eq]
  show (q.set (q.length - j - 1) v).reverse = _
  apply List.ext_getElem?
  intro i
  by_cases li : i < q.length
  · rw [List.getElem?_reverse (by rw [List.length_set]; exact li), List.length_set]
    by_cases e : i = j
    · subst e
      have e2 : q.length - 1 - i = q.length - i - 1 := by omega
      rw [e2, List.getElem?_set_self (by omega), List.getElem?_set_self (by rw [List.length_reverse]; exact li)]
    · rw [List.getElem?_set_ne (by omega), List.getElem?_set_ne (fun z => e z.symm), List.getElem?_reverse li]
  · rw [List.getElem?_eq_none (by rw [List.length_reverse, List.length_set]; omega), List.getElem?_eq_none (by rw [List.length_set, List.length_reverse]; omega)]
def rSetK : TSet := fun o i v H Q => ∃ a H', o = .ref a ∧ DPut H a i v H' ∧ Q H'
def rSetX : TSet := fun o i v H Q => rSetL o i v H Q ∨ rSetK o i v H Q
theorem set_all (hu : X.A.units + 65 < cLine) : PSet X rSetX := by
  intro pn s sg H o i v ov iv u Q I ro ri rv q
  rcases q with q | q
  · exact set_list pn s sg H o i v ov iv u Q I ro ri rv q
  · obtain ⟨a, H', rfl, g, q⟩ := q
    cases ro
    exact d_setItem (by omega) I g ri rv fun s4 I4 => ⟨H', I4, q⟩
theorem setAt_ok {m : Mp} {h h' : Hh} {v x y : IV} {vV U Y : L2.V} {H : Hp} {Q : Hp → Prop} (rh : RH p m h H) (rv : RV p m H v vV) (rx : RV p m H x U) (ry : RV p m H y Y) (e : setAt x y v h = some h')
    (k : ∀ H', Xt m H m H' → RH p m h' H' → Q H') : rSetX U Y vV H Q := by
  cases rx <;> first | (cases e; done) | skip
  rename_i n a em
  unfold setAt at e
  dsimp only at e
  cases e1 : h.get n with
  | none =>
    rw [e1] at e
    cases e
  | some o =>
    rw [e1] at e
    cases o with
    | inst _ _ => cases e
    | dict d =>
      right
      have e : setAtK n d y v h = some h' := e
      obtain ⟨t, lk, kvs⟩ := d
      unfold setAtK at e
      cases lk with
      | true => cases e
      | false =>
        dsimp only at e
        cases hk : dkey t y with
        | false =>
          rw [hk] at e
          cases e
        | true =>
          rw [hk] at e
          dsimp only at e
          obtain ⟨ht, hky⟩ := dkey_t hk
          subst ht
          cases hl : Nat.blt kvs.length 1000 with
          | false =>
            rw [hl] at e
            cases e
          | true =>
            rw [hl] at e
            obtain ⟨r, h1, h2⟩ := rh.dct em e1 rfl
            obtain ⟨q, hq⟩ := kOk_key hky
            have ln : r.length < 1000 := by
              have z : Nat.ble (kvs.length + 1) 1000 = true := hl
              rw [Nat.ble_eq] at z
              rw [← h2.len]
              exact z
            obtain ⟨xt, rh'⟩ := rh.setO (u' := .dK (L2.putK r q vV)) em ⟨_, h1, trivial⟩ e fun x => ⟨_, upd_same, (h2.put hq rv).mono x⟩
            exact ⟨a, _, rfl, .inl ⟨r, q, h1, kV_of ry hq, Nat.lt_of_lt_of_le ln (by decide), rfl⟩, k _ xt rh'⟩
    | lst xs =>
      left
      have e : setAtL n xs y v h = some h' := e
      unfold setAtL at e
      obtain ⟨i, rfl, rfl⟩ : ∃ i, y = .int i ∧ Y = .int i := by
        cases ry <;> first | (cases e; done) | exact ⟨_, rfl, rfl⟩
      dsimp only at e
      cases e2 : place (lenR xs) i with
      | none =>
        rw [e2] at e
        cases e
      | some j =>
        rw [e2] at e
        dsimp only at e
        obtain ⟨vs, hv, rvs⟩ := rh.lst em e1
        have lj : j < xs.length := by
          have := place_lt e2
          rwa [lenR_eq] at this
        obtain ⟨xt, rh'⟩ := rh.setL (vs := vs) (ws := vs.set j vV) em hv e (by rw [revR_set lj]; exact RVs.set rv j rvs)
        exact ⟨a, vs, i, j, rfl, rfl, hv, by rw [← rvs.length, ← lenR_rev]; exact place_ok e2, k _ xt rh'⟩
theorem subK_ok {m : Mp} {r : Rho} {h : Hh} {v x y : IV} {vV U Y : L2.V} {σ : L2.St} {H : Hp} {D : Ends} (s : RSl p m H r σ) (rh : RH p m h H) (rv : RV p m H v vV) (rx : RV p m H x U) (ry : RV p m H y Y) (ok : OkS p W m H D (subK r v x y h)) :
    rSetX U Y vV H fun H3 => D.nx σ H3 := by
  obtain ⟨h', e, ok⟩ := nxO_some ok
  exact setAt_ok rh rv rx ry e fun H' xt rh' => ok m H' σ xt (s.mono xt) rh'
theorem s_sub (C : CxOk g T p cf W c X) {o i e : Expr} {Mo Mi Me : Rho → Hh → R IV} {pos spos : Pos} (hns : noSlice i = true) (he : PE X e (rdE p W Me)) (ho : PE X o (rdE p W Mo)) (hi : PE X i (rdE p W Mi)) :
    PS X (.Assign [.Subscript o i spos] e pos) (rdM p W fun r h => (Me r h).st r fun v h => (Mo r h).st r fun x h => (Mi r h).st r fun y h => subK r v x y h) := by
  refine PS.wk (ps_asg he (pg_sub ho hi (set_all C.un) (by intro v; cases i <;> first | rfl | cases hns)) (show swapsWith e (some (.Subscript o i spos)) pos.line X.env = pure false from sw_t rfl) (by cases e <;> rfl) rfl) fun D σ H z => ?_
  obtain ⟨m, r, h, s, t1, o1⟩ := rdM.st (rel := RV p) (k := fun r v h => (Mo r h).st r fun x h => (Mi r h).st r fun y h => subK r v x y h) z
  refine ⟨m, r, h, s, t1, o1.mono fun V H1 w => ?_⟩
  obtain ⟨m1, r1, h1, a, s1, t2, rv, ok⟩ := w
  refine ⟨m1, r1, h1, s1, t2, (OkS.st (rel := RV p) s1 ok).mono fun U H2 w2 => ?_⟩
  obtain ⟨m2, h2, b, x2, t3, rx, ok2⟩ := w2
  refine ⟨m2, r1, h2, s1.mono x2, t3, (OkS.st (rel := RV p) (s1.mono x2) ok2).mono fun Y H3 w3 => ?_⟩
  obtain ⟨m3, h3, y, x3, t4, ry, ok3⟩ := w3
  exact subK_ok ((s1.mono x2).mono x3) t4 ((rv.mono x2).mono x3) (rx.mono x3) ry ok3
def opiR (p : Pd) (o : Op) : TIp := fun x y H Q => ∃ m h a b E, RH p m h H ∧ RV p m H a x ∧ RV p m H b y ∧ Ok (RV p) p m H E (opi o a b h) Q
theorem ip_wk {op : Operator} {t t' : TIp} (h : PIp X op t) (i : ∀ x y H Q, t' x y H Q → t x y H Q) : PIp X op t' := fun pn s sg H x y v u Q I a b q => h pn s sg H x y v u Q I a b (i x y H Q q)
theorem opi_ok (o : Op) : PIp X (opX o) (opiR p o) := by
  have key : ∀ x y H Q, opiR p o x y H Q → ∃ i j, x = .int i ∧ y = .int j ∧ ((o = .add ∧ Q (.int (i + j)) H) ∨ (o = .sub ∧ Q (.int (i - j)) H)) := by
    intro x y H Q ⟨m, h, a, b, E, rh, ra, rb, ok⟩
    cases ra <;> first | exact ok.elim | skip
    cases rb <;> first | exact ok.elim | skip
    rename_i i j
    cases o <;> first | exact ok.elim | skip
    · exact ⟨i, j, rfl, rfl, .inl ⟨rfl, Ok.int rh ok⟩⟩
    · exact ⟨i, j, rfl, rfl, .inr ⟨rfl, Ok.int rh ok⟩⟩
  cases o with
  | add =>
    refine ip_wk ip_add fun x y H Q z => ?_
    obtain ⟨i, j, e1, e2, h⟩ := key x y H Q z
    rcases h with ⟨_, h⟩ | ⟨h, _⟩
    · exact ⟨i, j, e1, e2, h⟩
    · cases h
  | sub =>
    refine ip_wk ip_sub fun x y H Q z => ?_
    obtain ⟨i, j, e1, e2, h⟩ := key x y H Q z
    rcases h with ⟨h, _⟩ | ⟨_, h⟩
    · cases h
    · exact ⟨i, j, e1, e2, h⟩
  | mul =>
    intro pn s sg H x y v u Q I a b q
    obtain ⟨i, j, e1, e2, h⟩ := key x y H Q q
    rcases h with ⟨h, _⟩ | ⟨h, _⟩ <;> cases h
  | fdiv =>
    intro pn s sg H x y v u Q I a b q
    obtain ⟨i, j, e1, e2, h⟩ := key x y H Q q
    rcases h with ⟨h, _⟩ | ⟨h, _⟩ <;> cases h
  | mod =>
    intro pn s sg H x y v u Q I a b q
    obtain ⟨i, j, e1, e2, h⟩ := key x y H Q q
    rcases h with ⟨h, _⟩ | ⟨h, _⟩ <;> cases h
  | pow =>
    intro pn s sg H x y v u Q I a b q
    obtain ⟨i, j, e1, e2, h⟩ := key x y H Q q
    rcases h with ⟨h, _⟩ | ⟨h, _⟩ <;> cases h
def augM (i : Nat) (o : Op) (Me : Rho → Hh → R IV) (r : Rho) (h : Hh) : RS := match get r i with
  | some x => (Me r h).st r fun y h => (opi o x y h).st r fun z h => .nx (put r i (some z)) h
  | none => .fail
theorem s_aug (C : CxOk g T p cf W c X) (o : Op) {i : Nat} {x : Str} {e : Expr} {Me : Rho → Hh → R IV} {pos npos : Pos} (hx : at? c.N i = some x) (hl : locB c x = true) (he : PE X e (rdE p W Me)) :
    PS X (.AugAssign (.Name x npos) (opX o) e pos) (rdM p W (augM i o Me)) := by
  obtain ⟨l1, l2⟩ := locB_ok C hl
  refine PS.wk (ps_aug C.nd (i := i) (by rw [C.n, ← at_list]; exact hx) l1 he (opi_ok (p := p) o) l2) fun D σ H z => ?_
  obtain ⟨m, r, h, s, t, ok⟩ := z
  unfold augM at ok
  cases e1 : get r i with
  | none =>
    rw [e1] at ok
    exact ok.elim
  | some v =>
    rw [e1] at ok
    obtain ⟨V, hV, rV⟩ := s.2 i v e1
    refine ⟨V, hV, m, r, h, s, t, (OkS.st (rel := RV p) (M := Me) s ok).mono fun U H1 w => ?_⟩
    obtain ⟨m1, h1, b, x1, t1, rb, ok1⟩ := w
    have s1 := s.mono x1
    refine ⟨m1, h1, v, b, _, t1, rV.mono x1, rb, (OkS.st (rel := RV p) (M := fun _ h => opi o v b h) s1 ok1).mono fun Z H2 w2 => ?_⟩
    obtain ⟨m2, h2, z, x2, t2, rz, ok2⟩ := w2
    exact ok2 m2 H2 _ Xt.refl ((s1.mono x2).put rz) t2
theorem get_listL : PGet X (rIxL X.K) := by
  intro pn s sg H o i ov iv Q I ro ri h
  obtain ⟨q, xs, k, z, rfl, rfl, hq, he, q1⟩ := h
  cases ro
  obtain ⟨t, rfl⟩ := ri
  obtain ⟨its, r, pl, hz⟩ := I.list hq
  obtain ⟨j, h1, h2, h3, h4, h5⟩ := atI_get he
  obtain ⟨w, ew, rw'⟩ := r.get h2
  have hl := r.length
  have hn := line63
  by_cases h0 : 0 ≤ k
  · have hj : k.toNat = j := by
      rw [seqIndex_of h0 h5] at h1
      exact Option.some.inj h1
    exact wpAny_getItem_list pl.isList h0 (by omega) (by rw [hj]; simpa using ew) ⟨z, H, I, rw', q1⟩
  · have hj : (k + (its.toArray.size : Int)).toNat = j := by
      rw [seqIndex_neg (by omega) h4] at h1
      rw [List.size_toArray, ← hl]
      exact Option.some.inj h1
    exact wpAny_getItem_list_neg pl.isList (by omega) (by rw [List.size_toArray] <;> omega) (by omega) (by rw [hj]; simpa using ew) ⟨z, H, I, rw', q1⟩
def get_all (hu : X.A.units + 65 < cLine) : PGet X fun x y H Q => rIxL X.K x y H Q ∨ rIxK x y H Q := by
  intro pn s sg H o i ov iv Q I ro ri h
  rcases h with h | h
  · exact get_listL pn s sg H o i ov iv Q I ro ri h
  · obtain ⟨a, w, rfl, g, q⟩ := h
    cases ro
    exact d_getItem (by omega) I g ri fun w' s3 I3 rw' => ⟨w, H, I3, rw', q⟩
def augSM (o : Op) (Ma Mi Me : Rho → Hh → R IV) (r : Rho) (h : Hh) : RS :=
  (Ma r h).st r fun x h => (Mi r h).st r fun y h => (idxL x y h).st r fun z h => (Me r h).st r fun w h => (opi o z w h).st r fun u h => subK r u x y h
theorem idxL_ok {m : Mp} {h : Hh} {H : Hp} {E : XK} {x y : IV} {U Y : L2.V} {Q : VK} (hK : X.K = p.K) (rh : RH p m h H) (rx : RV p m H x U) (ry : RV p m H y Y) (o3 : Ok (RV p) p m H E (idxL x y h) Q) : rIxL X.K U Y H Q ∨ rIxK U Y H Q := by
  cases rx <;> first | exact o3.elim | skip
  rename_i n l em
  have o3 : Ok (RV p) p m H E (Rk.idx (.ref n) y h) Q := o3
  unfold Rk.idx at o3
  dsimp only at o3
  cases g1 : h.get n with
  | none =>
    rw [g1] at o3
    exact o3.elim
  | some ob =>
    rw [g1] at o3
    cases ob with
    | inst _ _ => exact o3.elim
    | dict d =>
      right
      have o3 : Ok (RV p) p m H E (idxK d y h) Q := o3
      unfold idxK at o3
      cases hk : dkey d.t y with
      | false =>
        rw [hk] at o3
        exact o3.elim
      | true =>
        rw [hk] at o3
        obtain ⟨v, e, o⟩ := ofO_some (p := p) (show Ok (RV p) p m H E (ofO (dlook y d.kvs) h) Q from o3)
        obtain ⟨oo, h1, h2, _⟩ := dget_ok rh em g1 hk ry
        obtain ⟨V, e1, rv⟩ := h2 v e
        subst e1
        exact ⟨l, V, rfl, h1, o m H V Xt.refl rh rv⟩
    | lst xs =>
      left
      have o5 : Ok (RV p) p m H E (idxQ xs y h) Q := o3
      obtain ⟨k, rfl, rfl⟩ : ∃ i, y = .int i ∧ Y = .int i := by
        cases ry <;> first | exact o5.elim | exact ⟨_, rfl, rfl⟩
      obtain ⟨vs, hv, rvs⟩ := rh.lst em g1
      obtain ⟨v, e3, o4⟩ := ofO_some (p := p) (show Ok (RV p) p m H E (ofO (itemQ xs k) h) Q from o5)
      rw [itemQ_eq] at e3
      obtain ⟨Z, e4, rz⟩ := itemAt_ok rvs e3
      exact ⟨l, vs, k, Z, rfl, rfl, SqL.of hv, e4, o4 m H Z Xt.refl rh rz⟩
theorem s_augS (C : CxOk g T p cf W c X) (o : Op) {a i e : Expr} {Ma Mi Me : Rho → Hh → R IV} {pos spos : Pos} (hns : noSlice i = true) (ha : PE X a (rdE p W Ma)) (hi : PE X i (rdE p W Mi)) (he : PE X e (rdE p W Me)) :
    PS X (.AugAssign (.Subscript a i spos) (opX o) e pos) (rdM p W (augSM o Ma Mi Me)) := by
  refine PS.wk (ps_augS ha hi (get_all C.un) he (opi_ok (p := p) o) (set_all C.un) (by intro ov iv nw; cases i <;> first | rfl | cases hns)) fun D σ H z => ?_
  obtain ⟨m, r, h, s, t1, o1⟩ := rdM.st (rel := RV p) (M := Ma) (k := fun r x h => (Mi r h).st r fun y h => (idxL x y h).st r fun z h => (Me r h).st r fun w h => (opi o z w h).st r fun u h => subK r u x y h) z
  refine ⟨m, r, h, s, t1, o1.mono fun U H1 w => ?_⟩
  obtain ⟨m1, r1, h1, x, s1, t2, rx, ok⟩ := w
  refine ⟨m1, r1, h1, s1, t2, (OkS.st (rel := RV p) (M := Mi) s1 ok).mono fun Y H2 w2 => ?_⟩
  obtain ⟨m2, h2, y, x2, t3, ry, ok2⟩ := w2
  have s2 := s1.mono x2
  have rx := rx.mono x2
  refine idxL_ok C.K t3 rx ry ((OkS.st (rel := RV p) (M := fun _ h => idxL x y h) s2 ok2).mono fun Z H3 w3 => ?_)
  obtain ⟨m3, h3, zv, x3, t4, rz3, ok3⟩ := w3
  have s3 := s2.mono x3
  refine ⟨m3, r1, h3, s3, t4, (OkS.st (rel := RV p) (M := Me) s3 ok3).mono fun Vw H4 w4 => ?_⟩
  obtain ⟨m4, h4, wv, x4, t5, rw4, ok4⟩ := w4
  have s4 := s3.mono x4
  refine ⟨m4, h4, zv, wv, _, t5, rz3.mono x4, rw4, (OkS.st (rel := RV p) (M := fun _ h => opi o zv wv h) s4 ok4).mono fun Uu H5 w5 => ?_⟩
  obtain ⟨m5, h5, uv, x5, t6, ru, ok5⟩ := w5
  exact subK_ok (s4.mono x5) t6 ru (((rx.mono x3).mono x4).mono x5) (((ry.mono x3).mono x4).mono x5) ok5
theorem s_del {a i : Expr} {Ma Mi : Rho → Hh → R IV} {pos spos : Pos} (ha : PE X a (rdE p W Ma)) (hi : PE X i (rdE p W Mi)) :
    PS X (.Delete [.Subscript a i spos] pos) (rdM p W fun r h => (Ma r h).st r fun x h => (Mi r h).st r fun y h => nxO r (delAt x y h)) := by
  refine PS.wk (ps_ddel ha hi) fun D σ H z => ?_
  obtain ⟨m, r, h, s, t1, o1⟩ := rdM.st (rel := RV p) (M := Ma) (k := fun r x h => (Mi r h).st r fun y h => nxO r (delAt x y h)) z
  refine ⟨m, r, h, s, t1, o1.mono fun U H1 w => ?_⟩
  obtain ⟨m1, r1, h1, x, s1, t2, rx, ok⟩ := w
  refine ⟨m1, r1, h1, s1, t2, (OkS.st (rel := RV p) (M := Mi) s1 ok).mono fun Y H2 w2 => ?_⟩
  obtain ⟨m2, h2, y, x2, t3, ry, ok2⟩ := w2
  have s2 := s1.mono x2
  have rx := rx.mono x2
  obtain ⟨h', e, ok9⟩ := nxO_some ok2
  clear ok2 ok
  cases rx <;> first | (cases e; done) | skip
  rename_i n l em
  unfold delAt at e
  dsimp only at e
  cases g1 : h2.get n with
  | none =>
    rw [g1] at e
    cases e
  | some ob =>
    rw [g1] at e
    cases ob with
    | lst _ => cases e
    | inst _ _ => cases e
    | dict d =>
      obtain ⟨t, lk, kvs⟩ := d
      cases t with
      | true => cases e
      | false =>
        cases lk with
        | true => cases e
        | false =>
          dsimp only at e
          cases hk : kOk y with
          | false =>
            rw [hk] at e
            cases e
          | true =>
            rw [hk] at e
            dsimp only at e
            cases hl : dlook y kvs with
            | none =>
              rw [hl] at e
              cases e
            | some v =>
              rw [hl] at e
              dsimp only at e
              obtain ⟨r, h1, h2⟩ := t3.dct em g1 rfl
              obtain ⟨q, hq⟩ := kOk_key hk
              obtain ⟨z, hz, _⟩ := (RKv.look hq h2).1 v hl
              obtain ⟨xt, rh'⟩ := t3.setO (u' := .dK (dropK r q)) em ⟨_, h1, trivial⟩ e fun x => ⟨_, upd_same, (h2.drop hq).mono x⟩
              exact ⟨l, r, q, rfl, h1, kV_of ry hq, by rw [hz]; rfl, ok9 m2 _ σ xt (s2.mono xt) rh'⟩
def fW (p : Pd) (W : Wx) (Z : Nat → Ir → Mp → Hp → Prop) (t : Tg) (Mb : Rho → Hh → RS) (D : Ends) (i f : Nat) (σ : L2.St) (H : Hp) : Prop :=
  ∃ m r h k, Z i k m H ∧ RSl p m H r σ ∧ RH p m h H ∧ OkS p W m H D (forL t Mb f k r h)
theorem s_for (C : CxOk g T p cf W c X) (hc : c.calm = true) {tg iter : Expr} {body : List Stmt} {t : Tg} {Mi : Rho → Hh → R Ir} {Mb : Rho → Hh → RS} {pos : Pos} (hi : PI X tg iter (rdI p W Mi)) (hg : PG X tg (gA p t)) (hb : PSs X body (rdM p W Mb)) (hs : ∀ env x, foldedSetIterable iter env x = pure x) :
    PS X (.For tg iter body [] pos) (rdM p W fun r h => (Mi r h).st r fun k h => forL t Mb turns k r h) := by
  refine PS.wk (ps_for C.own (C.calm hc) hi hg hb (hs _)) fun D σ H z => ?_
  obtain ⟨m, r, h, s, t1, o⟩ := rdM.st (rel := RI p) (k := fun r k h => forL t Mb turns k r h) z
  refine ⟨m, r, h, s, t1, o.mono fun J H1 w => ?_⟩
  obtain ⟨m1, r1, h1, k, s1, t2, ⟨Z, sim, z0⟩, ok⟩ := w
  refine ⟨fW p W Z t Mb D, ⟨turns, m1, r1, h1, k, z0, s1, t2, ok⟩, fun i f σ H w => ?_⟩
  obtain ⟨m, r, h, k, z, s, rh, ok⟩ := w
  cases f with
  | zero => exact ok.elim
  | succ f =>
    unfold forL at ok
    cases e : nxt k h with
    | fail =>
      rw [e] at ok
      exact ok.elim
    | stop =>
      rw [e] at ok
      exact .inl ⟨sim.stop i k m h H z rh e, ok m H σ Xt.refl s rh⟩
    | yld v k' =>
      rw [e] at ok
      dsimp only at ok
      obtain ⟨go, yl⟩ := sim.yld i k m h H v k' z rh e
      refine .inr ⟨go, fun σ' H' => fW p W Z t Mb D (i + 1) f σ' H', fun σ' H' w => ⟨f, Nat.lt_succ_self f, w⟩, fun x H' hy => ?_⟩
      obtain ⟨x1, rh1, rv1, z1⟩ := yl x H' hy
      have ok := OkS.ext ok x1
      have s1 := s.mono x1
      cases ea : Rk.asg t v r h with
      | none =>
        rw [ea] at ok
        exact ok.elim
      | some r' =>
        rw [ea] at ok
        dsimp only at ok
        refine ⟨m, r, h, v, r', s1, rh1, rv1, ea, fun σ2 s2 _ => ⟨m, r', h, s2, rh1, ?_⟩⟩
        cases eb : Mb r' h with
        | nx r2 h2 =>
          rw [eb] at ok
          exact fun m' H3 σ' x' s' rh' => ⟨m', r2, h2, k', sim.mono _ _ _ _ _ _ z1 x', s', rh', OkS.ext ok x'⟩
        | cont r2 h2 =>
          rw [eb] at ok
          exact fun m' H3 σ' x' s' rh' => ⟨m', r2, h2, k', sim.mono _ _ _ _ _ _ z1 x', s', rh', OkS.ext ok x'⟩
        | brk r2 h2 =>
          rw [eb] at ok
          exact ok
        | ret v2 h2 =>
          rw [eb] at ok
          exact ok
        | exc x2 r2 h2 =>
          rw [eb] at ok
          exact ok
        | fail =>
          rw [eb] at ok
          exact ok
def wW (p : Pd) (W : Wx) (Mc : Rho → Hh → R Bool) (Mb : Rho → Hh → RS) (D : Ends) (f : Nat) (σ : L2.St) (H : Hp) : Prop :=
  ∃ m r h, RSl p m H r σ ∧ RH p m h H ∧ OkS p W m H D (whlL Mc Mb f r h)
theorem s_whl (C : CxOk g T p cf W c X) {e : Expr} {body : List Stmt} {Mc : Rho → Hh → R Bool} {Mb : Rho → Hh → RS} {pos : Pos} (hc : PT X e (rdT p W Mc)) (hb : PSs X body (rdM p W Mb)) :
    PS X (.While e body [] pos) (rdM p W fun r h => whlL Mc Mb turns r h) := by
  refine PS.wk (ps_while C.own hc hb) fun D σ H z => ?_
  obtain ⟨m, r, h, s, t, ok⟩ := z
  refine ⟨wW p W Mc Mb D, ⟨turns, m, r, h, s, t, ok⟩, fun f σ H w => ?_⟩
  obtain ⟨m, r, h, s, rh, ok⟩ := w
  cases f with
  | zero => exact ok.elim
  | succ f =>
    unfold whlL at ok
    refine ⟨m, r, h, s, rh, ?_⟩
    cases e : Mc r h with
    | fail =>
      rw [e] at ok
      exact ok.elim
    | exc x h' =>
      rw [e] at ok
      exact fun m' H' d x' rh' f' => ok m' H' σ d x' (s.mono x') rh' f'
    | ok b h' =>
      rw [e] at ok
      dsimp only at ok
      intro m1 H1 b' x1 rh1 eb
      cases eb
      have ok := OkS.ext ok x1
      have s1 := s.mono x1
      cases b with
      | false =>
        rw [if_neg Bool.false_ne_true]
        exact ok m1 H1 σ Xt.refl s1 rh1
      | true =>
        rw [if_pos rfl]
        refine ⟨fun σ' H' => wW p W Mc Mb D f σ' H', fun σ' H' w => ⟨f, Nat.lt_succ_self f, w⟩, m1, r, h', s1, rh1, ?_⟩
        dsimp only at ok
        cases eb : Mb r h' with
        | nx r2 h2 =>
          rw [eb] at ok
          exact fun m' H3 σ' x' s' rh' => ⟨m', r2, h2, s', rh', OkS.ext ok x'⟩
        | cont r2 h2 =>
          rw [eb] at ok
          exact fun m' H3 σ' x' s' rh' => ⟨m', r2, h2, s', rh', OkS.ext ok x'⟩
        | brk r2 h2 =>
          rw [eb] at ok
          exact ok
        | ret v2 h2 =>
          rw [eb] at ok
          exact ok
        | exc x2 r2 h2 =>
          rw [eb] at ok
          exact ok
        | fail =>
          rw [eb] at ok
          exact ok
end
end
end Rk
namespace Rk
noncomputable section
open PySem PySem.Spec PyProof.Rows L2
def optB (o : Option Str) (x : Str) : Bool := match o with
  | some y => decide (y = x)
  | none => false
theorem optB_ok {o : Option Str} {x : Str} (h : optB o x = true) : o = some x := by
  cases o with
  | none => cases h
  | some y =>
    unfold optB at h
    rw [of_decide_eq_true h]
def cstB (v : IV) (k : Const) : Bool := match v with
  | .non => match k with
    | .none => true
    | _ => false
  | .bl b => match k with
    | .bool b' => decide (b = b')
    | _ => false
  | .int i => match k with
    | .int j => decide (i = j)
    | _ => false
  | .str x => match k with
    | .str y => decide (x = y)
    | _ => false
  | _ => false
def fnB (o : Option (Str × List Str)) (x : Str) : Bool := match o with
  | some (y, _) => decide (y = x)
  | none => false
def fnP (o : Option (Str × List Str)) : List Str := match o with
  | some (_, ps) => ps
  | none => []
def bN : Bi → Str
  | .len => "len"
  | .abs => "abs"
  | .int => "int"
  | .list => "list"
  | .tuple => "tuple"
  | .all => "all"
  | .any => "any"
  | .sum => "sum"
  | .min => "min"
  | .max => "max"
  | .sorted => "sorted"
  | .rng1 => "range"
  | .rng2 => "range"
def biOk : Bi → Bool
  | _ => true
def notCall : Expr → Bool
  | .Call (.Name id _) _ _ _ => id != ("super" : Str)
  | .Call (.Attribute _ _ _) _ _ _ => true
  | .Call .. => false
  | _ => true
theorem base_ok {o : Expr} {nm : Str} {env : Env} (h : notCall o = true) : attributeBase o nm env (eval o env) = eval o env := by
  unfold notCall at h
  split at h
  · rename_i id p es kws pos
    unfold attributeBase
    cases es <;> cases kws <;> (first | (simp [h]; done) | rfl)
  · unfold attributeBase
    rfl
  · cases h
  · rename_i h2 h3 h4
    cases o <;> first | rfl | exact absurd rfl (h4 _ _ _ _)
theorem fold_ok {e : Expr} (h : noSet e = true) : ∀ env x, foldedSetIterable e env x = pure x := by
  intro env x
  cases e <;> first | rfl | cases h
def kNil : List Keyword → Bool
  | [] => true
  | _ => false
def exNil : List Expr → Bool
  | [] => true
  | _ => false
mutual
def mTg : Tg → Cc → Expr → Bool
  | .nm i, c, e => match e with
    | .Name x _ => optB (at? c.N i) x && locB c x
    | _ => false
  | .tp ts, c, e => match e with
    | .Tuple l _ _ => plainEs l && (decide (l.length = ts.length) && mTgs ts c l)
    | _ => false
def mTgs : List Tg → Cc → List Expr → Bool
  | [], _, l => exNil l
  | t :: ts, c, l => match l with
    | [] => false
    | e :: l => mTg t c e && mTgs ts c l
end
def bmB (m : Bm) (n : Str) (l : List Expr) : Bool := match m with
  | .append => decide (n = Str.ofString "append") && Nat.beq l.length 1
  | .extend => decide (n = Str.ofString "extend") && Nat.beq l.length 1
  | .count => decide (n = Str.ofString "count") && Nat.beq l.length 1
  | .index => decide (n = Str.ofString "index") && Nat.beq l.length 1
  | .pop => decide (n = Str.ofString "pop") && Nat.beq l.length 0
  | .get => decide (n = Str.ofString "get") && (Nat.beq l.length 1 || Nat.beq l.length 2)
  | .setdefault => false
def clB (o : Option Gc) (x : Str) : Bool := match o with
  | some G => decide (G.name = x)
  | none => false
def calleeB : Expr → Bool
  | .Subscript .. => true
  | .Name .. => true
  | _ => false
def b3 (b : Bi) : Bool := match b with
  | .min => true
  | .max => true
  | _ => false
mutual
def mE (g : Gd) : E → Cc → Expr → Bool
  | .var i, c, e => match e with
    | .Name x _ => nmB x && (visB c.sc x && optB (at? c.N i) x)
    | _ => false
  | .cst v, _, e => match e with
    | .Constant k _ _ => cstB v k
    | _ => false
  | .glo n, c, e => match e with
    | .Name x _ => nmB x && (glB c.sc x && optB (at? g.glo n) x)
    | _ => false
  | .tup es, c, e => match e with
    | .Tuple l _ _ => Nat.ble l.length 1000 && mEs g es c l
    | _ => false
  | .lst es, c, e => match e with
    | .List l _ => Nat.ble l.length 1000 && mEs g es c l
    | _ => false
  | .bin o a b, c, e => match e with
    | .BinOp x op y _ => decide (op = opX o) && (mE g a c x && mE g b c y)
    | _ => false
  | .neg a, c, e => match e with
    | .UnaryOp .USub x _ => mE g a c x
    | _ => false
  | .not a, c, e => match e with
    | .UnaryOp .Not x _ => mE g a c x
    | _ => false
  | .and a b, c, e => match e with
    | .BoolOp .And (x :: y :: r) _ => mE g a c x && (match r with
      | [] => mE g b c y
      | _ :: _ => mA g b c (y :: r))
    | _ => false
  | .or a b, c, e => match e with
    | .BoolOp .Or (x :: y :: r) _ => mE g a c x && (match r with
      | [] => mE g b c y
      | _ :: _ => mO g b c (y :: r))
    | _ => false
  | .cmp o a b, c, e => match e with
    | .Compare x [op] [y] _ => decide (op = cpX o) && (noSet y && (mE g a c x && mE g b c y))
    | _ => false
  | .chain o o2 a b d, c, e => match e with
    | .Compare x [op, op2] [y, z] _ => decide (op = cpX o) && (decide (op2 = cpX o2) && (!lastMarks [cpX o, cpX o2] [y, z] && (mE g a c x && (mE g b c y && mE g d c z))))
    | _ => false
  | .chain3 o o2 o3 a b d f, c, e => match e with
    | .Compare x [op, op2, op3] [y, z, u] _ => decide (op = cpX o) && (decide (op2 = cpX o2) && (decide (op3 = cpX o3) && (!lastMarks [cpX o, cpX o2, cpX o3] [y, z, u] && (mE g a c x && (mE g b c y && (mE g d c z && mE g f c u))))))
    | _ => false
  | .ite t a b, c, e => match e with
    | .IfExp u x y _ => mE g t c u && (mE g a c x && mE g b c y)
    | _ => false
  | .call f as, c, e => match e with
    | .Call (.Name x _) l [] _ => nmB x && (glB c.sc x && (fnB (at? g.fns f) x && (decide (l.length = (fnP (at? g.fns f)).length) && mEs g as c l)))
    | _ => false
  | .callk f as ks ws, c, e => match e with
    | .Call (.Name x _) l kws _ => nmB x && (glB c.sc x && (fnB (at? g.fns f) x && (decide ((f, l.length, ks) ∈ g.kws) && (kwPlain kws (ks.map fun k => (fnP (at? g.fns f)).getD k Str.empty) && (mEs g as c l && mEs g ws c (kwVals kws))))))
    | _ => false
  | .bi b as, c, e => match e with
    | .Call (.Name x _) (y :: l) [] _ => biOk b && (decide (x = bN b) && (g.free.contains (bN b) && (glB c.sc (bN b) && mEs g as c (y :: l))))
    | _ => false
  | .bi2 b a d, c, e => match e with
    | .Call (.Name x _) [y, z] [] _ => biOk b && (decide (x = bN b) && (g.free.contains (bN b) && (glB c.sc (bN b) && (!star y && (!star z && (mE g a c y && mE g d c z))))))
    | _ => false
  | .idx a b, c, e => match e with
    | .Subscript x y _ => noSlice y && (mE g a c x && mE g b c y)
    | _ => false
  | .sl a lo hi, c, e => match e with
    | .Subscript x (.Slice l u none _) _ => mE g a c x && (mP g lo c l && mP g hi c u)
    | _ => false
  | .slr a, c, e => match e with
    | .Subscript x (.Slice none none (some (.UnaryOp .USub (.Constant (.int 1) _ _) _)) _) _ => mE g a c x
    | _ => false
  | .bm m o as, c, e => match e with
    | .Call (.Attribute x n ap) l [] cp => bmB m n l && (notCall x && ((ap.endLine == cp.line) && (mE g o c x && mEs g as c l)))
    | _ => false
  | .att o f, c, e => match e with
    | .Attribute x n _ => optB (at? g.flds f) n && (notCall x && mE g o c x)
    | _ => false
  | .mk k as, c, e => match e with
    | .Call (.Name x _) l [] _ => nmB x && (glB c.sc x && (clB (at? g.cls k) x && mEs g as c l))
    | _ => false
  | .mth m o as, c, e => match e with
    | .Call (.Attribute x n ap) l [] cp => optB (at? g.mids m) n && (notCall x && ((ap.endLine == cp.line) && (Nat.blt l.length 29 && (mE g o c x && mEs g as c l))))
    | _ => false
  | .fnv i, c, e => match e with
    | .Name x _ => nmB x && (glB c.sc x && fnB (at? g.fns i) x)
    | _ => false
  | .callv f as, c, e => match e with
    | .Call x (y :: l) [] _ => calleeB x && (mE g f c x && mEs g as c (y :: l))
    | _ => false
  | .pack l a, c, e => match l with
    | true => match e with
      | .List es _ => mPk g a c es
      | _ => false
    | false => match e with
      | .Tuple es _ _ => mPk g a c es
      | _ => false
  | .bid b a d, c, e => match e with
    | .Call (.Name x _) [y] [⟨some k, z, _⟩] _ => b3 b && (decide (x = bN b) && (g.free.contains (bN b) && (glB c.sc (bN b) && (decide (k = Str.ofString "default") && (!star y && (mE g a c y && mE g d c z))))))
    | _ => false
  | .min3 b a d f, c, e => match e with
    | .Call (.Name x _) [y, z, u] [] _ => b3 b && (decide (x = bN b) && (g.free.contains (bN b) && (glB c.sc (bN b) && (!star y && (!star z && (!star u && (mE g a c y && (mE g d c z && mE g f c u))))))))
    | _ => false
  | .dnew t, c, e => match t with
    | false => match e with
      | .Dict [] [] _ => true
      | _ => false
    | true => false
  | .lc own elt t it cs, c, e => match e with
    | .ListComp x [⟨tg, iter, ifs, 0⟩] scope _ => blkC c.N c.sc scope (own.map fun i => ((at? c.N i).getD Str.empty, i)) && (tgIn t own && (mTg t (blkCc c scope) tg && (noSet iter && (mI g it c tg iter && (mC g cs (blkCc c scope) ifs && mE g elt (blkCc c scope) x)))))
    | _ => false
  | .lc2 own elt t it cs t2 it2 cs2, c, e => match e with
    | .ListComp x [⟨tg, iter, ifs, 0⟩, ⟨tg2, iter2, ifs2, 0⟩] scope _ => blkC c.N c.sc scope (own.map fun i => ((at? c.N i).getD Str.empty, i)) && (tgIn t own && (tgIn t2 (nmsT t2) && ((nmsT t2).all (fun i => own.contains i) && (mTg t (blkCc c scope) tg && (mTg t2 (blkCc c scope) tg2 && (noSet iter && (noSet iter2 && (mI g it c tg iter && (mC g cs (blkCc c scope) ifs && (mI g it2 (blkCc c scope) tg2 iter2 && (mC g cs2 (blkCc c scope) ifs2 && mE g elt (blkCc c scope) x)))))))))))
    | _ => false
  | .isi a ts, c, e => match e with
    | .Call (.Name n _) [x, .Name y _] [] _ => match ts with
      | [t] => decide (n = Str.ofString "isinstance") && (plainTy t && (decide (y = tyS t) && (g.free.contains (tyS t) && (glB c.sc (tyS t) && (g.free.contains (Str.ofString "isinstance") && (glB c.sc (Str.ofString "isinstance") && (!star x && mE g a c x)))))))
      | _ => false
    | .Call (.Name n _) [x, .Tuple [.Name y _, .Name z _] _ _] [] _ => match ts with
      | [t, u] => decide (n = Str.ofString "isinstance") && (plainTy t && (decide (y = tyS t) && (g.free.contains (tyS t) && (glB c.sc (tyS t) && (plainTy u && (decide (z = tyS u) && (g.free.contains (tyS u) && (glB c.sc (tyS u) && (g.free.contains (Str.ofString "isinstance") && (glB c.sc (Str.ofString "isinstance") && (!star x && mE g a c x)))))))))))
      | _ => false
    | _ => false
  | .lit (.zip a b), c, e => match e with
    | .Call (.Name n _) [.Call (.Name k _) [x, y] [] _] [] _ => decide (n = Str.ofString "list") && (decide (k = Str.ofString "zip") && (g.free.contains (Str.ofString "zip") && (glB c.sc (Str.ofString "zip") && (g.free.contains (Str.ofString "list") && (glB c.sc (Str.ofString "list") && (!star x && (!star y && (mE g a c x && mE g b c y))))))))
    | _ => false
  | _, _, _ => false
def mEs (g : Gd) : List E → Cc → List Expr → Bool
  | [], _, l => exNil l
  | a :: as, c, l => match l with
    | [] => false
    | e :: l => !star e && (mE g a c e && mEs g as c l)
def mA (g : Gd) : E → Cc → List Expr → Bool
  | .and a b, c, l => match l with
    | x :: y :: r => mE g a c x && (match r with
      | [] => mE g b c y
      | _ :: _ => mA g b c (y :: r))
    | _ => false
  | _, _, _ => false
def mO (g : Gd) : E → Cc → List Expr → Bool
  | .or a b, c, l => match l with
    | x :: y :: r => mE g a c x && (match r with
      | [] => mE g b c y
      | _ :: _ => mO g b c (y :: r))
    | _ => false
  | _, _, _ => false
def mPk (g : Gd) : E → Cc → List Expr → Bool
  | .pn, _, l => exNil l
  | .pc s a b, c, l => match l with
    | [] => false
    | e :: l => (match s with
      | true => (match e with
        | .Starred x _ => mE g a c x
        | _ => false)
      | false => !star e && mE g a c e) && mPk g b c l
  | _, _, _ => false
def mP (g : Gd) : Option E → Cc → Option Expr → Bool
  | none, _, o => match o with
    | none => true
    | some _ => false
  | some a, c, o => match o with
    | none => false
    | some e => mE g a c e
def mC (g : Gd) : List E → Cc → List Expr → Bool
  | [], _, l => exNil l
  | a :: _, c, l => match l with
    | [e] => mE g a c e
    | _ => false
def mI (g : Gd) : It → Cc → Expr → Expr → Bool
  | .ex a, c, _, e => mE g a c e
  | .rng1 a, c, _, e => match e with
    | .Call (.Name n _) [x] [] _ => decide (n = Str.ofString "range") && (g.free.contains (Str.ofString "range") && (glB c.sc (Str.ofString "range") && (!star x && mE g a c x)))
    | _ => false
  | .rng2 a b, c, _, e => match e with
    | .Call (.Name n _) [x, y] [] _ => decide (n = Str.ofString "range") && (g.free.contains (Str.ofString "range") && (glB c.sc (Str.ofString "range") && (!star x && (!star y && (mE g a c x && mE g b c y)))))
    | _ => false
  | .rng3 a b, c, _, e => match e with
    | .Call (.Name n _) [x, y, .UnaryOp .USub (.Constant (.int 1) _ _) _] [] _ => decide (n = Str.ofString "range") && (g.free.contains (Str.ofString "range") && (glB c.sc (Str.ofString "range") && (!star x && (!star y && (mE g a c x && mE g b c y)))))
    | _ => false
  | .revR1 a, c, _, e => match e with
    | .Call (.Name n _) [.Call (.Name k _) [x] [] _] [] _ => decide (n = Str.ofString "reversed") && (decide (k = Str.ofString "range") && (g.free.contains (Str.ofString "range") && (glB c.sc (Str.ofString "range") && (g.free.contains (Str.ofString "reversed") && (glB c.sc (Str.ofString "reversed") && (!star x && mE g a c x))))))
    | _ => false
  | .revR a b, c, _, e => match e with
    | .Call (.Name n _) [.Call (.Name k _) [x, y] [] _] [] _ => decide (n = Str.ofString "reversed") && (decide (k = Str.ofString "range") && (g.free.contains (Str.ofString "range") && (glB c.sc (Str.ofString "range") && (g.free.contains (Str.ofString "reversed") && (glB c.sc (Str.ofString "reversed") && (!star x && (!star y && (mE g a c x && mE g b c y))))))))
    | _ => false
  | .enum a, c, t, e => match t with
    | .Tuple _ _ _ => match e with
      | .Call (.Name n _) [x] [] _ => decide (n = Str.ofString "enumerate") && (g.free.contains (Str.ofString "enumerate") && (glB c.sc (Str.ofString "enumerate") && (!star x && mE g a c x)))
      | _ => false
    | _ => false
  | .zip3 a b d, c, t, e => match t with
    | .Tuple _ _ _ => match e with
      | .Call (.Name n _) [x, y, z] [] _ => decide (n = Str.ofString "zip") && (g.free.contains (Str.ofString "zip") && (glB c.sc (Str.ofString "zip") && (!star x && (!star y && (!star z && (mE g a c x && (mE g b c y && mE g d c z)))))))
      | _ => false
    | _ => false
  | .zip a b, c, t, e => match t with
    | .Tuple _ _ _ => match e with
      | .Call (.Name n _) [x, y] [] _ => decide (n = Str.ofString "zip") && (g.free.contains (Str.ofString "zip") && (glB c.sc (Str.ofString "zip") && (!star x && (!star y && (mE g a c x && mE g b c y)))))
      | _ => false
    | _ => false
  | _, _, _, _ => false
end
theorem evs_len {T : Tab} {cf : Nat → List IV → Hh → R IV} : ∀ {es : List E} {r : Rho} {h h' : Hh} {vs : List IV}, evs T cf es r h = .ok vs h' → vs.length = es.length
  | [], r, h, h', vs, e => by
    unfold evs at e
    cases e
    rfl
  | a :: es, r, h, h', vs, e => by
    unfold evs at e
    cases e1 : ev T cf a r h with
    | fail =>
      rw [e1] at e
      cases e
    | exc _ _ =>
      rw [e1] at e
      cases e
    | ok x h1 =>
      rw [e1] at e
      have e : ((evs T cf es r h1).bd fun xs h => R.ok (x :: xs) h) = .ok vs h' := e
      cases e2 : evs T cf es r h1 with
      | fail =>
        rw [e2] at e
        cases e
      | exc _ _ =>
        rw [e2] at e
        cases e
      | ok xs h2 =>
        rw [e2] at e
        cases e
        show xs.length + 1 = es.length + 1
        rw [evs_len e2]
theorem mEs_len {g : Gd} : ∀ {es : List E} {c : Cc} {l : List Expr}, mEs g es c l = true → l.length = es.length ∧ plainEs l = true
  | [], c, l, h => by
    unfold mEs at h
    cases l with
    | nil => exact ⟨rfl, rfl⟩
    | cons _ _ => cases h
  | a :: es, c, l, h => by
    unfold mEs at h
    cases l with
    | nil => cases h
    | cons e l =>
      dsimp only at h
      rw [Bool.and_eq_true, Bool.and_eq_true] at h
      obtain ⟨h1, h2⟩ := mEs_len h.2.2
      refine ⟨by show l.length + 1 = es.length + 1; rw [h1], ?_⟩
      unfold plainEs
      rw [h2, h.1]
      rfl
section
variable {g : Gd} {T : Tab} {p : Pd} {cf : Nat → List IV → Hh → R IV} {W : Wx} {c : Cc} {X : Cx}
theorem fns_ok {f : Nat} {x : Str} (h : fnB (at? g.fns f) x = true) : at? g.fns f = some (x, fnP (at? g.fns f)) := by
  cases e : at? g.fns f with
  | none =>
    rw [e] at h
    cases h
  | some q =>
    rw [e] at h
    obtain ⟨y, ps⟩ := q
    have h1 : y = x := of_decide_eq_true h
    subst h1
    rfl
theorem isList_ok {x : IV} {h : Hh} (e : isList x h = true) : ∃ n q, x = .ref n ∧ h.get n = some (.lst q) := by
  cases x <;> first | (cases e; done) | skip
  rename_i n
  unfold isList at e
  dsimp only at e
  cases g : h.get n with
  | none =>
    rw [g] at e
    cases e
  | some o =>
    rw [g] at e
    cases o with
    | lst q => exact ⟨n, q, rfl, g⟩
    | dict _ => cases e
    | inst _ _ => cases e
theorem isDct_ok {x : IV} {h : Hh} (e : isDct x h = true) : ∃ n d, x = .ref n ∧ h.get n = some (.dict d) ∧ d.t = false := by
  cases x <;> first | (cases e; done) | skip
  rename_i n
  unfold isDct at e
  dsimp only at e
  cases g : h.get n with
  | none =>
    rw [g] at e
    cases e
  | some o =>
    rw [g] at e
    cases o with
    | lst q => cases e
    | inst _ _ => cases e
    | dict d =>
      refine ⟨n, d, rfl, g, ?_⟩
      obtain ⟨t, lk, kvs⟩ := d
      cases t with
      | false => rfl
      | true => cases e
theorem lst_at {m : Mp} {h : Hh} {H : Hp} {x : IV} {V : L2.V} (t : RH p m h H) (rv : RV p m H x V) (e : isList x h = true) : ∃ a vs, V = .ref a ∧ H a = some (.lst vs) := by
  obtain ⟨n, q, rfl, g⟩ := isList_ok e
  cases rv with
  | ref em =>
    obtain ⟨vs, hv, _⟩ := t.lst em g
    exact ⟨_, vs, rfl, hv⟩
theorem isList_r {x : IV} {h : Hh} (e : isList x h = true) : isR x = true := by
  obtain ⟨n, q, rfl, _⟩ := isList_ok e
  rfl
def bmK (mm : Bm) (Mo : Rho → Hh → R IV) (Ms : Rho → Hh → R (List IV)) (r : Rho) (h : Hh) : R IV := (Mo r h).bd fun x h => match recv mm x h with
  | true => (Ms r h).bd fun vs h => bmt mm x vs h
  | false => .fail
def BmR (p : Pd) (mm : Bm) (r : V → List V → Hp → VK → Prop) : Prop := ∀ {m : Mp} {h : Hh} {H : Hp} {E : XK} {x : IV} {as : List IV} {U : V} {Us : List V} {Q : VK}, isR x = true → RH p m h H → RV p m H x U → RVs p m H as Us → Ok (RV p) p m H E (bmt mm x as h) Q → r U Us H Q
theorem bm_rd {mm : Bm} {Mo : Rho → Hh → R IV} {Ms : Rho → Hh → R (List IV)} {rr : V → List V → Hp → VK → Prop} (hm : ∀ x h, recv mm x h = isList x h) (val : BmR p mm rr) {σ : L2.St} {H : Hp} {Q : VK} (z : rdE p W (bmK mm Mo Ms) σ H Q) :
    rdE p W Mo σ H fun x H1 => (∃ a vs, x = .ref a ∧ H1 a = some (.lst vs)) ∧ rdA p W Ms σ H1 fun us H2 => rr x us H2 Q := by
  obtain ⟨m, r, h, s, t, ok⟩ := rdG.bd (rel := RV p) (M := Mo) (k := fun r x h => match recv mm x h with
      | true => (Ms r h).bd fun vs h => bmt mm x vs h
      | false => .fail) z
  refine ⟨m, r, h, s, t, ok.mono fun V H1 w => ?_⟩
  obtain ⟨m1, r1, h1, x, s1, t1, rv, ok1⟩ := w
  cases e : recv mm x h1 with
  | false =>
    rw [e] at ok1
    exact ok1.elim
  | true =>
    rw [e] at ok1
    have ok1 : Ok (RV p) p m1 H1 _ ((Ms r1 h1).bd fun vs h => bmt mm x vs h) Q := ok1
    rw [hm] at e
    refine ⟨lst_at t1 rv e, m1, r1, h1, s1, t1, (Ok.bd (rel := RVs p) ok1).mono fun us H2 w2 => ?_⟩
    obtain ⟨m2, h2, as, x2, t2, ra, ok2⟩ := w2
    exact val (isList_r e) t2 (rv.mono x2) ra ok2
theorem n_bmL {mm : Bm} {nm : Str} {id : String} {rr : V → List V → Hp → VK → Prop} (hm : ∀ x h, recv mm x h = isList x h) (sl : Slot "list" nm id) (ty : typeOf (.builtin id) = pure (.type "method_descriptor")) (mt : MtR X id rr) (val : BmR p mm rr)
    {o e : Expr} {Mo : Rho → Hh → R IV} {Ms : Rho → Hh → R (List IV)} {apos cpos : Pos} (hn : notCall o = true) (hl : (apos.endLine == cpos.line) = true) (hs : star e = false) (ho : PE X o (rdE p W Mo)) (ha : PA X [e] (rdA p W Ms)) :
    PE X (.Call (.Attribute o nm apos) [e] [] cpos) (rdE p W (bmK mm Mo Ms)) := by
  refine PE.wk (pe_bm PySem.F.plainAttrs_list sl ty (r := rr) mt ho ha (base_ok hn) (by rw [star_cons hs]; rfl) hl (star_cons hs) rfl) fun σ H Q z => ?_
  obtain ⟨m, r, h, s, t, ok⟩ := bm_rd hm val z
  refine ⟨m, r, h, s, t, ok.mono fun V H1 w => ?_⟩
  obtain ⟨⟨a, vs, rfl, hv⟩, q⟩ := w
  exact ⟨.inl ⟨rfl, vs, SqL.of hv⟩, q⟩
theorem n_bmL0 {mm : Bm} {nm : Str} {id : String} {rr : V → List V → Hp → VK → Prop} (hm : ∀ x h, recv mm x h = isList x h) (sl : Slot "list" nm id) (ty : typeOf (.builtin id) = pure (.type "method_descriptor")) (mt : MtR X id rr) (val : BmR p mm rr)
    {o : Expr} {Mo : Rho → Hh → R IV} {apos cpos : Pos} (hn : notCall o = true) (hl : (apos.endLine == cpos.line) = true) (ho : PE X o (rdE p W Mo)) :
    PE X (.Call (.Attribute o nm apos) [] [] cpos) (rdE p W (bmK mm Mo fun _ h => .ok [] h)) := by
  refine PE.wk (pe_bm0 PySem.F.plainAttrs_list sl ty (r := rr) mt ho (base_ok hn) hl) fun σ H Q z => ?_
  obtain ⟨m, r, h, s, t, ok⟩ := rdG.bd (rel := RV p) (M := Mo) (k := fun r x h => match recv mm x h with
      | true => (R.ok ([] : List IV) h).bd fun vs h => bmt mm x vs h
      | false => .fail) z
  refine ⟨m, r, h, s, t, ok.mono fun V H1 w => ?_⟩
  obtain ⟨m1, r1, h1, x, s1, t1, rv, ok1⟩ := w
  cases e : recv mm x h1 with
  | false =>
    rw [e] at ok1
    exact ok1.elim
  | true =>
    rw [e] at ok1
    have ok1 : Ok (RV p) p m1 H1 _ (bmt mm x [] h1) Q := ok1
    rw [hm] at e
    obtain ⟨a, vs, rfl, hv⟩ := lst_at t1 rv e
    exact ⟨.inl ⟨rfl, vs, SqL.of hv⟩, val (isList_r e) t1 rv .nil ok1⟩
theorem v_append : BmR p .append rAppend := by
  intro m h H E x as U Us Q hx t rv ra ok
  cases ra with
  | nil => cases x <;> exact ok.elim
  | cons ry rn =>
    cases rn with
    | cons _ _ => cases x <;> exact ok.elim
    | nil =>
      rename_i y V
      cases rv <;> first | exact ok.elim | skip
      rename_i n a em
      cases eb : bmt .append (.ref n) [y] h with
      | fail =>
        rw [eb] at ok
        exact ok.elim
      | exc xx hh =>
        unfold bmt at eb
        dsimp only at eb
        split at eb <;> first | (split at eb <;> first | (split at eb <;> first | (split at eb <;> cases eb) | cases eb) | cases eb) | cases eb
      | ok v h3 =>
        rw [eb] at ok
        obtain ⟨zs, e1, e2, e3, e4⟩ := append_eq eb
        subst e4
        obtain ⟨acc, hac, rac⟩ := t.lst em e1
        obtain ⟨x5, rh5⟩ := t.setL (ws := acc ++ [V]) em hac e3 (by rw [revR_cons]; exact RVs.app rac (.cons ry .nil))
        exact ⟨a, acc, V, rfl, rfl, hac, by rw [← rac.length]; exact e2, ok m _ _ x5 rh5 .non⟩
theorem v_extend : BmR p .extend rExtend := by
  intro m h H E x as U Us Q hx t rv ra ok
  cases ra with
  | nil => cases x <;> exact ok.elim
  | cons ry rn =>
    cases rn with
    | cons _ _ => cases x <;> exact ok.elim
    | nil =>
      rename_i y V
      cases rv <;> first | exact ok.elim | skip
      rename_i n a em
      unfold bmt at ok
      dsimp only at ok
      cases g1 : h.get n with
      | none =>
        rw [g1] at ok
        exact ok.elim
      | some o =>
        rw [g1] at ok
        cases o with
        | dict _ => exact ok.elim
        | inst _ _ => exact ok.elim
        | lst q =>
          cases ry <;> first | exact ok.elim | skip
          rename_i n2 a2 em2
          dsimp only at ok
          cases g2 : h.get n2 with
          | none =>
            rw [g2] at ok
            exact ok.elim
          | some o2 =>
            rw [g2] at ok
            cases o2 with
            | dict _ => exact ok.elim
            | inst _ _ => exact ok.elim
            | lst q2 =>
              dsimp only at ok
              obtain ⟨vs, hv, rvs⟩ := t.lst em g1
              obtain ⟨ws, hw, rws⟩ := t.lst em2 g2
              cases e1 : Nat.ble (Nat.add (lenR q) (lenR q2)) fewL with
              | false =>
                rw [e1] at ok
                exact ok.elim
              | true =>
                rw [e1] at ok
                dsimp only at ok
                cases e3 : h.set n (.lst (appR q2 q)) with
                | none =>
                  rw [e3] at ok
                  exact ok.elim
                | some h3 =>
                  rw [e3] at ok
                  obtain ⟨x5, rh5⟩ := t.setL (ws := vs ++ ws) em hv e3 (by rw [revR_app]; exact RVs.app rvs rws)
                  refine ⟨a, a2, vs, ws, rfl, rfl, hv, hw, ?_, ok m _ _ x5 rh5 .non⟩
                  rw [← rvs.length, ← rws.length, ← lenR_rev, ← lenR_rev]
                  exact few_ok e1
theorem v_pop : BmR p .pop rPop := by
  intro m h H E x as U Us Q hx t rv ra ok
  cases ra with
  | cons _ _ => cases x <;> exact ok.elim
  | nil =>
    cases rv <;> first | exact ok.elim | skip
    rename_i n a em
    unfold bmt at ok
    dsimp only at ok
    cases g1 : h.get n with
    | none =>
      rw [g1] at ok
      exact ok.elim
    | some o =>
      rw [g1] at ok
      cases o with
      | dict _ => exact ok.elim
      | inst _ _ => exact ok.elim
      | lst q =>
        cases q with
        | nil => exact ok.elim
        | cons y s =>
          dsimp only at ok
          cases e3 : h.set n (.lst s) with
          | none =>
            rw [e3] at ok
            exact ok.elim
          | some h3 =>
            rw [e3] at ok
            obtain ⟨vs, hv, rvs⟩ := t.lst em g1
            rw [revR_cons] at rvs
            have ln := rvs.length
            rw [List.length_append, List.length_singleton] at ln
            have key : ∀ {xs : List IV} {ws : List L2.V}, RVs p m H (xs ++ [y]) ws → ∃ us V, ws = us ++ [V] ∧ RVs p m H xs us ∧ RV p m H y V := by
              intro xs
              induction xs with
              | nil =>
                intro ws r
                cases r with
                | cons r1 r2 =>
                  cases r2
                  exact ⟨[], _, rfl, .nil, r1⟩
              | cons x xs ih =>
                intro ws r
                cases r with
                | cons r1 r2 =>
                  obtain ⟨us, V, e, h1, h2⟩ := ih r2
                  subst e
                  exact ⟨_ :: us, V, rfl, .cons r1 h1, h2⟩
            obtain ⟨us, V, e, h1, h2⟩ := key rvs
            subst e
            obtain ⟨x5, rh5⟩ := t.setL (ws := us) em hv e3 h1
            refine ⟨a, us ++ [V], V, rfl, rfl, hv, by simp, ?_⟩
            rw [List.dropLast_concat]
            exact ok m _ _ x5 rh5 (h2.mono x5)
theorem list_data {m : Mp} {h : Hh} {H : Hp} {x : IV} {U : L2.V} {xs : List IV} {ds : List PyData} (t : RH p m h H) (hx : isR x = true) (rv : RV p m H x U) (e : items x h = some xs) (q : mapO (toD h 60) xs = some ds) :
    ∃ l vs, U = .ref l ∧ Dp p.K H U (.list ds) ∧ PyData.canLayAll0 ds = true ∧ PyData.depthAll ds ≤ 60 ∧ H l = some (.lst vs) := by
  cases rv <;> first | (cases hx; done) | skip
  rename_i n a em
  unfold items at e
  dsimp only at e
  cases g1 : h.get n with
  | none =>
    rw [g1] at e
    cases e
  | some o =>
    rw [g1] at e
    cases o with
    | dict _ => cases e
    | inst _ _ => cases e
    | lst w =>
      cases e
      obtain ⟨vs, hv, rvs⟩ := t.lst em g1
      obtain ⟨a1, a2, a3⟩ := mapO_ok (toD_ok t 60) _ _ _ q rvs
      exact ⟨a, vs, rfl, .lst (SqL.of hv) a1, a2, a3, hv⟩
def rCountD (K : PySem.W.Frag) : V → List V → Hp → VK → Prop := fun x xs H Q => ∃ (a : Addr) (y : V) (d : PyData) (ds : List PyData), x = V.ref a ∧ xs = [y] ∧ Dp K H (V.ref a) (.list ds) ∧ Dp K H y d ∧
  SeqAt.shaped (.list ds) = true ∧ SeqAt.shaped d = true ∧ Q (.int (ds.countP fun z => PyData.eqv z d : Nat)) H
theorem mt_countD (hu : X.A.units + 65 < cLine) : MtR X "list.count" (rCountD X.K) := by
  intro pins s σ H x xs v us Q I rx rxs h
  obtain ⟨a, y, d, ds, rfl, rfl, hl, hy, sl, sd, q⟩ := h
  cases rx
  cases rxs with
  | cons ry rt =>
    rename_i uy ut
    cases rt
    obtain ⟨bs, r1⟩ := Dp.reads I d y uy hy ry
    have hxs : PyData.canLayAll0 ds = true := SeqAt.canLay_of_shaped sl
    have hroom : X.A.units + 1 + min (PyData.depthAll ds) d.depth < cLine := room_in_shaped sd hu
    cases hl with
    | lst hs ha =>
      obtain ⟨its, rv, ⟨⟨cls, dd, data, sls⟩, n, ho, hc, hdn, hdt⟩, hlen⟩ := I.list hs
      simp only at hc hdt
      subst hc hdt
      obtain ⟨as, h4⟩ := Dp.readsAll I ds _ its ha rv
      have hmap : its.map (SeqAt.readOf s.heap) = ds := SeqAt.readsAll_map ds its as hxs h4
      refine call_meets PySem.F.slot_list_count ⟨_, ho, rfl⟩ PySem.F.entry_list_count (PySem.F.args_list_count_2 _ _)
        (SeqAt.list_countAt a its.toArray n dd sls uy (fun u => PyData.eqv (SeqAt.readOf s.heap u) d)) ⟨ho, SeqAt.items_eqAt (vs := its.toArray) (show ReadsAll s.heap its.toArray.toList ds as from h4) r1 hxs (SeqAt.canLay_of_shaped sd) hroom, ?_⟩
      have e : List.countP (fun u => PyData.eqv (SeqAt.readOf s.heap u) d) its.toArray.toList = ds.countP fun z => PyData.eqv z d := by
        rw [← hmap, List.countP_map]
        rfl
      exact ⟨.int (ds.countP fun z => PyData.eqv z d : Nat), H, I.tok _, ⟨_, by rw [e]⟩, q⟩
theorem cntD_eq (d : PyData) : ∀ (ds : List PyData) (k : Nat), cntD d k ds = k + ds.countP fun z => PyData.eqv z d
  | [], _ => rfl
  | z :: r, k => by
    rw [List.countP_cons]
    show (match dq z d with
      | true => cntD d (Nat.succ k) r
      | false => cntD d k r) = _
    rw [dq_eq]
    cases e : PyData.eqv z d with
    | true =>
      dsimp only
      rw [cntD_eq d r]
      show k + 1 + _ = _
      rw [if_pos rfl]
      omega
    | false =>
      dsimp only
      rw [cntD_eq d r, if_neg Bool.false_ne_true, Nat.add_zero]
theorem v_count (hK : X.K = p.K) : BmR p .count (rCountD X.K) := by
  intro m h H E x as U Us Q hx t rv ra ok
  cases ra with
  | nil => exact ok.elim
  | cons ry rn =>
    cases rn with
    | cons _ _ => exact ok.elim
    | nil =>
      rename_i y V
      unfold bmt at ok
      dsimp only at ok
      cases e1 : items x h with
      | none =>
        rw [e1] at ok
        exact ok.elim
      | some xs =>
        rw [e1] at ok
        dsimp only at ok
        cases e2 : toD h 60 y with
        | none =>
          rw [e2] at ok
          exact ok.elim
        | some d =>
          rw [e2] at ok
          dsimp only at ok
          cases e3 : mapO (toD h 60) xs with
          | none =>
            rw [e3] at ok
            exact ok.elim
          | some ds =>
            rw [e3] at ok
            obtain ⟨a1, a2, a3⟩ := toD_ok t 60 _ _ _ e2 ry
            have q := Ok.int t (show Ok (RV p) p m H E (.ok (.int (.ofNat (cntD d 0 ds))) h) Q from ok)
            rw [cntD_eq, Nat.zero_add] at q
            rw [hK]
            obtain ⟨l, vs, e4, b1, b2, b3, _⟩ := list_data t hx rv e1 e3
            exact ⟨l, V, d, ds, e4, rfl, by rw [← e4]; exact b1, a1, shpL b2 b3, shp ⟨a2, a3⟩, q⟩
theorem idxD_ok (d : PyData) : ∀ {ds : List PyData} {k j : Nat}, idxD d k ds = some j → ∃ i z, j = k + i ∧ ds[i]? = some z ∧ PyData.eqv z d = true ∧ ∀ (n : Nat) (z' : PyData), n < i → ds[n]? = some z' → PyData.eqv z' d = false
  | [], _, _, e => by cases e
  | z :: r, k, j, e => by
    have e : (match dq z d with
      | true => some k
      | false => idxD d (Nat.succ k) r) = some j := e
    rw [dq_eq] at e
    cases q : PyData.eqv z d with
    | true =>
      rw [q] at e
      cases e
      exact ⟨0, z, rfl, rfl, q, fun n z' hn => absurd hn (Nat.not_lt_zero _)⟩
    | false =>
      rw [q] at e
      obtain ⟨i, y, h1, h2, h3, h4⟩ := idxD_ok d (ds := r) (k := Nat.succ k) e
      refine ⟨i + 1, y, by omega, by simpa using h2, h3, fun n z' hn hz => ?_⟩
      cases n with
      | zero =>
        have : z = z' := Option.some.inj hz
        rw [← this]
        exact q
      | succ n => exact h4 n z' (by omega) (by simpa using hz)
theorem v_index (hK : X.K = p.K) : BmR p .index (rIndexD X.K) := by
  intro m h H E x as U Us Q hx t rv ra ok
  cases ra with
  | nil => exact ok.elim
  | cons ry rn =>
    cases rn with
    | cons _ _ => exact ok.elim
    | nil =>
      rename_i y V
      unfold bmt at ok
      dsimp only at ok
      cases e1 : items x h with
      | none =>
        rw [e1] at ok
        exact ok.elim
      | some xs =>
        rw [e1] at ok
        dsimp only at ok
        cases e2 : toD h 60 y with
        | none =>
          rw [e2] at ok
          exact ok.elim
        | some d =>
          rw [e2] at ok
          dsimp only at ok
          cases e3 : mapO (toD h 60) xs with
          | none =>
            rw [e3] at ok
            exact ok.elim
          | some ds =>
            rw [e3] at ok
            dsimp only at ok
            obtain ⟨a1, a2, a3⟩ := toD_ok t 60 _ _ _ e2 ry
            cases e5 : idxD d 0 ds with
            | none =>
              rw [e5] at ok
              exact ok.elim
            | some j =>
              rw [e5] at ok
              have q := Ok.int t (show Ok (RV p) p m H E (.ok (.int (.ofNat j)) h) Q from ok)
              obtain ⟨i, z, h1, h2, h3, h4⟩ := idxD_ok d e5
              rw [Nat.zero_add] at h1
              subst h1
              rw [hK]
              obtain ⟨l, vs, e4, b1, b2, b3, _⟩ := list_data t hx rv e1 e3
              exact ⟨l, V, d, ds, j, z, e4, rfl, by rw [← e4]; exact b1, a1, shpL b2 b3, shp ⟨a2, a3⟩, h2, h3, h4, q⟩
theorem m1_ok {o e : Expr} {nm : Str} {apos cpos : Pos} (hn : notCall o = true) (hl : (apos.endLine == cpos.line) = true) (hs : star e = false) : M1 X o nm apos e cpos where
  base := base_ok hn
  few := by
    rw [star_cons hs]
    rfl
  line := hl
  trees := by
    rw [star_cons hs]
    rfl
theorem m2_ok {o e f : Expr} {nm : Str} {apos cpos : Pos} (hn : notCall o = true) (hl : (apos.endLine == cpos.line) = true) (hs : star e = false) (hs2 : star f = false) : M2 X o nm apos e f cpos where
  base := base_ok hn
  few := by
    rw [star_cons hs, star_cons hs2]
    rfl
  line := hl
  trees := by
    rw [star_cons hs, star_cons hs2]
    rfl
theorem dct_at {m : Mp} {h : Hh} {H : Hp} {x : IV} {V : L2.V} (t : RH p m h H) (rv : RV p m H x V) (e : isDct x h = true) : ∃ a, V = .ref a ∧ IsD H a := by
  obtain ⟨n, d, rfl, g, ht⟩ := isDct_ok e
  cases rv with
  | ref em =>
    obtain ⟨r, h1, _⟩ := t.dct em g ht
    exact ⟨_, rfl, .inl ⟨r, h1.rd⟩⟩
theorem get_ok {m : Mp} {h : Hh} {H : Hp} {E : XK} {x k z : IV} {U Y : L2.V} {Q : VK} {f : IV → R IV} (t : RH p m h H) (rx : RV p m H x U) (ry : RV p m H k Y) (ok : Ok (RV p) p m H E (match x with
    | .ref n => match h.get n with
      | some (.dict d) => match dkey d.t k with
          | true => match dlook k d.kvs with
            | some v => .ok v h
            | none => .ok z h
          | false => .fail
      | _ => .fail
    | _ => .fail) Q) : ∃ a o, U = .ref a ∧ DGet H a Y o ∧ ((∃ V v, o = some V ∧ RV p m H v V ∧ Ok (RV p) p m H E (.ok v h) Q) ∨ (o = none ∧ Ok (RV p) p m H E (.ok z h) Q)) := by
  cases rx <;> first | exact ok.elim | skip
  rename_i n a em
  dsimp only at ok
  cases g : h.get n with
  | none =>
    rw [g] at ok
    exact ok.elim
  | some w =>
    rw [g] at ok
    cases w with
    | lst _ => exact ok.elim
    | inst _ _ => exact ok.elim
    | dict d =>
      dsimp only at ok
      cases hk : dkey d.t k with
      | false =>
        rw [hk] at ok
        exact ok.elim
      | true =>
        rw [hk] at ok
        dsimp only at ok
        obtain ⟨o, h1, h2, h3⟩ := dget_ok t em g hk ry
        refine ⟨a, o, rfl, h1, ?_⟩
        cases l : dlook k d.kvs with
        | none =>
          rw [l] at ok
          exact .inr ⟨h3 l, ok⟩
        | some v =>
          rw [l] at ok
          obtain ⟨V, e, rv⟩ := h2 v l
          exact .inl ⟨V, v, e, rv, ok⟩
theorem n_get1 (C : CxOk g T p cf W c X) {o e : Expr} {Mo Me : Rho → Hh → R IV} {apos cpos : Pos} (hn : notCall o = true) (hl : (apos.endLine == cpos.line) = true) (hs : star e = false) (ho : PE X o (rdE p W Mo)) (he : PE X e (rdE p W Me)) :
    PE X (.Call (.Attribute o "get" apos) [e] [] cpos) (rdE p W (bmK .get Mo fun r h => (Me r h).bd fun x h => .ok [x] h)) := by
  refine PE.wk (pe_dget1 (by have := C.un; omega) ho he (m1_ok hn hl hs)) fun σ H Q z => ?_
  obtain ⟨m, r, h, s, t, ok⟩ := rdG.bd (rel := RV p) (M := Mo) (k := fun r x h => match recv .get x h with
      | true => ((Me r h).bd fun y h => R.ok [y] h).bd fun vs h => bmt .get x vs h
      | false => .fail) z
  refine ⟨m, r, h, s, t, ok.mono fun V H1 w => ?_⟩
  obtain ⟨m1, r1, h1, x, s1, t1, rv, ok1⟩ := w
  cases e1 : recv .get x h1 with
  | false =>
    rw [e1] at ok1
    exact ok1.elim
  | true =>
    rw [e1] at ok1
    obtain ⟨a, ea, hd⟩ := dct_at t1 rv e1
    refine ⟨a, ea, hd, m1, r1, h1, s1, t1, ?_⟩
    have ok1 : Ok (RV p) p m1 H1 (fun c d H => W c d σ H) (((Me r1 h1).bd fun y h => R.ok [y] h).bd fun vs h => bmt .get x vs h) Q := ok1
    have ok2 : Ok (RV p) p m1 H1 (fun c d H => W c d σ H) ((Me r1 h1).bd fun y h => bmt .get x [y] h) Q := by
      cases q : Me r1 h1 with
      | ok y h2 =>
        rw [q] at ok1
        exact ok1
      | exc _ _ =>
        rw [q] at ok1
        exact ok1
      | fail =>
        rw [q] at ok1
        exact ok1
    refine (Ok.bd (rel := RV p) ok2).mono fun Y H2 w2 => ?_
    obtain ⟨m2, h2, y, x2, t2, ry, ok3⟩ := w2
    obtain ⟨b, oo, eb, dg, alt⟩ := get_ok (z := .non) (f := fun _ => .fail) t2 (rv.mono x2) ry (by
      obtain ⟨n, d, rfl, g1, ht⟩ := isDct_ok e1
      exact ok3)
    rw [ea] at eb
    cases eb
    refine ⟨oo, dg, ?_⟩
    rcases alt with ⟨V, v, e, rv2, o5⟩ | ⟨e, o5⟩
    · subst e
      exact o5 m2 H2 _ Xt.refl t2 rv2
    · subst e
      exact o5 m2 H2 _ Xt.refl t2 .non
theorem n_get2 (C : CxOk g T p cf W c X) {o e f : Expr} {Mo Me Mf : Rho → Hh → R IV} {apos cpos : Pos} (hn : notCall o = true) (hl : (apos.endLine == cpos.line) = true) (hs : star e = false) (hs2 : star f = false) (ho : PE X o (rdE p W Mo)) (he : PE X e (rdE p W Me)) (hf : PE X f (rdE p W Mf)) :
    PE X (.Call (.Attribute o "get" apos) [e, f] [] cpos) (rdE p W (bmK .get Mo fun r h => (Me r h).bd fun x h => (Mf r h).bd fun y h => .ok [x, y] h)) := by
  refine PE.wk (pe_dget2 (by have := C.un; omega) ho he hf (m2_ok hn hl hs hs2)) fun σ H Q z => ?_
  obtain ⟨m, r, h, s, t, ok⟩ := rdG.bd (rel := RV p) (M := Mo) (k := fun r x h => match recv .get x h with
      | true => ((Me r h).bd fun y h => (Mf r h).bd fun z h => R.ok [y, z] h).bd fun vs h => bmt .get x vs h
      | false => .fail) z
  refine ⟨m, r, h, s, t, ok.mono fun V H1 w => ?_⟩
  obtain ⟨m1, r1, h1, x, s1, t1, rv, ok1⟩ := w
  cases e1 : recv .get x h1 with
  | false =>
    rw [e1] at ok1
    exact ok1.elim
  | true =>
    rw [e1] at ok1
    obtain ⟨a, ea, hd⟩ := dct_at t1 rv e1
    refine ⟨a, ea, hd, m1, r1, h1, s1, t1, ?_⟩
    have ok1 : Ok (RV p) p m1 H1 (fun c d H => W c d σ H) (((Me r1 h1).bd fun y h => (Mf r1 h).bd fun z h => R.ok [y, z] h).bd fun vs h => bmt .get x vs h) Q := ok1
    have ok2 : Ok (RV p) p m1 H1 (fun c d H => W c d σ H) ((Me r1 h1).bd fun y h => (Mf r1 h).bd fun z h => bmt .get x [y, z] h) Q := by
      cases q : Me r1 h1 with
      | ok y h2 =>
        rw [q] at ok1
        show Ok (RV p) p m1 H1 (fun c d H => W c d σ H) ((Mf r1 h2).bd fun z h => bmt .get x [y, z] h) Q
        have ok1 : Ok (RV p) p m1 H1 (fun c d H => W c d σ H) (((Mf r1 h2).bd fun z h => R.ok [y, z] h).bd fun vs h => bmt .get x vs h) Q := ok1
        cases q2 : Mf r1 h2 with
        | ok z h3 =>
          rw [q2] at ok1
          exact ok1
        | exc _ _ =>
          rw [q2] at ok1
          exact ok1
        | fail =>
          rw [q2] at ok1
          exact ok1
      | exc _ _ =>
        rw [q] at ok1
        exact ok1
      | fail =>
        rw [q] at ok1
        exact ok1
    refine (Ok.bd (rel := RV p) ok2).mono fun Y H2 w2 => ?_
    obtain ⟨m2, h2, y, x2, t2, ry, ok3⟩ := w2
    refine ⟨m2, r1, h2, s1.mono x2, t2, (Ok.bd (rel := RV p) ok3).mono fun Z H3 w3 => ?_⟩
    obtain ⟨m3, h3, zz, x3, t3, rz, ok4⟩ := w3
    obtain ⟨b, oo, eb, dg, alt⟩ := get_ok (z := zz) (f := fun _ => .fail) t3 ((rv.mono x2).mono x3) (ry.mono x3) (by
      obtain ⟨n, d, rfl, g1, ht⟩ := isDct_ok e1
      exact ok4)
    rw [ea] at eb
    cases eb
    refine ⟨oo, dg, ?_⟩
    rcases alt with ⟨V, v, e, rv2, o5⟩ | ⟨e, o5⟩
    · subst e
      exact o5 m3 H3 _ Xt.refl t3 rv2
    · subst e
      exact o5 m3 H3 _ Xt.refl t3 rz
theorem cr_range1 : CallR X (.type "range") (fun vs H Q => ∃ j, vs = [V.int j] ∧ ∀ p, H p = none → Q (.ref p) (upd H p (.rng 0 j))) := by
  intro pins s σ H vs us Q I r h
  obtain ⟨j, rfl, q⟩ := h
  obtain ⟨u1, rfl, rj⟩ := vals1 r
  obtain ⟨t, rfl⟩ := rj
  refine PySem.call_range_1 ⟨.ref s.heap.objs.size, upd H s.heap.objs.size (.rng 0 j), I.laid (t' := s.toks + 1 + 1) (fun b o e => Heap.get?_push_of_some _ e) (Nat.le_refl _) ?_, rfl, q _ (I.hok.fresh (Nat.le_refl _))⟩
  exact ⟨s.toks, t, s.toks + 1, Heap.get?_push_size _ rfl⟩
theorem c_rng1 : CallR X (.type "range") (rdC p (bfn .rng1)) := CallR.wk cr_range1 fun xs H Q q => by
  obtain ⟨m, h, as, E, t, ra, ok⟩ := q
  cases ra with
  | nil => exact ok.elim
  | cons r1 rs =>
    cases rs with
    | cons r2 rs =>
      cases rs with
      | cons _ _ => exact ok.elim
      | nil =>
        have ok : Ok (RV p) p m H E (Rk.bi2 .rng1 _ _ h) Q := ok
        exact (by
          unfold Rk.bi2 at ok
          cases r1 <;> first | exact ok.elim | (cases r2 <;> exact ok.elim))
    | nil =>
      have ok : Ok (RV p) p m H E (Rk.bi1 .rng1 _ h) Q := ok
      cases r1 <;> first | exact ok.elim | skip
      rename_i j _
      have ok : Ok (RV p) p m H E (match within62 j with
        | true => R.ok (.rng 0 (Int.toNat j)) h
        | false => R.fail) Q := ok
      cases e1 : within62 j with
      | false =>
        rw [e1] at ok
        exact False.elim ok
      | true =>
        rw [e1] at ok
        exact ⟨j, rfl, fun q hq => ok m _ _ (Xt.laid hq) (t.laid hq) (.rng ⟨j, upd_same, by rw [Int.sub_zero], by decide, by decide, (w62 e1).1, (w62 e1).2⟩)⟩
theorem c_rng2 : CallR X (.type "range") (rdC p (bfn .rng2)) := CallR.wk cr_range2 fun xs H Q q => by
  obtain ⟨m, h, as, E, t, ra, ok⟩ := q
  cases ra with
  | nil => exact ok.elim
  | cons r1 rs =>
    cases rs with
    | nil => exact ok.elim
    | cons r2 rs =>
      cases rs with
      | cons _ _ => exact ok.elim
      | nil =>
        have ok : Ok (RV p) p m H E (Rk.bi2 .rng2 _ _ h) Q := ok
        cases r1 <;> first | exact ok.elim | skip
        rename_i i _
        cases r2 <;> first | exact ok.elim | skip
        rename_i j _
        have ok : Ok (RV p) p m H E (match within62 i with
          | true => match within62 j with
            | true => R.ok (.rng i (Int.toNat (Int.sub j i))) h
            | false => R.fail
          | false => R.fail) Q := ok
        cases e1 : within62 i with
        | false =>
          rw [e1] at ok
          exact False.elim ok
        | true =>
          rw [e1] at ok
          cases e2 : within62 j with
          | false =>
            rw [e2] at ok
            exact False.elim ok
          | true =>
            rw [e2] at ok
            exact ⟨i, j, rfl, fun q hq => ok m _ _ (Xt.laid hq) (t.laid hq) (.rng ⟨j, upd_same, rfl, (w62 e1).1, (w62 e1).2, (w62 e2).1, (w62 e2).2⟩)⟩
end
end
end Rk
namespace Rk
noncomputable section
open PySem PySem.Spec PyProof.Rows L2
theorem RFs.put {K : Pd} {m : Mp} {H : Hp} {f : Nat} {v : IV} {x : V} (hf : f < K.nf) (rv : RV K m H v x) : ∀ {fs : List (Nat × IV)} {gs : List (Str × V)}, RFs K m H fs gs → RFs K m H (fput f v fs) (putF (K.fl f) x gs)
  | _, _, .nil => .cons hf rv .nil
  | _, _, .cons (i := j) (v := w) (x := y) (fs := fs) (gs := gs) hj r s => by
    show RFs K m H (match Nat.beq j f with
      | true => (f, v) :: fs
      | false => (j, w) :: fput f v fs) (if K.fl j = K.fl f then (K.fl j, x) :: gs else (K.fl j, y) :: putF (K.fl f) x gs)
    cases q : Nat.beq j f with
    | true =>
      have z := Nat.eq_of_beq_eq_true q
      subst z
      rw [if_pos rfl]
      exact .cons hj rv s
    | false =>
      rw [if_neg fun z => by
        rw [K.fi j f hj hf z, Nat.beq_refl] at q
        cases q]
      exact .cons hj r (RFs.put hf rv s)
theorem mcall_ht {o : Expr} {nm : Str} {apos pos : Pos} {es : List Expr} {env : Env} (hb : notCall o = true) (hl : (apos.endLine == pos.line) = true) (hs : plainEs es = true) (hn : Nat.blt es.length 29 = true) :
    eval (.Call (.Attribute o nm apos) es [] pos) env = (do
      let ov ← eval o env
      standAt apos.atName
      let (fn, fst) ← holding [ov] (getMethod ov nm (do return (← importBound o env).getD true))
      callWith pos fn fst (backTo pos (starEach es env)) (backToKw pos (keywordEach [] env))) := by
  rw [arm_eval_Call, base_ok hb]
  have q1 : ∀ {l : List (Bool × Sem Value)}, l.any (·.1) = false → l.all (fun x => !x.1) = true := fun {l} q => by
    induction l with
    | nil => rfl
    | cons y ys ih =>
      rw [List.any_cons, Bool.or_eq_false_iff] at q
      rw [List.all_cons, ih q.2, q.1]
      rfl
  have hform : methodCallForm (es.length + ([] : List Keyword).length) (backTo pos (starEach es env)) (backToKw pos (keywordEach [] env)) = true := by
    unfold methodCallForm
    have q2 := q1 (star_none (env := env) (pos := pos) hs)
    have q3 : decide (es.length + 0 + 0 < 30) = true := decide_eq_true (by
      have : Nat.ble (es.length + 1) 29 = true := hn
      rw [Nat.ble_eq] at this
      omega)
    rw [q2]
    exact q3
  unfold methodCall
  rw [hform]
  unfold calleeOf methodCallPos
  rw [hl]
  rfl
section
variable {g : Gd} {T : Tab} {p : Pd} {cf : Nat → List IV → Hh → R IV} {W : Wx} {c : Cc} {X : Cx}
theorem fl_lt (C : CxOk g T p cf W c X) {f : Nat} {nm : Str} (hf : at? g.flds f = some nm) : f < p.nf := by
  rw [C.nf]
  rw [at_list] at hf
  exact (List.getElem?_eq_some_iff.mp hf).1
theorem ins_at (C : CxOk g T p cf W c X) {m : Mp} {h : Hh} {H : Hp} (t : RH p m h H) {n : Nat} {a : Addr} {k : Nat} {fs : List (Nat × IV)} (em : m n = some a) (e : h.get n = some (.inst k fs)) :
    ∃ G dx gs, KcOk g T p X.mg X.K k G ∧ H a = some (.ins (p.kA k) dx gs) ∧ H dx = some (.own a) ∧ RFs p m H fs gs := by
  obtain ⟨hk, dx, gs, h1, h2, h3⟩ := t.here em e
  have hk2 := (C.nc k).mp hk
  exact ⟨g.cls[k], dx, gs, C.cls k _ (by rw [at_list]; exact List.getElem?_eq_getElem hk2), h1, h2, h3⟩
theorem n_att (C : CxOk g T p cf W c X) {o : Expr} {f : Nat} {nm : Str} {M : Rho → Hh → R IV} {pos : Pos} (hb : notCall o = true) (hf : at? g.flds f = some nm) (ho : PE X o (rdE p W M)) :
    PE X (.Attribute o nm pos) (rdE p W fun r h => (M r h).bd fun x h => fget x f h) := by
  refine PE.wk (pe_fld ho (base_ok hb)) fun σ H Q z => ?_
  obtain ⟨m, r, h, s, t, ok⟩ := rdG.bd (rel := RV p) (M := M) (k := fun _ x h => fget x f h) z
  refine ⟨m, r, h, s, t, ok.mono fun V H1 w => ?_⟩
  obtain ⟨m1, r1, h1, x, s1, t1, rv, ok1⟩ := w
  cases rv <;> first | exact ok1.elim | skip
  rename_i n a em
  unfold fget at ok1
  dsimp only at ok1
  cases e : h1.get n with
  | none =>
    rw [e] at ok1
    exact ok1.elim
  | some u =>
    rw [e] at ok1
    cases u with
    | lst _ => exact ok1.elim
    | dict _ => exact ok1.elim
    | inst k fs =>
      obtain ⟨G, dx, gs, KC, h2, h3, rf⟩ := ins_at C t1 em e
      obtain ⟨v, ev, ok2⟩ := ofO_some (p := p) (show Ok (RV p) p m1 H1 _ (ofO (look f fs) h1) Q from ok1)
      obtain ⟨y, l2, l3⟩ := rf.at_ (fl_lt C hf) ev
      rw [C.fld f nm hf] at l2
      exact ⟨a, p.kA k, dx, gs, y, rfl, h2, KC.cl, KC.no f nm hf, l2, ok2 m1 H1 y Xt.refl t1 l3⟩
theorem fset_ok (C : CxOk g T p cf W c X) {m : Mp} {h h' : Hh} {H : Hp} {f : Nat} {nm : Str} {x v : IV} {U Y : L2.V} (t : RH p m h H) (hf : at? g.flds f = some nm) (rx : RV p m H x U) (ry : RV p m H v Y) (e : fset x f v h = some h') :
    ∃ a k dx gs, U = .ref a ∧ H a = some (.ins (p.kA k) dx gs) ∧ Cls X.K (p.kA k) ∧ NoAttr X.K (p.kA k) nm ∧ gs.length < 1000 ∧ Xt m H m (upd H a (.ins (p.kA k) dx (putF nm Y gs))) ∧ RH p m h' (upd H a (.ins (p.kA k) dx (putF nm Y gs))) := by
  cases rx <;> first | (cases e; done) | skip
  rename_i n a em
  unfold fset at e
  dsimp only at e
  cases e1 : h.get n with
  | none =>
    rw [e1] at e
    cases e
  | some u =>
    rw [e1] at e
    cases u with
    | lst _ => cases e
    | dict _ => cases e
    | inst k fs =>
      dsimp only at e
      cases e2 : Nat.blt fs.length 900 with
      | false =>
        rw [e2] at e
        cases e
      | true =>
        rw [e2] at e
        obtain ⟨G, dx, gs, KC, h2, h3, rf⟩ := ins_at C t em e1
        have hl : gs.length < 1000 := by
          have z : Nat.ble (fs.length + 1) 900 = true := e2
          rw [Nat.ble_eq] at z
          rw [← rf.len]
          omega
        have hk : k < p.nc := (t.here em e1).1
        have rf2 := rf.put (fl_lt C hf) ry
        rw [C.fld f nm hf] at rf2
        have own : ∀ {w : HO}, upd H a w dx = some (.own a) := fun {w} => by
          rw [upd_ne fun z => ?_]
          · exact h3
          · rw [z, h2] at h3
            cases h3
        obtain ⟨xt, rh'⟩ := t.setO (u' := .ins (p.kA k) dx (putF nm Y gs)) em ⟨_, h2, trivial⟩ e fun x => ⟨hk, dx, _, upd_same, own, rf2.mono x⟩
        exact ⟨a, k, dx, gs, rfl, h2, KC.cl, KC.no f nm hf, hl, xt, rh'⟩
theorem s_fld (C : CxOk g T p cf W c X) {o e : Expr} {f : Nat} {nm : Str} {Mo Me : Rho → Hh → R IV} {pos spos : Pos} (hf : at? g.flds f = some nm) (ho : PE X o (rdE p W Mo)) (he : PE X e (rdE p W Me)) :
    PS X (.Assign [.Attribute o nm spos] e pos) (rdM p W fun r h => (Me r h).st r fun v h => (Mo r h).st r fun x h => nxO r (fset x f v h)) := by
  refine PS.wk (ps_fld ho he (sw_t rfl)) fun D σ H z => ?_
  obtain ⟨m, r, h, s, t, o1⟩ := rdM.st (rel := RV p) (M := Me) (k := fun r v h => (Mo r h).st r fun x h => nxO r (fset x f v h)) z
  refine ⟨m, r, h, s, t, o1.mono fun V H1 w => ?_⟩
  obtain ⟨m1, r1, h1, v, s1, t1, rv, ok⟩ := w
  refine ⟨m1, r1, h1, s1, t1, (OkS.st (rel := RV p) (M := Mo) s1 ok).mono fun U H2 w2 => ?_⟩
  obtain ⟨m2, h2, x, x2, t2, rx, ok2⟩ := w2
  obtain ⟨h', e1, ok3⟩ := nxO_some ok2
  obtain ⟨a, k, dx, gs, rfl, e2, e3, e4, e5, xt, rh'⟩ := fset_ok C t2 hf rx (rv.mono x2) e1
  exact ⟨a, _, dx, gs, rfl, e2, e3, e4, e5, ok3 m2 _ σ xt ((s1.mono x2).mono xt) rh'⟩
theorem opi_in (o : Op) : InOp X (opX o) fun x y H Q => opiR p o x y H Q := fun pn s sg H x y u v Q I rx ry q => opi_ok (p := p) o pn s sg H x y u v Q I rx ry q
theorem opi_same {o : Op} {x y v : IV} {h h' : Hh} (e : opi o x y h = .ok v h') : h' = h := by
  unfold opi at e
  split at e
  · split at e
    · split at e <;> first | (cases e; rfl) | cases e
    · cases e
  · cases e
theorem s_augF (C : CxOk g T p cf W c X) (op : Op) {o e : Expr} {f : Nat} {nm : Str} {Mo Me : Rho → Hh → R IV} {pos spos : Pos} (hf : at? g.flds f = some nm) (ho : PE X o (rdE p W Mo)) (he : PE X e (rdE p W Me)) :
    PS X (.AugAssign (.Attribute o nm spos) (opX op) e pos) (rdM p W fun r h => (Mo r h).st r fun x h => (fget x f h).st r fun z h1 => (Me r h1).st r fun w h2 => (opi op z w h2).st r fun u h3 => nxO r (fsetK h x f u h3)) := by
  refine PS.wk (ps_fldaug ho he (opi_in (p := p) op)) fun D σ H z => ?_
  obtain ⟨m, r, h, s, t, o1⟩ := rdM.st (rel := RV p) (M := Mo) (k := fun r x h => (fget x f h).st r fun z h1 => (Me r h1).st r fun w h2 => (opi op z w h2).st r fun u h3 => nxO r (fsetK h x f u h3)) z
  refine ⟨m, r, h, s, t, o1.mono fun U H1 w => ?_⟩
  obtain ⟨m1, r1, h1, x, s1, t1, rx, ok⟩ := w
  have o2 := OkS.st (rel := RV p) (M := fun _ h => fget x f h) s1 ok
  have rx0 := rx
  cases rx <;> first | exact o2.elim | skip
  rename_i n a em
  unfold fget at o2
  dsimp only at o2
  cases eg : h1.get n with
  | none =>
    rw [eg] at o2
    exact o2.elim
  | some u =>
    rw [eg] at o2
    cases u with
    | lst _ => exact o2.elim
    | dict _ => exact o2.elim
    | inst k fs =>
      obtain ⟨G, dx, gs, KC, e2, e3, rf⟩ := ins_at C t1 em eg
      obtain ⟨v, ev, o3⟩ := ofO_some (p := p) (show Ok (RV p) p m1 H1 _ (ofO (look f fs) h1) _ from o2)
      obtain ⟨y, l2, l3⟩ := rf.at_ (fl_lt C hf) ev
      rw [C.fld f nm hf] at l2
      obtain ⟨m2, h2, zv, x2, t2, rz, ok2⟩ := o3 m1 H1 y Xt.refl t1 l3
      refine ⟨a, p.kA k, dx, gs, y, rfl, e2, KC.cl, KC.no f nm hf, l2, ?_⟩
      have s2 := s1.mono x2
      refine ⟨m2, r1, h2, s2, t2, (OkS.st (rel := RV p) (M := Me) s2 ok2).mono fun Vw H3 w3 => ?_⟩
      obtain ⟨m3, h3, wv, x3, t3, rw3, ok3⟩ := w3
      have s3 := s2.mono x3
      refine ⟨m3, h3, zv, wv, _, t3, rz.mono x3, rw3, (OkS.st (rel := RV p) (M := fun _ h => opi op zv wv h) s3 ok3).mono fun Uu H4 w4 => ?_⟩
      obtain ⟨m4, h4, uv, x4, t4, ru, ok4⟩ := w4
      obtain ⟨h', e1, ok5⟩ := nxO_some ok4
      have em4 := x4.mp _ _ (x3.mp _ _ (x2.mp _ _ em))
      have k1 : kls (.ref n) h1 = some k := by
        unfold kls
        dsimp only
        rw [eg]
      unfold fsetK at e1
      rw [k1] at e1
      cases k2 : kls (.ref n) h4 with
      | none =>
        rw [k2] at e1
        cases e1
      | some j =>
        rw [k2] at e1
        have e1 : (match Nat.beq k j with
          | true => fset (.ref n) f uv h4
          | false => none) = some h' := e1
        cases kb : Nat.beq k j with
        | false =>
          rw [kb] at e1
          cases e1
        | true =>
          rw [kb] at e1
          have kj := Nat.eq_of_beq_eq_true kb
          obtain ⟨a', k', dx', gs', ea, e6, e7, e8, e9, xt, rh'⟩ := fset_ok C t4 hf (.ref em4) ru e1
          cases ea
          have z : p.kA k' = p.kA k := by
            unfold kls at k2
            dsimp only at k2
            cases g4 : h4.get n with
            | none =>
              rw [g4] at k2
              cases k2
            | some u =>
              rw [g4] at k2
              cases u with
              | lst _ => cases k2
              | dict _ => cases k2
              | inst i fs4 =>
                cases k2
                obtain ⟨_, dx5, gs5, h5, _⟩ := t4.here em4 g4
                rw [h5] at e6
                have e9 := Option.some.inj e6
                injection e9 with z1 z2 z3
                rw [← z1, kj]
          rw [z] at e6 xt rh'
          exact ⟨dx', gs', e6, e9, ok5 m4 _ σ xt ((s3.mono x4).mono xt) rh'⟩
theorem len_of (C : CxOk g T p cf W c X) {i : Nat} {as : List IV} {h : Hh} {ps : List Str} {m : Mp} {H : Hp} {E : XK} {α : Type} {rel : Mp → Hp → IV → α → Prop} {Q : α → Hp → Prop} (hd : at? g.dps i = some ps) (ok : Ok rel p m H E (cf i as h) Q) : as.length = ps.length :=
  C.cfl i as h ps hd fun z => by
    rw [z] at ok
    exact ok
theorem dps_of (C : CxOk g T p cf W c X) {i : Nat} (h : i < p.nd) : ∃ ps, at? g.dps i = some ps := by
  have := (C.nds i).mp h
  exact ⟨g.dps[i], by rw [at_list]; exact List.getElem?_eq_getElem this⟩
theorem n_callv (C : CxOk g T p cf W c X) (hc : c.calm = true) {fe e : Expr} {es : List Expr} {M : Rho → Hh → R IV} {Ms : Rho → Hh → R (List IV)} {pos : Pos} (hb : calleeB fe = true) (hf : PE X fe (rdE p W M)) (ha : PA X (e :: es) (rdA p W Ms)) (hst : plainEs (e :: es) = true) :
    PE X (.Call fe (e :: es) [] pos) (rdE p W fun r h => (M r h).bd fun x h => match x with
      | .fn i => (Ms r h).bd fun vs h => cf i vs h
      | _ => .fail) := by
  refine ⟨fun pn s sg H Q I z => ?_⟩
  refine Call_ (thn (hf.run pn s sg H _ I (rdG.bd (rel := RV p) (M := M) (k := fun r x h => match x with
      | .fn i => (Ms r h).bd fun vs h => cf i vs h
      | _ => .fail) z)) fun u s1 w => ?_) (by cases fe <;> first | rfl | cases hb)
  obtain ⟨V, H1, I1, rx, m1, r1, h1, x, s2, t1, rv, ok⟩ := w
  cases rv <;> first | exact ok.elim | skip
  rename_i i hi
  cases rx
  obtain ⟨ps, hd⟩ := dps_of C hi
  obtain ⟨fd, lv, A⟩ := C.dfs hc i ps hd
  have hst' := hst
  unfold plainEs at hst'
  rw [Bool.and_eq_true, Bool.not_eq_true'] at hst'
  refine PySem.W.callWith_K (h₀ := X.base) I1.ok.mod.kin A.kp (thn (ha.run pos pn s1 sg H1 _ I1 ⟨m1, r1, h1, s2, t1, (Ok.bd (rel := RVs p) ok)⟩) fun us s3 w => ?_) (star_cons hst'.1) (star_none hst'.2)
  obtain ⟨vs, H2, I2, rr, m2, h2, as, x2, t2, ra, ok2⟩ := w
  have ln := len_of C hd ok2
  refine ⟨I2.kIn, run_any C A I2 (A.bind s3 us (by rw [← rr.length, ← ra.length]; exact ln)) rr ⟨by rw [← ra.length]; exact ln, m2, h2, as, t2, ra, ok2⟩⟩
theorem n_fnv (C : CxOk g T p cf W c X) {i : Nat} {x : Str} {ps : List Str} {pos : Pos} (hx : at? g.fns i = some (x, ps)) (hg : glB c.sc x = true) (hn : nmB x = true) : PE X (.Name x pos) (rdE p W fun _ h => .ok (.fn i) h) := by
  obtain ⟨h1, h2⟩ := C.fns i x ps hx
  have hi : i < p.nd := (C.nds i).mpr (by
    rw [at_list] at h2
    exact (List.getElem?_eq_some_iff.mp h2).1)
  refine PE.wk (pe_glob (v := .ref (p.dA i)) (gl_ok C hg) h1 rfl (nmB_ok hn).1) fun σ H Q ⟨m, r, h, s, t, o⟩ => ?_
  exact o m H _ Xt.refl t (.fn hi)
theorem run_mkA (C : CxOk g T p cf W c X) (hc : c.calm = true) {k : Nat} {G : Gc} (KC : KcOk g T p X.mg X.K k G) {pn : List (Addr × Obj)} {σ : L2.St} {H : Hp} {s : Shared} {Q : VK} {us : List Value} {vs : List V} {m : Mp} {h : Hh} {as : List IV}
    (I : L2.Inv X pn σ H s) (r : Vals vs us) (t : RH p m h H) (ra : RVs p m H as vs) (ok : Ok (RV p) p m H (fun c d H => W c d σ H) (mkK T.ini cf k as h) Q) : wpAny (model X.prog X.w) X.A (call (.ref (p.kA k)) us) (EP X pn σ Q) X.xe s := by
  obtain ⟨ps, hd⟩ := dps_of C KC.inn
  obtain ⟨fd, lv, A⟩ := C.dfs hc _ ps hd
  unfold mkK at ok
  rw [KC.ini] at ok
  dsimp only at ok
  cases e : h.new (.inst k []) with
  | none =>
    rw [e] at ok
    exact ok.elim
  | some h' =>
    rw [e] at ok
    dsimp only at ok
    have nx : H (s.heap.objs.size + 1) = none := I.hok.fresh (Nat.le_succ _)
    have nd : H s.heap.objs.size = none := I.hok.fresh (Nat.le_refl _)
    have hk : k < p.nc := C.ini _ _ KC.ini
    have nx1 : upd H s.heap.objs.size (.own (s.heap.objs.size + 1)) (s.heap.objs.size + 1) = none := by
      rw [upd_ne (Nat.succ_ne_self _)]
      exact nx
    obtain ⟨m1, x1, t1, em⟩ := (t.laid (u := .own (s.heap.objs.size + 1)) nd).newO (u := .ins (p.kA k) s.heap.objs.size []) nx1 e fun m' x => ⟨hk, _, [], upd_same, by rw [upd_ne (Nat.succ_ne_self _).symm, upd_same], .nil⟩
    have x0 : Xt m H m1 _ := (Xt.laid (u := .own (s.heap.objs.size + 1)) nd).trans x1
    have ok := (Ok.ext ok x0).bd (rel := RV p)
    have ln := len_of C hd ok
    have hq : spF p cf G.ini ps.length (.ref (s.heap.objs.size + 1) :: vs) (upd (upd H s.heap.objs.size (.own (s.heap.objs.size + 1))) (s.heap.objs.size + 1) (.ins (p.kA k) s.heap.objs.size [])) (fun v H2 => v = .non ∧ Q (.ref (s.heap.objs.size + 1)) H2) (fun c d H => W c d σ H) := by
      refine ⟨by rw [← ln]; show vs.length + 1 = as.length + 1; rw [ra.length], m1, h', .ref h.nx :: as, t1, .cons (.ref em) (ra.mono x0), ok.mono fun b H3 w => ?_⟩
      obtain ⟨m3, h3, a, x3, t3, rv, ok3⟩ := w
      cases rv <;> first | exact ok3.elim | skip
      exact ⟨rfl, ok3 m3 H3 _ Xt.refl t3 (.ref (x3.mp _ _ em))⟩
    have I2 := Inv.made (C := p.kA k) I
    have r2 : Vals (V.ref (s.heap.objs.size + 1) :: vs) (Value.ref (s.heap.objs.size + 1) :: us) := .cons rfl r
    have hl : (Value.ref (s.heap.objs.size + 1) :: us).length = ps.length := by
      rw [← r2.length]
      exact hq.1
    refine wpAny_call (make_map (f := p.dA G.ini) I.kIn KC.mke.makes KC.mke.init (beq_iff_eq.mp KC.mke.fn) (codeAny_mono (A.ok.run _ X.stack _ _ ⟨Value.ref (s.heap.objs.size + 1) :: us, []⟩ _ _ _ _ (Room.make (A.rm1) (p.kA k) us []) (I2.env0.make (p.kA k) us []) (A.bind _ _ hl) r2 hq) fun o s' q => ?_))
    cases o with
    | error e => exact passAt C.tk σ pn _ _ e s' I2 q
    | ok fl =>
      cases fl with
      | ret u =>
        obtain ⟨v, H', I3, rv, ev, q3⟩ := I2.after q
        subst ev
        exact ⟨rv, ⟨V.ref (s.heap.objs.size + 1), H', I3, rfl, q3⟩⟩
      | next => exact False.elim q
      | brk => exact False.elim q
      | cont => exact False.elim q
theorem n_mk (C : CxOk g T p cf W c X) (hc : c.calm = true) {k : Nat} {G : Gc} (hk : at? g.cls k = some G) (hg : glB c.sc G.name = true) (hn : nmB G.name = true) {e : Expr} {es : List Expr} {Ms : Rho → Hh → R (List IV)} {q pos : Pos}
    (ha : PA X (e :: es) (rdA p W Ms)) (hst : plainEs (e :: es) = true) : PE X (.Call (.Name G.name q) (e :: es) [] pos) (rdE p W fun r h => (Ms r h).bd fun vs h => mkK T.ini cf k vs h) := by
  have KC := C.cls k G hk
  refine ⟨fun pn s sg H Q I z => ?_⟩
  refine wpAny_Call_Name_kw (ld_glob I (gl_ok C hg) KC.mg ?_ (nmB_ok hn).1)
  have hst' := hst
  unfold plainEs at hst'
  rw [Bool.and_eq_true, Bool.not_eq_true'] at hst'
  obtain ⟨m, r, h, s1, t, ok⟩ := rdG.bd (rel := RVs p) (M := Ms) (k := fun _ vs h => mkK T.ini cf k vs h) z
  refine PySem.W.callWith_K (h₀ := X.base) I.ok.mod.kin KC.mke.kp (thn (ha.run pos pn s sg H _ I ⟨m, r, h, s1, t, ok⟩) fun us s3 w => ?_) (star_cons hst'.1) (star_none hst'.2)
  obtain ⟨vs, H2, I2, rr, m2, r2, h2, as, s4, t2, ra, ok2⟩ := w
  exact ⟨I2.kIn, run_mkA C hc KC I2 rr t2 ra ok2⟩
theorem n_mk0 (C : CxOk g T p cf W c X) (hc : c.calm = true) {k : Nat} {G : Gc} (hk : at? g.cls k = some G) (hg : glB c.sc G.name = true) (hn : nmB G.name = true) {q pos : Pos} :
    PE X (.Call (.Name G.name q) [] [] pos) (rdE p W fun _ h => mkK T.ini cf k [] h) := by
  have KC := C.cls k G hk
  refine ⟨fun pn s sg H Q I z => ?_⟩
  refine wpAny_Call_Name_kw (ld_glob I (gl_ok C hg) KC.mg ?_ (nmB_ok hn).1)
  obtain ⟨m, r, h, s1, t, ok⟩ := z
  exact PySem.W.callWith_K0 I.kIn KC.mke.kp (run_mkA C hc KC (us := []) I .nil t .nil ok)
theorem meth_at (C : CxOk g T p cf W c X) {m : Mp} {h : Hh} {H : Hp} {x : IV} {V : L2.V} {mi i : Nat} {nm : Str} (t : RH p m h H) (rv : RV p m H x V) (hm : at? g.mids mi = some nm) (e : mfind T.mth x mi h = some i) :
    ∃ a k dx gs, V = .ref a ∧ H a = some (.ins (p.kA k) dx gs) ∧ Cls X.K (p.kA k) ∧ Meth X.K (p.kA k) nm (p.dA i) ∧ gs.lookup nm = none ∧ i < p.nd := by
  cases rv <;> first | (cases e; done) | skip
  rename_i n a em
  unfold mfind at e
  dsimp only at e
  cases g1 : h.get n with
  | none =>
    rw [g1] at e
    cases e
  | some u =>
    rw [g1] at e
    cases u with
    | lst _ => cases e
    | dict _ => cases e
    | inst k fs =>
      obtain ⟨G, dx, gs, KC, h2, h3, rf⟩ := ins_at C t em g1
      dsimp only at e
      rw [KC.mth] at e
      obtain ⟨nm2, e2, me, hi⟩ := KC.me mi i e
      rw [hm] at e2
      cases e2
      refine ⟨a, k, dx, gs, rfl, h2, KC.cl, me, ?_, hi⟩
      cases l : gs.lookup nm with
      | none => rfl
      | some y =>
        obtain ⟨j, hj, ej⟩ := rf.on l
        exfalso
        refine C.mf mi nm hm ?_
        rw [C.nf] at hj
        have ef : at? g.flds j = some g.flds[j] := by rw [at_list]; exact List.getElem?_eq_getElem hj
        have := C.fld j _ ef
        rw [ej] at this
        rw [this]
        exact List.getElem_mem hj
def mthK (T : Tab) (cf : Nat → List IV → Hh → R IV) (mi : Nat) (Mo : Rho → Hh → R IV) (Ms : Rho → Hh → R (List IV)) (r : Rho) (h : Hh) : R IV := (Mo r h).bd fun x h => match mfind T.mth x mi h with
  | some f => (Ms r h).bd fun vs h => cf f (x :: vs) h
  | none => .fail
theorem n_mth (C : CxOk g T p cf W c X) (hc : c.calm = true) {mi : Nat} {nm : Str} (hm : at? g.mids mi = some nm) {o e : Expr} {es : List Expr} {Mo : Rho → Hh → R IV} {Ms : Rho → Hh → R (List IV)} {apos pos : Pos}
    (hb : notCall o = true) (hl : (apos.endLine == pos.line) = true) (hst : plainEs (e :: es) = true) (hn : Nat.blt (e :: es).length 29 = true) (ho : PE X o (rdE p W Mo)) (ha : PA X (e :: es) (rdA p W Ms)) :
    PE X (.Call (.Attribute o nm apos) (e :: es) [] pos) (rdE p W (mthK T cf mi Mo Ms)) := by
  refine ⟨fun pn s sg H Q I z => ?_⟩
  refine PySem.W.methodCall_KW (pl := do return (← importBound o X.env).getD true) (thn (ho.run pn s sg H _ I (rdG.bd (rel := RV p) (M := Mo) (k := fun r x h => match mfind T.mth x mi h with
    | some f => (Ms r h).bd fun vs h => cf f (x :: vs) h
    | none => .fail) z)) fun u s1 w => ?_) (mcall_ht hb hl hst hn)
  obtain ⟨V, H1, I1, rx, m1, r1, h1, x, s2, t1, rv, ok⟩ := w
  cases ef : mfind T.mth x mi h1 with
  | none =>
    rw [ef] at ok
    exact ok.elim
  | some i =>
    rw [ef] at ok
    have ok : Ok (RV p) p m1 H1 (fun c d H => W c d sg H) ((Ms r1 h1).bd fun vs h => cf i (x :: vs) h) Q := ok
    obtain ⟨a, k, dx, gs, ev, ea, cl, me, lo, hi⟩ := meth_at C t1 rv hm ef
    subst ev
    obtain rfl : u = Value.ref a := rx
    obtain ⟨ps, hd⟩ := dps_of C hi
    obtain ⟨fd, lv, A⟩ := C.dfs hc i ps hd
    refine getmeth_ok I1 ea cl me lo ?_
    have hst' := hst
    unfold plainEs at hst'
    rw [Bool.and_eq_true, Bool.not_eq_true'] at hst'
    refine PySem.W.callWith_K (first := [.ref a]) (h₀ := X.base) I1.ok.mod.kin me.kp (thn (ha.run pos pn s1 sg H1 _ I1 ⟨m1, r1, h1, s2, t1, Ok.bd (rel := RVs p) ok⟩) fun us s3 w => ?_) (star_cons hst'.1) (star_none hst'.2)
    obtain ⟨vs, H2, I2, rr, m2, h2, as, x2, t2, ra, ok2⟩ := w
    have ln := len_of C hd ok2
    have rr2 : Vals (V.ref a :: vs) (Value.ref a :: us) := .cons rfl rr
    refine ⟨I2.kIn, run_any (us := Value.ref a :: us) C A I2 (A.bind s3 _ ?_) rr2 ⟨?_, m2, h2, x :: as, t2, .cons (rv.mono x2) ra, ok2⟩⟩
    · rw [← rr2.length, ← ln]
      show vs.length + 1 = as.length + 1
      rw [ra.length]
    · rw [← ln]
      show vs.length + 1 = as.length + 1
      rw [ra.length]
theorem n_mth0 (C : CxOk g T p cf W c X) (hc : c.calm = true) {mi : Nat} {nm : Str} (hm : at? g.mids mi = some nm) {o : Expr} {Mo : Rho → Hh → R IV} {apos pos : Pos}
    (hb : notCall o = true) (hl : (apos.endLine == pos.line) = true) (ho : PE X o (rdE p W Mo)) :
    PE X (.Call (.Attribute o nm apos) [] [] pos) (rdE p W (mthK T cf mi Mo fun _ h => .ok [] h)) := by
  refine ⟨fun pn s sg H Q I z => ?_⟩
  refine PySem.W.methodCall_KW (pl := do return (← importBound o X.env).getD true) (thn (ho.run pn s sg H _ I (rdG.bd (rel := RV p) (M := Mo) (k := fun r x h => match mfind T.mth x mi h with
    | some f => (R.ok ([] : List IV) h).bd fun vs h => cf f (x :: vs) h
    | none => .fail) z)) fun u s1 w => ?_) (mcall_ht hb hl rfl rfl)
  obtain ⟨V, H1, I1, rx, m1, r1, h1, x, s2, t1, rv, ok⟩ := w
  cases ef : mfind T.mth x mi h1 with
  | none =>
    rw [ef] at ok
    exact ok.elim
  | some i =>
    rw [ef] at ok
    have ok : Ok (RV p) p m1 H1 (fun c d H => W c d sg H) (cf i [x] h1) Q := ok
    obtain ⟨a, k, dx, gs, ev, ea, cl, me, lo, hi⟩ := meth_at C t1 rv hm ef
    subst ev
    obtain rfl : u = Value.ref a := rx
    obtain ⟨ps, hd⟩ := dps_of C hi
    obtain ⟨fd, lv, A⟩ := C.dfs hc i ps hd
    refine getmeth_ok I1 ea cl me lo ?_
    have ln := len_of C hd ok
    have rr2 : Vals [V.ref a] [Value.ref a] := .cons rfl .nil
    exact PySem.W.callWith_K0 (first := [.ref a]) I1.kIn me.kp (run_any (us := [Value.ref a]) C A I1 (A.bind s1 _ ln) rr2 ⟨ln, m1, h1, [x], t1, .cons rv .nil, ok⟩)
end
end
end Rk
namespace Rk
noncomputable section
open PySem PySem.Spec PyProof.Rows L2
section
variable {g : Gd} {T : Tab} {p : Pd} {cf : Nat → List IV → Hh → R IV} {W : Wx} {c : Cc} {X : Cx}
def bdL (M : Rho → Hh → R IV) (r : Rho) (h : Hh) : R (List IV) := (M r h).bd fun y h => match y with
  | .tup ys => .ok ys h
  | _ => .fail
theorem a_pn : PA X [] (rdA p W (bdL fun _ h => .ok (.tup []) h)) := PA.wk pa_nil fun σ H Q ⟨m, r, h, s, t, o⟩ => o m H _ Xt.refl t .nil
theorem items_spread {m : Mp} {h : Hh} {H : Hp} {x : IV} {V : L2.V} {xs : List IV} (t : RH p m h H) (rv : RV p m H x V) (e : items x h = some xs) : ∃ a vs, V = .ref a ∧ (SqT p.K H a vs ∨ H a = some (.lst vs)) ∧ RVs p m H xs vs := items_ok t rv e
theorem collect_seq {pn : List (Addr × Obj)} {σ : L2.St} {H : Hp} {s : Shared} {a : Addr} {vs : List V} {E : Value → Shared → Prop} {Q : List Value → Shared → Prop} (I : L2.Inv X pn σ H s) (q : SqT X.K H a vs ∨ H a = some (.lst vs)) (k : ∀ us s', L2.Inv X pn σ H s' → Vals vs us → Q us s') :
    PySem.W.StarOf (model X.prog X.w) X.A E (.ref a) Q s := by
  rcases q with q | q
  · exact star_tup I q k
  · obtain ⟨its, r, ⟨ob, n, ho, hcl, hdn, hdt⟩, hz⟩ := I.list (SqL.of q)
    have hT : s.TypeIs (.ref a) "list" := ⟨ob, ho, hcl⟩
    have hl := r.length
    have z : wpAny (model X.prog X.w) X.A (collect (.ref a)) Q E s := by
      refine wpAny_collect_seq a (.inl rfl) ho hcl hdt (fun h' hk => ?_) (by rw [List.size_toArray]; omega)
      have e9 : its.toArray.toList = its := by simp
      rw [e9]
      exact k its _ (I.kept (t' := s.toks) hk) r
    unfold PySem.W.StarOf notIterableAtAll
    exact wpAny_bind (wpAny_specialOf hT PySem.F.slot_list_iter.lookup (wpAny_pure ⟨rfl, z⟩))
theorem star_splice {M : Model} {A : Around} {E : Value → Shared → Prop} {e : Expr} {sp pos : Pos} {es : List Expr} {env : Env} {Q : List Value → Shared → Prop} {s : Shared}
    (h : wpAny M A (eval e env) (fun v s1 => PySem.W.StarOf M A E v (fun here s2 => wpAny M A (spliced (backTo pos (starEach es env))) (fun vs s3 => Q (here ++ vs) s3) E s2) s1) E s) :
    wpAny M A (spliced (backTo pos (starEach (.Starred e sp :: es) env))) Q E s := PySem.W.items_star h
theorem rest_ok {m : Mp} {h : Hh} {H : Hp} {E : XK} {xs : List IV} {vs : List V} {Mb : Rho → Hh → R IV} {r : Rho} {Q : List V → Hp → Prop} (rvs : RVs p m H xs vs)
    (ok : Ok (RVs p) p m H E (((Mb r h).bd fun y h => pcK xs y h).bd fun y h => match y with
      | .tup ys => R.ok ys h
      | _ => .fail) Q) : Ok (RVs p) p m H E (bdL Mb r h) fun ws H2 => Q (vs ++ ws) H2 := by
  unfold bdL
  cases q : Mb r h with
  | fail =>
    rw [q] at ok
    exact ok
  | exc _ _ =>
    rw [q] at ok
    exact ok
  | ok y h2 =>
    rw [q] at ok
    have ok : Ok (RVs p) p m H E ((pcK xs y h2).bd fun y h => match y with
      | .tup ys => R.ok ys h
      | _ => .fail) Q := ok
    obtain ⟨ys, rfl⟩ : ∃ ys, y = .tup ys := by
      cases y <;> first | exact ok.elim | exact ⟨_, rfl⟩
    have ok : Ok (RVs p) p m H E (.ok (appR xs ys) h2) Q := ok
    rw [appR_eq] at ok
    intro m2 H2 ws x2 t2 rws
    exact ok m2 H2 _ x2 t2 ((rvs.mono x2).app rws)
theorem a_pcs {e : Expr} {sp : Pos} {es : List Expr} {Ma Mb : Rho → Hh → R IV} (ha : PE X e (rdE p W Ma)) (hr : PA X es (rdA p W (bdL Mb))) (hK : X.K = p.K) :
    PA X (.Starred e sp :: es) (rdA p W (bdL fun r h => (Ma r h).bd fun x h => match spr true x h with
    | some xs => (Mb r h).bd fun y h => pcK xs y h
    | none => .fail)) := by
  refine ⟨fun po pn s sg H Q I z => ?_⟩
  obtain ⟨m, r, h, s1, t, ok⟩ := z
  have ok2 : Ok (RVs p) p m H (fun c d H => W c d sg H) ((Ma r h).bd fun x h => (match spr true x h with
    | some xs => (Mb r h).bd fun y h => pcK xs y h
    | none => .fail).bd fun y h => match y with
      | .tup ys => R.ok ys h
      | _ => .fail) Q := by
    unfold bdL at ok
    dsimp only at ok
    cases q : Ma r h <;> (rw [q] at ok; exact ok)
  refine star_splice (thn (ha.run pn s sg H _ I ⟨m, r, h, s1, t, Ok.bd (rel := RV p) ok2⟩) fun u s2 w => ?_)
  obtain ⟨V, H1, I1, rx, m1, h1, x, x1, t1, rv, ok3⟩ := w
  have s3 := s1.mono x1
  cases e1 : items x h1 with
  | none =>
    have e2 : spr true x h1 = none := e1
    rw [e2] at ok3
    exact ok3.elim
  | some xs =>
    have e2 : spr true x h1 = some xs := e1
    rw [e2] at ok3
    obtain ⟨a, vs, rfl, sq, rvs⟩ := items_ok t1 rv e1
    obtain rfl : u = Value.ref a := rx
    refine collect_seq I1 (by rw [hK]; exact sq) fun us s4 I4 rus => ?_
    have key : rdA p W (bdL Mb) sg H1 fun ws H2 => Q (vs ++ ws) H2 := ⟨m1, r, h1, s3, t1, rest_ok rvs ok3⟩
    refine thn (hr.run po pn s4 sg H1 _ I4 key) fun ws s5 w => ?_
    obtain ⟨ws', H2, I5, rw5, q5⟩ := w
    exact ⟨vs ++ ws', H2, I5, rus.append rw5, q5⟩
theorem a_pc {e : Expr} {es : List Expr} {Ma Mb : Rho → Hh → R IV} (hs : star e = false) (ha : PE X e (rdE p W Ma)) (hr : PA X es (rdA p W (bdL Mb))) :
    PA X (e :: es) (rdA p W (bdL fun r h => (Ma r h).bd fun x h => match spr false x h with
    | some xs => (Mb r h).bd fun y h => pcK xs y h
    | none => .fail)) := by
  refine PA.wk (pa_cons ha hr (by cases e <;> first | rfl | cases hs)) fun σ H Q z => ?_
  obtain ⟨m, r, h, s, t, ok⟩ := z
  have ok2 : Ok (RVs p) p m H (fun c d H => W c d σ H) ((Ma r h).bd fun x h => ((Mb r h).bd fun y h => pcK [x] y h).bd fun y h => match y with
      | .tup ys => R.ok ys h
      | _ => .fail) Q := by
    unfold bdL at ok
    dsimp only at ok
    cases q : Ma r h <;> (rw [q] at ok; exact ok)
  refine ⟨m, r, h, s, t, (Ok.bd (rel := RV p) ok2).mono fun V H1 w => ?_⟩
  obtain ⟨m1, h1, x, x1, t1, rv, ok3⟩ := w
  exact ⟨m1, r, h1, s.mono x1, t1, rest_ok (.cons rv .nil) ok3⟩
def packV (l : Bool) (ys : List IV) (h : Hh) : R IV := match l with
  | true => newL ys h
  | false => .ok (.tup ys) h
theorem packK_ok {m : Mp} {h : Hh} {H : Hp} {E : XK} {l : Bool} {ys : List IV} {vs : List V} {Q : VK} (ok : Ok (RV p) p m H E (packK l (.tup ys) h) Q) (rvs : RVs p m H ys vs) : vs.length ≤ sizeLine ∧ Ok (RV p) p m H E (packV l ys h) Q := by
  unfold packK at ok
  dsimp only at ok
  cases e : Nat.ble (lenR ys) fewL with
  | false =>
    rw [e] at ok
    exact ok.elim
  | true =>
    rw [e] at ok
    refine ⟨?_, ok⟩
    rw [← rvs.length, ← lenR_eq]
    exact few_ok e
theorem pack_rd {l : Bool} {M : Rho → Hh → R IV} {σ : L2.St} {H : Hp} {Q : VK} (z : rdE p W (fun r h => (M r h).bd fun y h => packK l y h) σ H Q) :
    rdA p W (bdL M) σ H fun vs H1 => vs.length ≤ sizeLine ∧ ∃ m1 h1 ys E, RH p m1 h1 H1 ∧ RVs p m1 H1 ys vs ∧ Ok (RV p) p m1 H1 E (packV l ys h1) Q := by
  obtain ⟨m, r, h, s, t, ok⟩ := z
  refine ⟨m, r, h, s, t, ?_⟩
  unfold bdL
  dsimp only at ok
  cases q : M r h with
  | fail =>
    rw [q] at ok
    exact ok
  | exc _ _ =>
    rw [q] at ok
    exact ok
  | ok y h2 =>
    rw [q] at ok
    have ok : Ok (RV p) p m H (fun c d H => W c d σ H) (packK l y h2) Q := ok
    obtain ⟨ys, rfl⟩ : ∃ ys, y = .tup ys := by
      cases y <;> first | exact ok.elim | exact ⟨_, rfl⟩
    intro m1 H1 vs x1 t1 rvs
    obtain ⟨h1, h2'⟩ := packK_ok (Ok.ext ok x1) rvs
    exact ⟨h1, m1, h2, ys, _, t1, rvs, h2'⟩
theorem n_packL {es : List Expr} {M : Rho → Hh → R IV} {pos : Pos} (hr : PA X es (rdA p W (bdL M))) : PE X (.List es pos) (rdE p W fun r h => (M r h).bd fun y h => packK true y h) := by
  refine PE.wk (pe_lst hr) fun σ H Q z => ?_
  obtain ⟨m, r, h, s, t, ok⟩ := pack_rd z
  refine ⟨m, r, h, s, t, ok.mono fun vs H1 w => ?_⟩
  obtain ⟨hl, m1, h1, ys, E, t1, rvs, ok1⟩ := w
  exact ⟨hl, fun q hq => Ok.newL t1 rvs ok1 hq⟩
theorem n_packT {es : List Expr} {M : Rho → Hh → R IV} {k : Nat} {pos : Pos} (hr : PA X es (rdA p W (bdL M))) : PE X (.Tuple es k pos) (rdE p W fun r h => (M r h).bd fun y h => packK false y h) := by
  refine PE.wk (pe_tup hr) fun σ H Q z => ?_
  obtain ⟨m, r, h, s, t, ok⟩ := pack_rd z
  refine ⟨m, r, h, s, t, ok.mono fun vs H1 w => ?_⟩
  obtain ⟨hl, m1, h1, ys, E, t1, rvs, ok1⟩ := w
  exact ⟨hl, fun q hq => Ok.tup t1 rvs ok1 hq⟩
theorem min3_ok {m : Mp} {h : Hh} {H : Hp} {E : XK} {u v w : IV} {U V' W' : L2.V} {Q : VK} (t : RH p m h H) (ru : RV p m H u U) (rv : RV p m H v V') (rw_ : RV p m H w W') :
    (∀ (_ : Ok (RV p) p m H E (min3K .min u v w h) Q), ∃ z, nuMin3 U V' W' = some z ∧ Q z H) ∧ (∀ (_ : Ok (RV p) p m H E (min3K .max u v w h) Q), ∃ z, nuMax3 U V' W' = some z ∧ Q z H) := by
  refine ⟨fun ok => ?_, fun ok => ?_⟩
  · cases ru <;> first | exact ok.elim | skip
    rename_i i
    cases rv <;> first | exact ok.elim | skip
    rename_i j
    unfold min3K at ok
    dsimp only [Rk.bi2] at ok
    rw [ilt_eq] at ok
    by_cases c1 : j < i
    · rw [decide_eq_true c1] at ok
      dsimp only at ok
      cases rw_ <;> first | exact ok.elim | skip
      rename_i k
      dsimp only at ok
      rw [ilt_eq] at ok
      by_cases c2 : k < j
      · rw [decide_eq_true c2] at ok
        refine ⟨.int k, ?_, Ok.int t ok⟩
        unfold nuMin3 nuMin2 nuLt nuCB
        simp [c1, c2]
      · rw [decide_eq_false c2] at ok
        refine ⟨.int j, ?_, Ok.int t ok⟩
        unfold nuMin3 nuMin2 nuLt nuCB
        simp [c1, c2]
    · rw [decide_eq_false c1] at ok
      dsimp only at ok
      cases rw_ <;> first | exact ok.elim | skip
      rename_i k
      dsimp only at ok
      rw [ilt_eq] at ok
      by_cases c2 : k < i
      · rw [decide_eq_true c2] at ok
        refine ⟨.int k, ?_, Ok.int t ok⟩
        unfold nuMin3 nuMin2 nuLt nuCB
        simp [c1, c2]
      · rw [decide_eq_false c2] at ok
        refine ⟨.int i, ?_, Ok.int t ok⟩
        unfold nuMin3 nuMin2 nuLt nuCB
        simp [c1, c2]
  · cases ru <;> first | exact ok.elim | skip
    rename_i i
    cases rv <;> first | exact ok.elim | skip
    rename_i j
    unfold min3K at ok
    dsimp only [Rk.bi2] at ok
    rw [ilt_eq] at ok
    by_cases c1 : i < j
    · rw [decide_eq_true c1] at ok
      dsimp only at ok
      cases rw_ <;> first | exact ok.elim | skip
      rename_i k
      dsimp only at ok
      rw [ilt_eq] at ok
      by_cases c2 : j < k
      · rw [decide_eq_true c2] at ok
        refine ⟨.int k, ?_, Ok.int t ok⟩
        unfold nuMax3 nuMax2 nuLt nuCB
        simp [c1, c2]
      · rw [decide_eq_false c2] at ok
        refine ⟨.int j, ?_, Ok.int t ok⟩
        unfold nuMax3 nuMax2 nuLt nuCB
        simp [c1, c2]
    · rw [decide_eq_false c1] at ok
      dsimp only at ok
      cases rw_ <;> first | exact ok.elim | skip
      rename_i k
      dsimp only at ok
      rw [ilt_eq] at ok
      by_cases c2 : i < k
      · rw [decide_eq_true c2] at ok
        refine ⟨.int k, ?_, Ok.int t ok⟩
        unfold nuMax3 nuMax2 nuLt nuCB
        simp [c1, c2]
      · rw [decide_eq_false c2] at ok
        refine ⟨.int i, ?_, Ok.int t ok⟩
        unfold nuMax3 nuMax2 nuLt nuCB
        simp [c1, c2]
theorem n_min3 (C : CxOk g T p cf W c X) (hc : c.calm = true) {b : Bi} (hb : b3 b = true) {x y z : Expr} {Mx My Mz : Rho → Hh → R IV} {q pos : Pos} (hf : g.free.contains (bN b) = true) (hg : glB c.sc (bN b) = true) (h1 : star x = false) (h2 : star y = false) (h3 : star z = false)
    (hx : PE X x (rdE p W Mx)) (hy : PE X y (rdE p W My)) (hz : PE X z (rdE p W Mz)) :
    PE X (.Call (.Name (bN b) q) [x, y, z] [] pos) (rdE p W fun r h => (Mx r h).bd fun u h => (My r h).bd fun v h => (Mz r h).bd fun w h => min3K b u v w h) := by
  have args : PA X [x, y, z] _ := pa_cons hx (pa_cons hy (pa_cons hz pa_nil (by cases z <;> first | rfl | cases h3)) (by cases y <;> first | rfl | cases h2)) (by cases x <;> first | rfl | cases h1)
  have rd : ∀ {σ : L2.St} {H : Hp} {Q : VK}, rdE p W (fun r h => (Mx r h).bd fun u h => (My r h).bd fun v h => (Mz r h).bd fun w h => min3K b u v w h) σ H Q →
      tCons (rdE p W Mx) (tCons (rdE p W My) (tCons (rdE p W Mz) tNil)) σ H fun vs H3 => ∃ U V' W' m3 h3 u v w E, vs = [U, V', W'] ∧ RH p m3 h3 H3 ∧ RV p m3 H3 u U ∧ RV p m3 H3 v V' ∧ RV p m3 H3 w W' ∧ Ok (RV p) p m3 H3 E (min3K b u v w h3) Q := by
    intro σ H Q z9
    obtain ⟨m, r, h, s, t, ok⟩ := rdG.bd (rel := RV p) (M := Mx) (k := fun r u h => (My r h).bd fun v h => (Mz r h).bd fun w h => min3K b u v w h) z9
    refine ⟨m, r, h, s, t, ok.mono fun U H1 w1 => ?_⟩
    obtain ⟨m1, r1, h1, u, s1, t1, ru, ok1⟩ := w1
    refine ⟨m1, r1, h1, s1, t1, (Ok.bd (rel := RV p) ok1).mono fun V' H2 w2 => ?_⟩
    obtain ⟨m2, h2, v, x2, t2, rv, ok2⟩ := w2
    refine ⟨m2, r1, h2, s1.mono x2, t2, (Ok.bd (rel := RV p) ok2).mono fun W' H3 w3 => ?_⟩
    obtain ⟨m3, h3, w, x3, t3, rw_, ok3⟩ := w3
    exact ⟨U, V', W', m3, h3, u, v, w, _, rfl, t3, (ru.mono x2).mono x3, rv.mono x3, rw_, ok3⟩
  have no : ∀ {env : Env}, (backTo pos (starEach [y, z] env)).any (·.1) = false := fun {env} => star_none (by
    unfold plainEs
    rw [h2]
    unfold plainEs
    rw [h3]
    rfl)
  cases b <;> first | cases hb | skip
  · refine PE.wk (pe_callB (call_min3Nu (C.calm hc)) (gl_ok C hg) (C.free _ hf) (show bootBuiltins ("min" : Str) = some (.builtin "min") by decide +kernel) args (by decide) (by decide) (star_cons h1) no) fun σ H Q z9 => ?_
    obtain ⟨m, r, h, s, t, ok⟩ := rd z9
    refine ⟨m, r, h, s, t, ok.mono fun U H1 w1 => ?_⟩
    obtain ⟨m1, r1, h1, s1, t1, ok1⟩ := w1
    refine ⟨m1, r1, h1, s1, t1, ok1.mono fun V' H2 w2 => ?_⟩
    obtain ⟨m2, r2, h2, s2, t2, ok2⟩ := w2
    refine ⟨m2, r2, h2, s2, t2, ok2.mono fun W' H3 w3 => ?_⟩
    obtain ⟨U, V', W', m3, h3, u, v, w, E, e, t3, ru, rv, rw_, ok3⟩ := w3
    obtain ⟨z8, e8, q8⟩ := (min3_ok t3 ru rv rw_).1 ok3
    exact ⟨U, V', W', z8, e, e8, q8⟩
  · refine PE.wk (pe_callB (call_max3Nu (C.calm hc)) (gl_ok C hg) (C.free _ hf) (show bootBuiltins ("max" : Str) = some (.builtin "max") by decide +kernel) args (by decide) (by decide) (star_cons h1) no) fun σ H Q z9 => ?_
    obtain ⟨m, r, h, s, t, ok⟩ := rd z9
    refine ⟨m, r, h, s, t, ok.mono fun U H1 w1 => ?_⟩
    obtain ⟨m1, r1, h1, s1, t1, ok1⟩ := w1
    refine ⟨m1, r1, h1, s1, t1, ok1.mono fun V' H2 w2 => ?_⟩
    obtain ⟨m2, r2, h2, s2, t2, ok2⟩ := w2
    refine ⟨m2, r2, h2, s2, t2, ok2.mono fun W' H3 w3 => ?_⟩
    obtain ⟨U, V', W', m3, h3, u, v, w, E, e, t3, ru, rv, rw_, ok3⟩ := w3
    obtain ⟨z8, e8, q8⟩ := (min3_ok t3 ru rv rw_).2 ok3
    exact ⟨U, V', W', z8, e, e8, q8⟩
theorem rv_ok {tg : Expr} {m : Mp} {h : Hh} {H : Hp} {E : XK} {x y : IV} {R' : L2.It → Hp → Prop} {i j : Int} (t : RH p m h H) (ok : Ok (RI p) p m H E (rvR (.int i) (.int j) h) R') :
    -(2 ^ 62) ≤ i ∧ i < 2 ^ 62 ∧ -(2 ^ 62) ≤ j ∧ j < 2 ^ 62 ∧ R' (Itc (i + (((j - i).toNat : Nat) : Int) - 1) (-1) (j - i).toNat) H := by
  unfold rvR at ok
  dsimp only at ok
  cases e1 : within62 i with
  | false =>
    rw [e1] at ok
    exact ok.elim
  | true =>
    rw [e1] at ok
    dsimp only at ok
    cases e2 : within62 j with
    | false =>
      rw [e2] at ok
      exact ok.elim
    | true =>
      rw [e2] at ok
      refine ⟨(w62 e1).1, (w62 e1).2, (w62 e2).1, (w62 e2).2, ok m H _ Xt.refl t ⟨_, sim_rngC, Nat.zero_le _, ?_⟩⟩
      have : i + (((j - i).toNat : Nat) : Int) - 1 + ((0 : Nat) : Int) * (-1) = i + (((j - i).toNat : Nat) : Int) - 1 := by omega
      rw [this]
      rfl
theorem i_revR (C : CxOk g T p cf W c X) {tg a b : Expr} {Ma Mb : Rho → Hh → R IV} {q1 q2 p1 p2 : Pos} (hf : g.free.contains ("range" : Str) = true) (hg : glB c.sc ("range" : Str) = true) (hf2 : g.free.contains ("reversed" : Str) = true) (hg2 : glB c.sc ("reversed" : Str) = true)
    (hs : star a = false) (hs2 : star b = false) (ha : PE X a (rdE p W Ma)) (hb : PE X b (rdE p W Mb)) :
    PI X tg (.Call (.Name "reversed" q1) [.Call (.Name "range" q2) [a, b] [] p2] [] p1) (rdI p W fun r h => (Ma r h).bd fun x h => (Mb r h).bd fun y h => rvR x y h) := by
  refine PI.wk (pi_revR (gl_ok C hg2) (C.free _ hf2) (prg_2 (gl_ok C hg) (C.free _ hf) ha hb (by rw [star_cons hs]) (by rw [star_cons hs2]) (star_none (by unfold plainEs; rw [hs2]; rfl)))) fun σ H R' z => ?_
  obtain ⟨m, r, h, s, t, ok⟩ := rdG.bd (rel := RV p) (M := Ma) (k := fun r x h => (Mb r h).bd fun y h => rvR x y h) z
  refine ⟨m, r, h, s, t, ok.mono fun U H1 w1 => ?_⟩
  obtain ⟨m1, r1, h1, u, s1, t1, ru, ok1⟩ := w1
  refine ⟨m1, r1, h1, s1, t1, (Ok.bd (rel := RV p) ok1).mono fun V' H2 w2 => ?_⟩
  obtain ⟨m2, h2, v, x2, t2, rv, ok2⟩ := w2
  have ru := ru.mono x2
  cases ru <;> first | exact ok2.elim | skip
  cases rv <;> first | exact ok2.elim | skip
  rename_i i j
  exact ⟨i, j, rfl, rfl, rv_ok (tg := tg) (x := .non) (y := .non) t2 ok2⟩
theorem i_revR1 (C : CxOk g T p cf W c X) {tg b : Expr} {Mb : Rho → Hh → R IV} {q1 q2 p1 p2 : Pos} (hf : g.free.contains ("range" : Str) = true) (hg : glB c.sc ("range" : Str) = true) (hf2 : g.free.contains ("reversed" : Str) = true) (hg2 : glB c.sc ("reversed" : Str) = true)
    (hs2 : star b = false) (hb : PE X b (rdE p W Mb)) :
    PI X tg (.Call (.Name "reversed" q1) [.Call (.Name "range" q2) [b] [] p2] [] p1) (rdI p W fun r h => (Mb r h).bd fun y h => rvR (.int 0) y h) := by
  refine PI.wk (pi_revR (gl_ok C hg2) (C.free _ hf2) (prg_1 (gl_ok C hg) (C.free _ hf) hb (by rw [star_cons hs2]))) fun σ H R' z => ?_
  obtain ⟨m, r, h, s, t, ok⟩ := rdG.bd (rel := RV p) (M := Mb) (k := fun r y h => rvR (.int 0) y h) z
  refine ⟨m, r, h, s, t, ok.mono fun U H1 w1 => ?_⟩
  obtain ⟨m1, r1, h1, u, s1, t1, ru, ok1⟩ := w1
  cases ru <;> first | exact ok1.elim | skip
  rename_i j
  exact ⟨j, rfl, rv_ok (tg := tg) (x := .non) (y := .non) t1 ok1⟩
def rBid (p : Pd) (mx : Bool) : List V → List V → Hp → VK → Prop := fun vs zs H Q => ∃ (a : Addr) (ys : List V) (d : V) (m : Mp) (h : Hh) (xs : List IV) (dd : IV) (E : XK), vs = [V.ref a] ∧ zs = [d] ∧ (SqT p.K H a ys ∨ H a = some (.lst ys)) ∧ RH p m h H ∧ RVs p m H xs ys ∧ RV p m H dd d ∧ Ok (RV p) p m H E (bidO mx (some xs) dd h) Q
theorem cr_bid (hK : X.K = p.K) (hc : X.calm = true) (hu : X.A.units + 65 < cLine) : CallRK X (.builtin "min") [Str.ofString "default"] (rBid p false) ∧ CallRK X (.builtin "max") [Str.ofString "default"] (rBid p true) := by
  refine ⟨fun pn s sg H vs zs us ws Q I ru rz q => ?_, fun pn s sg H vs zs us ws Q I ru rz q => ?_⟩
  · obtain ⟨a, ys, d, m, h, xs, dd, E, rfl, rfl, hT, rh, rx, rd, ok⟩ := q
    cases Vals.ref1 ru
    obtain ⟨w, rfl, rw_⟩ := vals1 rz
    have hh : X.A.handled = none := I.ok.hd hc
    show wpAny _ _ (call (.builtin "min") [.ref a] [(Str.ofString "default", w)]) _ _ _
    cases e : intsL xs with
    | some ns =>
      have ey := intsL_ok e rx
      subst ey
      have h0 : ns.map PyData.int = [] → ∀ (h' : Heap) (tk : Nat), (∀ b o, s.heap.get? b = some o → h'.get? b = some o) → EP X pn sg Q w { s with heap := h', toks := tk } := fun z h' tk k => by
        have : ns = [] := List.map_eq_nil_iff.mp z
        subst this
        have ex := intsL_map e
        subst ex
        exact ⟨d, H, I.kept (t' := tk) k, rw_, ok m H d Xt.refl rh rd⟩
      have h1 : ∀ (y : PyData) (zs : List PyData), ns.map PyData.int = y :: zs → ∀ (v : Value) (h' : Heap) (tk : Nat) (bs : List Addr), Reads h' v (W.minD y zs) bs → (∀ b o, s.heap.get? b = some o → h'.get? b = some o) → EP X pn sg Q v { s with heap := h', toks := tk } := fun y zs z v h' tk bs r k => by
        cases ns with
        | nil => cases z
        | cons n ns =>
          rw [List.map_cons] at z
          injection z with z1 z2
          subst z1 z2
          rw [W.minD_ints] at r
          obtain ⟨t, rfl⟩ := reads_int r
          have ex := intsL_map e
          subst ex
          exact ⟨.int (ns.foldl min n), H, I.kept (t' := tk) k, ⟨t, rfl⟩, best_ints (mx := false) rh e ok⟩
      have hd : PyData.depthAll (ns.map PyData.int) = 0 := ints_depth ns
      rcases hT with hT | hT
      · obtain ⟨its, r, ht, hz⟩ := I.tuple (by rw [hK]; exact hT)
        exact W.min_tuple_default hh ht (ints_reads (ns := ns) (hp := s.heap) (by simpa using r)) (ints_alike ns) (by rw [hd]; omega) h0 fun y zs i v h' tk bs z _ r k => h1 y zs z v h' tk bs r k
      · obtain ⟨its, r, ht, hz⟩ := I.list (SqL.of hT)
        exact W.min_list_default hh ht.isList (ints_reads (ns := ns) (hp := s.heap) (by simpa using r)) (ints_alike ns) (by rw [hd]; omega) h0 fun y zs i v h' tk bs z _ r k => h1 y zs z v h' tk bs r k
    | none =>
      cases xs with
      | nil => cases e
      | cons x0 xr =>
        obtain ⟨t, ts, ex, ok2⟩ := best_rows (mx := false) e ok
        rw [ex] at rx
        have h0 : (t :: ts).map tD = [] → ∀ (h' : Heap) (tk : Nat), (∀ b o, s.heap.get? b = some o → h'.get? b = some o) → EP X pn sg Q w { s with heap := h', toks := tk } := fun z => by cases z
        have h1 : ∀ (its : List Value), Vals ys its → ∀ (y : PyData) (zs : List PyData) (i : Nat) (v : Value) (h' : Heap) (tk : Nat) (bs : List Addr), (t :: ts).map tD = y :: zs → its.toArray[i]? = some v → Reads h' v (W.minD y zs) bs → (∀ b o, s.heap.get? b = some o → h'.get? b = some o) → EP X pn sg Q v { s with heap := h', toks := tk } := fun its r y zs i v h' tk bs z hi rr k => by
          rw [List.map_cons] at z
          injection z with z1 z2
          subst z1 z2
          rw [minT_eq] at rr
          obtain ⟨y, ry, r3⟩ := row_of hK I rx r (by simpa using hi) rr k
          exact ⟨y, H, I.kept (t' := tk) k, ry, ok2 m H y Xt.refl rh r3⟩
        have hd := tD_depths (t :: ts)
        rcases hT with hT | hT
        · obtain ⟨its, r, ht, hz⟩ := I.tuple (by rw [hK]; exact hT)
          obtain ⟨as, ra⟩ := tups_reads hK I rx r
          exact W.min_tuple_default hh ht (by simpa using ra) (tD_alikeAll (t :: ts)) (by omega) h0 fun y zs i v h' tk bs z hi r2 k => h1 its r y zs i v h' tk bs z hi r2 k
        · obtain ⟨its, r, ht, hz⟩ := I.list (SqL.of hT)
          obtain ⟨as, ra⟩ := tups_reads hK I rx r
          exact W.min_list_default hh ht.isList (by simpa using ra) (tD_alikeAll (t :: ts)) (by omega) h0 fun y zs i v h' tk bs z hi r2 k => h1 its r y zs i v h' tk bs z hi r2 k
  · obtain ⟨a, ys, d, m, h, xs, dd, E, rfl, rfl, hT, rh, rx, rd, ok⟩ := q
    cases Vals.ref1 ru
    obtain ⟨w, rfl, rw_⟩ := vals1 rz
    have hh : X.A.handled = none := I.ok.hd hc
    show wpAny _ _ (call (.builtin "max") [.ref a] [(Str.ofString "default", w)]) _ _ _
    cases e : intsL xs with
    | some ns =>
      have ey := intsL_ok e rx
      subst ey
      have h0 : ns.map PyData.int = [] → ∀ (h' : Heap) (tk : Nat), (∀ b o, s.heap.get? b = some o → h'.get? b = some o) → EP X pn sg Q w { s with heap := h', toks := tk } := fun z h' tk k => by
        have : ns = [] := List.map_eq_nil_iff.mp z
        subst this
        have ex := intsL_map e
        subst ex
        exact ⟨d, H, I.kept (t' := tk) k, rw_, ok m H d Xt.refl rh rd⟩
      have h1 : ∀ (y : PyData) (zs : List PyData), ns.map PyData.int = y :: zs → ∀ (v : Value) (h' : Heap) (tk : Nat) (bs : List Addr), Reads h' v (W.maxD y zs) bs → (∀ b o, s.heap.get? b = some o → h'.get? b = some o) → EP X pn sg Q v { s with heap := h', toks := tk } := fun y zs z v h' tk bs r k => by
        cases ns with
        | nil => cases z
        | cons n ns =>
          rw [List.map_cons] at z
          injection z with z1 z2
          subst z1 z2
          rw [W.maxD_ints] at r
          obtain ⟨t, rfl⟩ := reads_int r
          have ex := intsL_map e
          subst ex
          exact ⟨.int (ns.foldl max n), H, I.kept (t' := tk) k, ⟨t, rfl⟩, best_ints (mx := true) rh e ok⟩
      have hd : PyData.depthAll (ns.map PyData.int) = 0 := ints_depth ns
      rcases hT with hT | hT
      · obtain ⟨its, r, ht, hz⟩ := I.tuple (by rw [hK]; exact hT)
        exact W.max_tuple_default hh ht (ints_reads (ns := ns) (hp := s.heap) (by simpa using r)) (ints_alike ns) (by rw [hd]; omega) h0 fun y zs i v h' tk bs z _ r k => h1 y zs z v h' tk bs r k
      · obtain ⟨its, r, ht, hz⟩ := I.list (SqL.of hT)
        exact W.max_list_default hh ht.isList (ints_reads (ns := ns) (hp := s.heap) (by simpa using r)) (ints_alike ns) (by rw [hd]; omega) h0 fun y zs i v h' tk bs z _ r k => h1 y zs z v h' tk bs r k
    | none =>
      cases xs with
      | nil => cases e
      | cons x0 xr =>
        obtain ⟨t, ts, ex, ok2⟩ := best_rows (mx := true) e ok
        rw [ex] at rx
        have h0 : (t :: ts).map tD = [] → ∀ (h' : Heap) (tk : Nat), (∀ b o, s.heap.get? b = some o → h'.get? b = some o) → EP X pn sg Q w { s with heap := h', toks := tk } := fun z => by cases z
        have h1 : ∀ (its : List Value), Vals ys its → ∀ (y : PyData) (zs : List PyData) (i : Nat) (v : Value) (h' : Heap) (tk : Nat) (bs : List Addr), (t :: ts).map tD = y :: zs → its.toArray[i]? = some v → Reads h' v (W.maxD y zs) bs → (∀ b o, s.heap.get? b = some o → h'.get? b = some o) → EP X pn sg Q v { s with heap := h', toks := tk } := fun its r y zs i v h' tk bs z hi rr k => by
          rw [List.map_cons] at z
          injection z with z1 z2
          subst z1 z2
          rw [maxT_eq] at rr
          obtain ⟨y, ry, r3⟩ := row_of hK I rx r (by simpa using hi) rr k
          exact ⟨y, H, I.kept (t' := tk) k, ry, ok2 m H y Xt.refl rh r3⟩
        have hd := tD_depths (t :: ts)
        rcases hT with hT | hT
        · obtain ⟨its, r, ht, hz⟩ := I.tuple (by rw [hK]; exact hT)
          obtain ⟨as, ra⟩ := tups_reads hK I rx r
          exact W.max_tuple_default hh ht (by simpa using ra) (tD_alikeAll (t :: ts)) (by omega) h0 fun y zs i v h' tk bs z hi r2 k => h1 its r y zs i v h' tk bs z hi r2 k
        · obtain ⟨its, r, ht, hz⟩ := I.list (SqL.of hT)
          obtain ⟨as, ra⟩ := tups_reads hK I rx r
          exact W.max_list_default hh ht.isList (by simpa using ra) (tD_alikeAll (t :: ts)) (by omega) h0 fun y zs i v h' tk bs z hi r2 k => h1 its r y zs i v h' tk bs z hi r2 k
theorem n_bid (C : CxOk g T p cf W c X) (hc : c.calm = true) {b : Bi} (hb : b3 b = true) {a d : Expr} {Ma Md : Rho → Hh → R IV} {q kp pos : Pos} (hf : g.free.contains (bN b) = true) (hg : glB c.sc (bN b) = true) (hs : star a = false)
    (ha : PE X a (rdE p W Ma)) (hd : PE X d (rdE p W Md)) :
    PE X (.Call (.Name (bN b) q) [a] [⟨some (Str.ofString "default"), d, kp⟩] pos) (rdE p W fun r h => (Ma r h).bd fun x h => (Md r h).bd fun y h => bidK b x y h) := by
  have rd : ∀ {mx : Bool} {σ : L2.St} {H : Hp} {Q : VK}, (∀ x y h, bidK b x y h = bidO mx (items x h) y h) → rdE p W (fun r h => (Ma r h).bd fun x h => (Md r h).bd fun y h => bidK b x y h) σ H Q → tCKw (rBid p mx) (tCons (rdE p W Ma) tNil) (tCons (rdE p W Md) tNil) σ H Q := by
    intro mx σ H Q hbk z
    obtain ⟨m, r, h, s, t, ok⟩ := rdG.bd (rel := RV p) (M := Ma) (k := fun r x h => (Md r h).bd fun y h => bidK b x y h) z
    refine ⟨m, r, h, s, t, ok.mono fun U H1 w => ?_⟩
    obtain ⟨m1, r1, h1, x, s1, t1, rx, ok1⟩ := w
    refine ⟨m1, r1, h1, s1, t1, (Ok.bd (rel := RV p) ok1).mono fun D H2 w2 => ?_⟩
    obtain ⟨m2, h2, y, x2, t2, ry, ok2⟩ := w2
    rw [hbk] at ok2
    cases e : items x h2 with
    | none =>
      rw [e] at ok2
      exact ok2.elim
    | some xs =>
      rw [e] at ok2
      obtain ⟨l, vs, rfl, sq, rvs⟩ := items_ok t2 (rx.mono x2) e
      exact ⟨l, vs, D, m2, h2, xs, y, _, rfl, rfl, sq, t2, rvs, ry, ok2⟩
  have args : PA X [a] _ := pa_cons ha pa_nil (by cases a <;> first | rfl | cases hs)
  have back : ∀ {env : Env}, backTo pos (starEach [a] env) = (false, eval a env) :: backTo pos (starEach [] env) := fun {env} => by
    rw [star_cons hs]
    rfl
  cases b <;> first | cases hb | skip
  · exact PE.wk (pe_callBK (cr_bid C.K (C.calm hc) C.un).1 (gl_ok C hg) (C.free _ hf) (show bootBuiltins ("min" : Str) = some (.builtin "min") by decide +kernel) args (pk_cons hd pk_nil) (by decide) (by decide) back (by rw [star_cons hs]; rfl)) fun σ H Q z => rd (mx := false) (fun _ _ _ => rfl) z
  · exact PE.wk (pe_callBK (cr_bid C.K (C.calm hc) C.un).2 (gl_ok C hg) (C.free _ hf) (show bootBuiltins ("max" : Str) = some (.builtin "max") by decide +kernel) args (pk_cons hd pk_nil) (by decide) (by decide) back (by rw [star_cons hs]; rfl)) fun σ H Q z => rd (mx := true) (fun _ _ _ => rfl) z
end
end
end Rk
namespace Rk
noncomputable section
open PySem PySem.Spec PyProof.Rows L2
section
variable {prog : Program} {w : World} {A : Around} {E : Value → Shared → Prop} {s : Shared} {z TI TO T i1 i2 : Addr} {f1 f2 : List Addr} {n1 n2 i : Nat} {P1 P2 : Nat → Value → Prop} {G1 G2 : Nat → Heap → Prop} {fl : Bool} {oT : Obj}
theorem zh_item {Q : Value → Shared → Prop} (S : ZipSep2 z TI TO i1 i2 f1 f2) (D1 : Draws prog w A i1 f1 n1 P1 G1) (D2 : Draws prog w A i2 f2 n2 P2 G2)
    (hz : IsZipHeld s.heap z TI TO T fl) (hT : s.heap.get? T = some oT) (hTI : IsTupOf2 s.heap TI (.ref i1) (.ref i2)) (g1 : G1 i s.heap) (g2 : G2 i s.heap) (l1 : i < n1) (l2 : i < n2)
    (hQ : ∀ x y h' tk, P1 i x → P2 i y → IsZipHeld h' z TI TO T true → G1 (i + 1) h' → G2 (i + 1) h' → IsTupOf2 h' s.heap.objs.size x y → h'.objs.size = s.heap.objs.size + 1 →
      (∀ c o, c ≠ z → c ≠ i1 → c ≠ i2 → s.heap.get? c = some o → h'.get? c = some o) → Q (.ref s.heap.objs.size) { s with heap := h', toks := tk }) :
    wpAny (model prog w) A (Builtin.«zip.__next__» ⟨[.ref z], []⟩) (fun fin s' => ∃ v, fin = .done (.ret v) ∧ Q v s') E s := by
  obtain ⟨hp, g, d, tk0, os⟩ := s
  show wpAny _ _ (field (.ref z) 2 >>= _) _ _ _
  refine wpAny_bind (wpAny_field hz rfl (x := .bool false) rfl ?_)
  show wpAny _ _ (field (.ref z) 3 >>= _) _ _ _
  refine wpAny_bind (wpAny_field hz rfl (x := .ref TI) rfl ?_)
  refine wpAny_bind (wpAny_seqItems hTI rfl ?_)
  show wpAny _ _ (Builtin.SmallTypes.ownedTupleIsFree (.ref z) >>= _) _ _ _
  refine wpAny_bind (wpAny_tupleHeld_zip hz hT fun h1 hz1 hs1 => ?_)
  replace hs1 : Heap.SameBut z hp h1 := hs1
  simp only [Bool.false_eq_true, if_false]
  refine wpAny_bind ?_
  rw [← Array.forIn_toList]
  simp only [List.forIn_cons, List.forIn_nil]
  refine wpAny_bind (wpAny_bind (wpAny_holding ?_))
  show wpAny _ _ (Builtin.SmallTypes.nextOf (.ref i1) >>= _) _ _ ⟨h1, g, d, tk0, os⟩
  refine wpAny_bind (D1.item i ⟨h1, g, d, tk0, os⟩ _ _ l1 (D1.over g1 hs1 S.zf1) fun x h2 tk1 hx g1' hs2 => wpAny_pure ?_)
  replace hs2 : Heap.SameBut i1 h1 h2 := hs2
  refine wpAny_pure ?_
  refine wpAny_bind (wpAny_bind (wpAny_holding ?_))
  show wpAny _ _ (Builtin.SmallTypes.nextOf (.ref i2) >>= _) _ _ ⟨h2, g, d, tk1, os⟩
  refine wpAny_bind (D2.item i ⟨h2, g, d, tk1, os⟩ _ _ l2 (D2.over (D2.over g2 hs1 S.zf2) hs2 S.sep1_2) fun y h3 tk2 hy g2' hs3 => wpAny_pure ?_)
  replace hs3 : Heap.SameBut i2 h2 h3 := hs3
  refine wpAny_pure (wpAny_pure ?_)
  show wpAny _ _ (newTuple [x, y] >>= _) _ _ ⟨h3, g, d, tk2, os⟩
  refine wpAny_bind (wpAny_newTuple ?_)
  have hsz : h3.objs.size = hp.objs.size := by rw [hs3.1, hs2.1, hs1.1]
  have hz3 : IsZipHeld h3 z TI TO T true := hs3.extBut _ _ S.zi2 (hs2.extBut _ _ S.zi1 hz1)
  have hk : ∀ c o, c ≠ z → c ≠ i1 → c ≠ i2 → hp.get? c = some o → h3.get? c = some o := fun c o c1 c2 c3 e => hs3.extBut _ _ c3 (hs2.extBut _ _ c2 (hs1.extBut _ _ c1 e))
  have k1 : G1 (i + 1) h3 := D1.over g1' hs3 S.sep2_1
  refine wpAny_pure ⟨_, rfl, ?_⟩
  show Q (.ref h3.objs.size) _
  have hpr : IsTupOf2 (h3.push { cls := .type "tuple", data := .seq #[x, y] }) h3.objs.size x y := Heap.get?_push_size _ rfl
  have hz4 : (h3.push { cls := .type "tuple", data := .seq #[x, y] }).objs.size = h3.objs.size + 1 := Heap.size_push ..
  rw [hsz] at hpr hz4 ⊢
  exact hQ x y _ tk2 hx hy (Heap.get?_push_of_some _ hz3) (D1.frame _ _ _ k1 fun b _ o e => Heap.get?_push_of_some _ e) (D2.frame _ _ _ g2' fun b _ o e => Heap.get?_push_of_some _ e) hpr hz4 fun c o c1 c2 c3 e => Heap.get?_push_of_some _ (hk c o c1 c2 c3 e)
theorem zh_end {Q : Fin → Shared → Prop} (S : ZipSep2 z TI TO i1 i2 f1 f2) (D1 : Draws prog w A i1 f1 n1 P1 G1) (D2 : Draws prog w A i2 f2 n2 P2 G2)
    (hz : IsZipHeld s.heap z TI TO T fl) (hT : s.heap.get? T = some oT) (hTI : IsTupOf2 s.heap TI (.ref i1) (.ref i2)) (g1 : G1 i s.heap) (g2 : G2 i s.heap) (l1 : i ≤ n1) (l2 : i ≤ n2) (he : i = n1 ∨ i = n2)
    (hE : ∀ h' tk e, (∀ c o, c ≠ z → c ≠ i1 → c ≠ i2 → s.heap.get? c = some o → h'.get? c = some o) → (∃ o, h'.get? e = some o ∧ o.cls = .type "StopIteration") → E (.ref e) { s with heap := h', toks := tk }) :
    wpAny (model prog w) A (Builtin.«zip.__next__» ⟨[.ref z], []⟩) Q E s := by
  obtain ⟨hp, g, d, tk0, os⟩ := s
  show wpAny _ _ (field (.ref z) 2 >>= _) _ _ _
  refine wpAny_bind (wpAny_field hz rfl (x := .bool false) rfl ?_)
  show wpAny _ _ (field (.ref z) 3 >>= _) _ _ _
  refine wpAny_bind (wpAny_field hz rfl (x := .ref TI) rfl ?_)
  refine wpAny_bind (wpAny_seqItems hTI rfl ?_)
  show wpAny _ _ (Builtin.SmallTypes.ownedTupleIsFree (.ref z) >>= _) _ _ _
  refine wpAny_bind (wpAny_tupleHeld_zip hz hT fun h1 hz1 hs1 => ?_)
  replace hs1 : Heap.SameBut z hp h1 := hs1
  simp only [Bool.false_eq_true, if_false]
  refine wpAny_bind ?_
  rw [← Array.forIn_toList]
  simp only [List.forIn_cons, List.forIn_nil]
  refine wpAny_bind (wpAny_bind (wpAny_holding ?_))
  show wpAny _ _ (Builtin.SmallTypes.nextOf (.ref i1) >>= _) _ _ ⟨h1, g, d, tk0, os⟩
  by_cases hlt : i < n1
  · refine wpAny_bind (D1.item i ⟨h1, g, d, tk0, os⟩ _ _ hlt (D1.over g1 hs1 S.zf1) fun x h2 tk1 hx g1' hs2 => wpAny_pure ?_)
    replace hs2 : Heap.SameBut i1 h1 h2 := hs2
    have e2 : i = n2 := by omega
    refine wpAny_pure ?_
    refine wpAny_bind (wpAny_bind (wpAny_holding ?_))
    show wpAny _ _ (Builtin.SmallTypes.nextOf (.ref i2) >>= _) _ _ ⟨h2, g, d, tk1, os⟩
    refine wpAny_bind (D2.done ⟨h2, g, d, tk1, os⟩ _ _ (by rw [← e2]; exact D2.over (D2.over g2 hs1 S.zf2) hs2 S.sep1_2) fun h3 e hs3 hx3 => ?_)
    exact hE h3 tk1 e (fun c o c1 c2 c3 x => hs3 _ _ c3 (hs2.extBut _ _ c2 (hs1.extBut _ _ c1 x))) hx3
  · have e1 : i = n1 := by omega
    refine wpAny_bind (D1.done ⟨h1, g, d, tk0, os⟩ _ _ (by rw [← e1]; exact D1.over g1 hs1 S.zf1) fun h2 e hs2 hx2 => ?_)
    exact hE h2 tk0 e (fun c o c1 c2 _ x => hs2 _ _ c2 (hs1.extBut _ _ c1 x)) hx2
theorem zh_nextItem {Q : Option Value → Shared → Prop} (S : ZipSep2 z TI TO i1 i2 f1 f2) (D1 : Draws prog w A.in1 i1 f1 n1 P1 G1) (D2 : Draws prog w A.in1 i2 f2 n2 P2 G2)
    (hz : IsZipHeld s.heap z TI TO T fl) (hT : s.heap.get? T = some oT) (hTI : IsTupOf2 s.heap TI (.ref i1) (.ref i2)) (g1 : G1 i s.heap) (g2 : G2 i s.heap) (l1 : i < n1) (l2 : i < n2)
    (hQ : ∀ x y h' tk, P1 i x → P2 i y → IsZipHeld h' z TI TO T true → G1 (i + 1) h' → G2 (i + 1) h' → IsTupOf2 h' s.heap.objs.size x y → h'.objs.size = s.heap.objs.size + 1 →
      (∀ c o, c ≠ z → c ≠ i1 → c ≠ i2 → s.heap.get? c = some o → h'.get? c = some o) → Q (some (.ref s.heap.objs.size)) { s with heap := h', toks := tk }) :
    wpAny (model prog w) A (pyNext (.ref z)) Q E s := by
  have hTy : s.TypeIs (.ref z) "zip" := ⟨_, hz, rfl⟩
  unfold pyNext
  exact wpAny_bind (wpAny_attempt (wpAny_callSpecial?_slot (name := Str.ofString "__next__") hTy F.slot_zip_next
    (wpAny_call_entry F.slot_zip_next hTy F.entry_zip_next (zh_item S D1 D2 hz hT hTI g1 g2 l1 l2 fun x y h' tk a1 a2 a3 a4 a5 a6 a7 a8 => wpAny_pure (hQ x y h' tk a1 a2 a3 a4 a5 a6 a7 a8)) (F.args_zip_next_1 _))))
theorem zh_nextEnd {Q : Option Value → Shared → Prop} (S : ZipSep2 z TI TO i1 i2 f1 f2) (D1 : Draws prog w A.in1 i1 f1 n1 P1 G1) (D2 : Draws prog w A.in1 i2 f2 n2 P2 G2)
    (hz : IsZipHeld s.heap z TI TO T fl) (hT : s.heap.get? T = some oT) (hTI : IsTupOf2 s.heap TI (.ref i1) (.ref i2)) (g1 : G1 i s.heap) (g2 : G2 i s.heap) (l1 : i ≤ n1) (l2 : i ≤ n2) (he : i = n1 ∨ i = n2)
    (hQ : ∀ h' tk, (∀ c o, c ≠ z → c ≠ i1 → c ≠ i2 → s.heap.get? c = some o → h'.get? c = some o) → Q none { s with heap := h', toks := tk }) : wpAny (model prog w) A (pyNext (.ref z)) Q E s := by
  have hTy : s.TypeIs (.ref z) "zip" := ⟨_, hz, rfl⟩
  unfold pyNext
  refine wpAny_bind (wpAny_attempt (wpAny_callSpecial?_slot (name := Str.ofString "__next__") hTy F.slot_zip_next
    (wpAny_call_entry F.slot_zip_next hTy F.entry_zip_next (zh_end S D1 D2 hz hT hTI g1 g2 l1 l2 he fun h' tk e hk hx => ?_) (F.args_zip_next_1 _))))
  obtain ⟨o, ho, hc⟩ := hx
  refine wpAny_bind (wpAny_isInstance (T := "StopIteration") (b := true) ⟨o, ho, hc⟩ isSubtype_stop ?_)
  exact wpAny_pure (hQ _ _ hk)
end
end
end Rk
namespace Rk
noncomputable section
open PySem PySem.Spec PyProof.Rows L2
theorem zip_no_len : typeLookup (.type "zip") "__len__" = pure none := by rw [typeLookup_type, builtinLookup_eq_fast]; kernel_rfl
theorem zip_no_hint : typeLookup (.type "zip") "__length_hint__" = pure none := by rw [typeLookup_type, builtinLookup_eq_fast]; kernel_rfl
section
variable {p : Pd} {X : Cx} {pins : List (Addr × Obj)} {σ : L2.St} {m : Mp} {h : Hh} {H0 : Hp} {t u : Bool} {a b z TI TO i1 i2 Sa : Addr}
structure Fl (p : Pd) (X : Cx) (pins : List (Addr × Obj)) (σ : L2.St) (m : Mp) (h : Hh) (H0 : Hp) (t u : Bool) (a b z TI TO i1 i2 Sa : Addr) (i : Nat) (s1 s2 : Sc) (xs : List IV) (s : Shared) : Prop where
  st : ∃ (H : Hp) (acc : Array Value) (c : Nat) (vs : List V), L2.Inv X pins σ H s ∧ Xt m H0 m H ∧ RH p m h H ∧ (∀ q ∈ [Sa, z, TI, TO, i1, i2], FpOk X pins H q) ∧ s.heap.get? Sa = some { cls := .type "list", dict := none, data := .seq acc c, slots := #[] } ∧
    Vals vs acc.toList ∧ RVs p m H xs vs ∧ Src p t a i s1 m H ∧ Src p u b i s2 m H
  ti : IsTupOf2 s.heap TI (.ref i1) (.ref i2)
  tob : ∃ o, s.heap.get? TO = some o
  zs : (IsZip s.heap z TI TO .none ∧ ∃ q r, IsTupOf2 s.heap TO q r) ∨ ∃ T f oT, IsZipHeld s.heap z TI TO T f ∧ s.heap.get? T = some oT ∧ T ≠ z ∧ T ≠ i1 ∧ T ≠ i2 ∧ T ≠ Sa
  at1 : AtB t s.heap i1 a i
  at2 : AtB u s.heap i2 b i
theorem fill {A : Around} {R : Result → Shared → Prop} {res : Value} (hh : A.handled = none) (hK : X.K = p.K) (S : ZipSep2 z TI TO i1 i2 [i1, a] [i2, b]) (ha : a ≠ i1) (hb : b ≠ i2) (hs : Sa ∉ [z, TI, TO, i1, i2]) :
    ∀ (f i : Nat) (s1 s2 : Sc) (xs ys : List IV) (s : Shared), Fl p X pins σ m h H0 t u a b z TI TO i1 i2 Sa i s1 s2 xs s → all? f (.zi s1 s2) h = some ys → (xs ++ ys).length < sizeLine →
      (∀ s' H (acc : Array Value) (c : Nat) (vs : List V), L2.Inv X pins σ H s' → Xt m H0 m H → RH p m h H → FpOk X pins H Sa → s'.heap.get? Sa = some { cls := .type "list", dict := none, data := .seq acc c, slots := #[] } → Vals vs acc.toList → RVs p m H (xs ++ ys) vs → R (.ok (.ret res)) s') →
      codeAny (model X.prog X.w) A (.builtin "list.extend.loop" ⟨[.ref Sa, .ref z, res], []⟩) R s := by
  have ns : ∀ {q : Addr}, q ∈ [z, TI, TO, i1, i2] → Sa ≠ q := fun hq e => hs (by rw [e]; exact hq)
  intro f
  induction f with
  | zero =>
    intro i s1 s2 xs ys s _ e
    cases e
  | succ f ih =>
    intro i s1 s2 xs ys s L e hl hR
    obtain ⟨⟨H, acc, c, vs, I, xt, rh, fp, hS, hv, rv, c1, c2⟩, hTI, ⟨oTO, hTOb⟩, zs, at1, at2⟩ := L
    refine codeAny_builtin F.entry_extend_loop ?_
    rw [Around.under_plainId F.plain_extend_loop _]
    show wpAny _ A.in1 (pyNext (.ref z) >>= _) _ _ s
    unfold all? at e
    -- what the sources say
    have srcs : ∀ {vs1 ws1 : List V}, SqB t p.K H a vs1 → SqB u p.K H b ws1 → ∃ us us2 : List Value, Vals vs1 us ∧ Vals ws1 us2 ∧ InB t s.heap a us.toArray ∧ InB u s.heap b us2.toArray := fun {vs1 ws1} q1 q2 => by
      obtain ⟨us, r1, b1⟩ := SqB.run I (by rw [hK]; exact q1)
      obtain ⟨us2, r2, b2⟩ := SqB.run I (by rw [hK]; exact q2)
      exact ⟨us, us2, r1, r2, b1, b2⟩
    have hchain : ∀ q ∈ [z, TI, TO, i1, i2], FpOk X pins H q := fun q hq => fp q (List.mem_cons_of_mem _ hq)
    cases en : nxt (.zi s1 s2) h with
    | fail =>
      rw [en] at e
      cases e
    | stop =>
      rw [en] at e
      cases e
      obtain ⟨v1, w1, q1, q2, l1, l2, le⟩ := sim_zi.stop i (.zi s1 s2) m h H ⟨s1, s2, rfl, c1, c2⟩ rh en
      obtain ⟨us, us2, r1, r2, b1, b2⟩ := srcs q1 q2
      have n1 : us.toArray.size = v1.length := by rw [List.size_toArray, ← r1.length]
      have n2 : us2.toArray.size = w1.length := by rw [List.size_toArray, ← r2.length]
      have D1 := drB (prog := X.prog) (w := X.w) (A := A.in1.in1) hh t i1 a ha us.toArray
      have D2 := drB (prog := X.prog) (w := X.w) (A := A.in1.in1) hh u i2 b hb us2.toArray
      have fin : ∀ h' tk, (∀ d o, d ∉ [z, TI, TO, i1, i2] → s.heap.get? d = some o → h'.get? d = some o) → R (.ok (.ret res)) { s with heap := h', toks := tk } := fun h' tk k => by
        have I' : L2.Inv X pins σ H { s with heap := h', toks := tk } := I.turnedL (t' := tk) (ch := [z, TI, TO, i1, i2]) k hchain
        refine hR _ H acc c vs I' xt rh (fp Sa (List.mem_cons_self ..)) (k _ _ hs hS) hv ?_
        rw [List.append_nil]
        exact rv
      rcases zs with ⟨hz, q, r, hTO⟩ | ⟨T, fl, oT, hz, hT, _⟩
      · refine wpAny_bind (wpAny_pyNext_zipD2_end (i := i) S D1 D2 hz hTI hTO ⟨at1, b1⟩ ⟨at2, b2⟩ (by rw [n1]; exact l1) (by rw [n2]; exact l2) (by rw [n1, n2]; exact le) fun h' tk k => wpAny_pure (fin h' tk fun d o hd q => k d o (fun z' => hd (by simp [z'])) (fun z' => hd (by simp [z'])) (fun z' => hd (by simp [z'])) (fun z' => hd (by simp [z'])) q))
      · refine wpAny_bind (zh_nextEnd (i := i) S D1 D2 hz hT hTI ⟨at1, b1⟩ ⟨at2, b2⟩ (by rw [n1]; exact l1) (by rw [n2]; exact l2) (by rw [n1, n2]; exact le) fun h' tk k => wpAny_pure (fin h' tk fun d o hd q => k d o (fun z' => hd (by simp [z'])) (fun z' => hd (by simp [z'])) (fun z' => hd (by simp [z'])) q))
    | yld v k' =>
      rw [en] at e
      dsimp only at e
      obtain ⟨⟨v1, w1, x, y, q1, q2, hx, hy⟩, yl⟩ := sim_zi.yld i (.zi s1 s2) m h H v k' ⟨s1, s2, rfl, c1, c2⟩ rh en
      obtain ⟨us, us2, r1, r2, b1, b2⟩ := srcs q1 q2
      obtain ⟨u0, hu0, ru0⟩ := r1.get hx
      obtain ⟨w0, hw0, rw0⟩ := r2.get hy
      have lt1 : i < us.toArray.size := by
        rw [List.size_toArray]
        exact (List.getElem?_eq_some_iff.mp hu0).1
      have lt2 : i < us2.toArray.size := by
        rw [List.size_toArray]
        exact (List.getElem?_eq_some_iff.mp hw0).1
      have D1 := drB (prog := X.prog) (w := X.w) (A := A.in1.in1) hh t i1 a ha us.toArray
      have D2 := drB (prog := X.prog) (w := X.w) (A := A.in1.in1) hh u i2 b hb us2.toArray
      cases ea : all? f k' h with
      | none =>
        rw [ea] at e
        cases e
      | some zs2 =>
        rw [ea] at e
        cases e
        have szS : Sa < s.heap.objs.size := Heap.lt_size hS
        have acl : acc.size = xs.length := by
          have z1 : vs.length = acc.toList.length := hv.length
          have z2 : acc.toList.length = acc.size := Array.length_toList
          have z3 := rv.length
          omega
        -- one more
        have step : ∀ (ua ub : Value) (h' : Heap) (tk : Nat), us.toArray[i]? = some ua → us2.toArray[i]? = some ub → IsTupOf2 h' s.heap.objs.size ua ub → h'.objs.size = s.heap.objs.size + 1 → AtB t h' i1 a (i + 1) → AtB u h' i2 b (i + 1) → (∃ o, h'.get? TO = some o) →
            (∀ d o, d ∉ [z, TO, i1, i2] → s.heap.get? d = some o → h'.get? d = some o) → (∃ T f oT, IsZipHeld h' z TI TO T f ∧ h'.get? T = some oT ∧ T ≠ z ∧ T ≠ i1 ∧ T ≠ i2 ∧ T ≠ Sa) →
            wpAny (model X.prog X.w) A.in1 (updateSeq Sa (·.push (.ref s.heap.objs.size)) >>= fun _ => (again (.builtin "list.extend.loop" ⟨[.ref Sa, .ref z, res], []⟩) : Sem Fin)) (fun fin s' => match fin with | .done f => R (.ok f) s' | .again c' => c'.quiet = true ∧ codeAny (model X.prog X.w) A c' R s') (fun e s' => R (.error e) s') { s with heap := h', toks := tk } := by
          intro ua ub h' tk hua hub hTup hsz a1 a2 hto k zh
          have e1 : ua = u0 := by
            rw [List.getElem?_toArray, hu0] at hua
            exact (Option.some.inj hua).symm
          have e2 : ub = w0 := by
            rw [List.getElem?_toArray, hw0] at hub
            exact (Option.some.inj hub).symm
          subst e1 e2
          have new : ObjOk X.prog X.w (upd H s.heap.objs.size (.tup [x, y])) h' s.heap.objs.size (.tup [x, y]) := ⟨by show 2 ≤ sizeLine; decide, [ua, ub], .cons ru0 (.cons rw0 .nil), ⟨_, hTup, rfl, _, rfl⟩⟩
          have I1 : L2.Inv X pins σ (upd H s.heap.objs.size (.tup [x, y])) { s with heap := h', toks := tk } :=
            I.turnedNew (t' := tk) (ch := [z, TI, TO, i1, i2]) (fun d o hd q => k d o (fun z' => hd (by
              rcases List.mem_cons.mp z' with z' | z'
              · simp [z']
              · rcases List.mem_cons.mp z' with z' | z'
                · simp [z']
                · rcases List.mem_cons.mp z' with z' | z'
                  · simp [z']
                  · simp at z'
                    simp [z'])) q) hchain (Nat.le_refl _) new
          obtain ⟨xt2, rh2, rvT, s1', s2', ek, c1', c2'⟩ := yl (.ref s.heap.objs.size) _ ⟨s.heap.objs.size, x, y, rfl, I.hok.fresh (Nat.le_refl _), rfl, fun ys' hy' => by
              have e9 : ys' = v1 := SqB.inj I (t := t) (a := a) (by rw [hK]; exact hy') (by rw [hK]; exact q1)
              rw [e9]; exact hx, fun ys' hy' => by
              have e9 : ys' = w1 := SqB.inj I (t := u) (a := b) (by rw [hK]; exact hy') (by rw [hK]; exact q2)
              rw [e9]; exact hy⟩
          subst ek
          have hS' : h'.get? Sa = some { cls := .type "list", dict := none, data := .seq acc c, slots := #[] } := k _ _ (fun z' => hs (by
              rcases List.mem_cons.mp z' with z' | z'
              · simp [z']
              · rcases List.mem_cons.mp z' with z' | z'
                · simp [z']
                · rcases List.mem_cons.mp z' with z' | z'
                  · simp [z']
                  · simp at z'
                    simp [z'])) hS
          have fp1 : ∀ q ∈ [Sa, z, TI, TO, i1, i2], FpOk X pins (upd H s.heap.objs.size (.tup [x, y])) q := fun q hq => by
            have fq := fp q hq
            refine ⟨?_, fq.2⟩
            have : q ≠ s.heap.objs.size := by
              have lt : q < s.heap.objs.size := by
                have hq' : q = Sa ∨ q = z ∨ q = TI ∨ q = TO ∨ q = i1 ∨ q = i2 := by simpa using hq
                have zlt : z < s.heap.objs.size := by
                  rcases zs with ⟨hz, _⟩ | ⟨_, _, _, hz, _⟩
                  · exact Heap.lt_size hz
                  · exact Heap.lt_size hz
                rcases hq' with e | e | e | e | e | e
                · rw [e]; exact szS
                · rw [e]; exact zlt
                · rw [e]; exact Heap.lt_size hTI
                · rw [e]; exact Heap.lt_size hTOb
                · rw [e]; obtain ⟨_, e1, _⟩ := at1.obj; exact Heap.lt_size e1
                · rw [e]; obtain ⟨_, e1, _⟩ := at2.obj; exact Heap.lt_size e1
              exact Nat.ne_of_lt lt
            rw [upd_ne this]
            exact fq.1
          have hxl : xs.length + 1 ≤ (xs ++ v :: zs2).length := by
            rw [List.length_append, List.length_cons]
            omega
          refine wpAny_bind ?_
          refine wpAny_updateSeq hS' rfl (wpAny_pure ⟨plainId_quiet F.plain_extend_loop _, ?_⟩) (by rw [acl]; omega) (by show (acc.push _).size ≤ sizeLine + 1; rw [Array.size_push, acl]; omega)
          have keep3 : ∀ d o, d ≠ Sa → h'.get? d = some o → (h'.update Sa (Obj.mapSeq (·.push (.ref s.heap.objs.size)))).get? d = some o := fun d o hd e => (Heap.get?_update_other _ _ (Ne.symm hd)).trans e
          have I2 : L2.Inv X pins σ (upd H s.heap.objs.size (.tup [x, y])) { s with heap := h'.update Sa (Obj.mapSeq (·.push (.ref s.heap.objs.size))), toks := tk } := by
            obtain ⟨g0, g1, g2, g3, g4, g5⟩ := fp1 Sa (List.mem_cons_self ..)
            exact I1.turned (t' := tk) keep3 g0 g1 g3 g4 g5
          refine ih (i + 1) s1' s2' (xs ++ [v]) zs2 _ ⟨⟨upd H s.heap.objs.size (.tup [x, y]), acc.push (.ref s.heap.objs.size), _, vs ++ [.ref s.heap.objs.size], I2, xt.trans xt2, rh2, fp1, Heap.get?_update_self _ hS' rfl, ?_, RVs.app (rv.mono xt2) (.cons rvT .nil), c1', c2'⟩, ?_, ?_, ?_, ?_, ?_⟩ ea (by rw [List.append_assoc]; exact hl) fun s' H2 acc2 c2 vs2 j1 j2 j3 j4 j5 j6 j7 => hR s' H2 acc2 c2 vs2 j1 j2 j3 j4 j5 j6 (by rw [List.append_assoc] at j7; exact j7)
          · rw [Array.toList_push]
            exact hv.append (.cons rfl .nil)
          · exact keep3 _ _ (Ne.symm (ns (by simp))) (k _ _ (by simp [S.TIz, S.TITO, S.TIi1, S.TIi2]) hTI)
          · obtain ⟨o, ho⟩ := hto
            exact ⟨o, keep3 _ _ (Ne.symm (ns (by simp))) ho⟩
          · obtain ⟨T, f, oT, z1, z2, z3, z4, z5, z6⟩ := zh
            exact .inr ⟨T, f, oT, keep3 _ _ (Ne.symm (ns (by simp))) z1, keep3 _ _ z6 z2, z3, z4, z5, z6⟩
          · exact a1.at' fun o q => keep3 _ _ (Ne.symm (ns (by simp))) q
          · exact a2.at' fun o q => keep3 _ _ (Ne.symm (ns (by simp))) q
        have i1lt : i1 < s.heap.objs.size := by obtain ⟨_, e1, _⟩ := at1.obj; exact Heap.lt_size e1
        have i2lt : i2 < s.heap.objs.size := by obtain ⟨_, e1, _⟩ := at2.obj; exact Heap.lt_size e1
        rcases zs with ⟨hz, q, r, hTO⟩ | ⟨T, fl, oT, hz, hT, t1, t2, t3, t4⟩
        · refine wpAny_bind (wpAny_pyNext_zipD2_item (i := i) S D1 D2 hz hTI hTO ⟨at1, b1⟩ ⟨at2, b2⟩ lt1 lt2 fun ua ub h' tk hua hub z' TO' g1 g2 hTup hsz hk => ?_)
          exact step ua ub h' tk hua hub hTup hsz g1.1 g2.1 ⟨_, TO'⟩ (fun d o hd q => hk d o (fun y => hd (by simp [y])) (fun y => hd (by simp [y])) (fun y => hd (by simp [y])) (fun y => hd (by simp [y])) q)
            ⟨s.heap.objs.size, false, _, z', hTup, Nat.ne_of_gt (Heap.lt_size hz), Nat.ne_of_gt i1lt, Nat.ne_of_gt i2lt, Nat.ne_of_gt szS⟩
        · refine wpAny_bind (zh_nextItem (i := i) S D1 D2 hz hT hTI ⟨at1, b1⟩ ⟨at2, b2⟩ lt1 lt2 fun ua ub h' tk hua hub z' g1 g2 hTup hsz hk => ?_)
          exact step ua ub h' tk hua hub hTup hsz g1.1 g2.1 ⟨_, hk _ _ S.TOz S.Ti1 S.Ti2 hTOb⟩ (fun d o hd q => hk d o (fun y => hd (by simp [y])) (fun y => hd (by simp [y])) (fun y => hd (by simp [y])) q)
            ⟨T, true, oT, z', hk _ _ t1 t2 t3 hT, t1, t2, t3, t4⟩
end
end
end Rk
namespace Rk
noncomputable section
open PySem PySem.Spec PyProof.Rows L2
theorem call_lz {P : Program} {w : World} {A : Around} {E : Value → Shared → Prop} {s : Shared} {z TI TO : Addr} {Q : Value → Shared → Prop} (hz : IsZip s.heap z TI TO .none)
    (hf : ∀ h' : Heap, (∀ b o, s.heap.get? b = some o → h'.get? b = some o) → (∃ c, h'.get? s.heap.objs.size = some { cls := .type "list", dict := none, data := .seq #[] c, slots := #[] }) →
      codeAny (model P w) A.in1 (.builtin "list.extend.loop" ⟨[.ref s.heap.objs.size, .ref z, .none], []⟩) (fun r s' => r = .ok (.ret .none) ∧ Q (.ref s.heap.objs.size) s') { s with heap := h' }) :
    wpAny (model P w) A (call (.type "list") [.ref z]) Q E s := by
  have zl : z < s.heap.objs.size := Heap.lt_size hz
  have hSa : s.heap.objs.size ≠ z := Nat.ne_of_gt zl
  refine callType_codes (Q₁ := fun obj s₁ => obj = .ref s.heap.objs.size ∧ s₁ = { s with heap := s.heap.push { cls := .type "list", data := .seq #[] } }) F.called_list (F.typeCall_list_1 _) F.entry_list_init
    (code_list_new _ ⟨rfl, rfl⟩) fun obj s₁ h₁ => ?_
  obtain ⟨rfl, rfl⟩ := h₁
  have hS : (s.heap.push { cls := .type "list", data := .seq #[] }).get? s.heap.objs.size = some { cls := .type "list", data := .seq #[] } := Heap.get?_push_size _ rfl
  refine ⟨⟨_, hS, rfl⟩, F.args_list_init_2 _ _, ?_⟩
  show wpAny _ A.in1.in1 (do let old ← Builtin.List.listItems (.ref s.heap.objs.size); Builtin.List.listUpdate (.ref s.heap.objs.size) (fun _ => #[]); letGo old.toList.reverse; Builtin.List.listExtendWith (.ref s.heap.objs.size) (.ref z) .none) _ _ _
  refine wpAny_bind ?_
  unfold Builtin.List.listItems
  refine wpAny_bind (wpAny_seqItems hS rfl (wpAny_pure ?_))
  show wpAny _ A.in1.in1 (updateSeq s.heap.objs.size (fun _ => #[]) >>= fun _ => letGo (#[] : Array Value).toList.reverse >>= fun _ => Builtin.List.listExtendWith (.ref s.heap.objs.size) (.ref z) .none) _ _ _
  refine wpAny_bind (wpAny_updateSeq hS rfl ?_)
  have hS2 := Heap.get?_update_self (Obj.mapSeq (fun _ => (#[] : Array Value))) hS rfl
  refine wpAny_bind (wpAny_letGo ?_)
  unfold Builtin.List.listExtendWith
  have up : ∀ (g : Heap) (f : Obj → Obj), (∀ b o, s.heap.get? b = some o → g.get? b = some o) → ∀ b o, s.heap.get? b = some o → (g.update s.heap.objs.size f).get? b = some o := fun g f q b o e =>
    (Heap.get?_update_other _ _ (Ne.symm (Nat.ne_of_lt (Heap.lt_size e)))).trans (q b o e)
  have k1 : ∀ b o, s.heap.get? b = some o → (s.heap.push { cls := .type "list", data := .seq #[] }).get? b = some o := fun b o e => Heap.get?_push_of_some _ e
  have k2 := up _ (Obj.mapSeq (fun _ => (#[] : Array Value))) k1
  have zt : ∀ {g : Heap}, (∀ b o, s.heap.get? b = some o → g.get? b = some o) → Shared.TypeIs { s with heap := g } (.ref z) "zip" := fun {g} q => ⟨_, q _ _ hz, rfl⟩
  refine wpAny_bind (wpAny_typeOf (zt k2) ?_)
  have h1 : Builtin.List.listSameRef (.ref s.heap.objs.size) (.ref z) = false := by simp [Builtin.List.listSameRef, hSa]
  have h2 : (Value.type "zip" == Value.type "list") = false := by decide
  have h3 : (Value.type "zip" == Value.type "tuple") = false := by decide
  simp only [h1, h2, h3, Bool.or_false, Bool.false_eq_true, if_false]
  refine wpAny_bind (wpAny_pyIter_zip (k2 _ _ hz) ?_)
  refine wpAny_bind (wpAny_holding ?_)
  unfold Builtin.List.listLengthHint
  refine wpAny_bind (wpAny_specialOf (zt k2) zip_no_len ?_)
  show wpAny _ A.in1.in1 (specialOf (Value.ref z) (Str.ofString "__length_hint__") >>= _) _ _ _
  refine wpAny_bind (wpAny_specialOf (zt k2) zip_no_hint ?_)
  refine wpAny_pure ?_
  show wpAny _ A.in1.in1 (rule "list.extend.makes-room" >>= fun _ => Builtin.List.listTouch (.ref s.heap.objs.size) >>= fun _ =>
    again (.builtin "list.extend.loop" ⟨[.ref s.heap.objs.size, .ref z, .none], []⟩)) _ _ _
  refine wpAny_bind (wpAny_rule ?_)
  refine wpAny_bind ?_
  show wpAny _ A.in1.in1 (updateSeq s.heap.objs.size (·.push .none) >>= fun _ => updateSeq s.heap.objs.size (·.pop)) _ _ _
  refine wpAny_bind (wpAny_updateSeq hS2 rfl ?_)
  have hS3 := Heap.get?_update_self (Obj.mapSeq (·.push Value.none)) hS2 rfl
  refine wpAny_updateSeq (hz := by seq_fits) hS3 rfl ?_
  have hS4 := Heap.get?_update_self (Obj.mapSeq (·.pop)) hS3 rfl
  have k4 := up _ (Obj.mapSeq (·.pop)) (up _ (Obj.mapSeq (·.push Value.none)) k2)
  exact wpAny_pure ⟨plainId_quiet F.plain_extend_loop _, codeAny_mono (hf _ k4 ⟨_, hS4⟩) fun r s2 hq => by
    obtain ⟨e, q⟩ := hq
    subst e
    exact ⟨rfl, q⟩⟩
section
variable {g : Gd} {T : Tab} {p : Pd} {cf : Nat → List IV → Hh → R IV} {W : Wx} {c : Cc} {X : Cx}
theorem n_lit (C : CxOk g T p cf W c X) (hc : c.calm = true) {e e2 : Expr} {M N : Rho → Hh → R IV} {q0 q pos pos2 : Pos} (hf : g.free.contains ("zip" : Str) = true) (hg : glB c.sc ("zip" : Str) = true) (hf0 : g.free.contains ("list" : Str) = true) (hg0 : glB c.sc ("list" : Str) = true)
    (hs : star e = false) (hs2 : star e2 = false) (he : PE X e (rdE p W M)) (he2 : PE X e2 (rdE p W N)) :
    PE X (.Call (.Name "list" q0) [.Call (.Name "zip" q) [e, e2] [] pos2] [] pos) (rdE p W fun r h => ((M r h).bd fun x h => (N r h).bd fun y h => ziI x y h).bd litK) := by
  refine ⟨fun pins s σ H Q I z => ?_⟩
  have z' : rdE p W (fun r h => (M r h).bd fun x h => (N r h).bd fun y h => (ziI x y h).bd litK) σ H Q := by
    obtain ⟨m, r, h, sl, t, o⟩ := z
    refine ⟨m, r, h, sl, t, ?_⟩
    dsimp only at o ⊢
    rw [bd_bd] at o
    have e1 : (fun x h => ((N r h).bd fun y h => ziI x y h).bd litK) = fun x h => (N r h).bd fun y h => (ziI x y h).bd litK := by
      funext x h
      rw [bd_bd]
    rw [e1] at o
    exact o
  obtain ⟨m, r, h, sl, t, o⟩ := rdG.bd (rel := RV p) (M := M) (k := fun r x h => (N r h).bd fun y h => (ziI x y h).bd litK) z'
  refine Call_ (ld_blt I (gl_ok C hg0) (C.free _ hf0) boot_list (PyProof.Rows.callWith_type1 (args_cons (Call_ (ld_blt I (gl_ok C hg) (C.free _ hf) PyProof.Rows.boot_zip (PyProof.Rows.callWith_type1 (thn ((pa_cons he (pa_cons he2 pa_nil (by cases e2 <;> first | rfl | cases hs2)) (by cases e <;> first | rfl | cases hs)).run pos2 pins s σ H (fun vs H1 => ∃ x y, vs = [x, y] ∧ ∃ m1 h1 a b, RH p m1 h1 H1 ∧ RV p m1 H1 a x ∧ RV p m1 H1 b y ∧ Ok (RV p) p m1 H1 (fun c d H => W c d σ H) ((ziI a b h1).bd litK) Q) I
    ⟨m, r, h, sl, t, o.mono fun v H1 w => ?_⟩) fun us s1 w => ?_) (by rw [star_cons hs]) (by rw [star_cons hs2]; rfl)))) rfl) rfl))
  · obtain ⟨m1, r1, h1, a, sl1, rh, rv, ok⟩ := w
    refine ⟨m1, r1, h1, sl1, rh, ok.bd.mono fun v2 H2 w2 => ?_⟩
    obtain ⟨m2, h2, b, x2, rh2, rv2, ok2⟩ := w2
    exact ⟨v, v2, rfl, m2, h2, a, b, rh2, rv.mono x2, rv2, ok2⟩
  · obtain ⟨vs, H1, I1, r1, x, y, ex, m1, h1, a, b, rh, rv, rv2, ok⟩ := w
    subst ex
    cases r1 with
    | cons rl rr =>
      cases rr with
      | cons rl2 rr =>
        cases rr
        unfold ziI at ok
        cases e1 : scOf a h1 with
        | none =>
          rw [e1] at ok
          exact ok.elim
        | some sc =>
          rw [e1] at ok
          dsimp only at ok
          cases e2 : scOf b h1 with
          | none =>
            rw [e2] at ok
            exact ok.elim
          | some sc2 =>
            rw [e2] at ok
            have ok : Ok (RV p) p m1 H1 (fun c d H => W c d σ H) (litK (.zi sc sc2) h1) Q := ok
            unfold litK at ok
            cases ea : all? turns (.zi sc sc2) h1 with
            | none =>
              rw [ea] at ok
              exact ok.elim
            | some xs =>
              rw [ea] at ok
              dsimp only at ok
              cases el : Nat.blt xs.length fewL with
              | false =>
                rw [el] at ok
                exact ok.elim
              | true =>
                rw [el] at ok
                dsimp only at ok
                have xl : xs.length < sizeLine := by
                  have : Nat.ble (xs.length + 1) fewL = true := el
                  rw [Nat.ble_eq] at this
                  exact Nat.lt_of_lt_of_le this (by decide)
                obtain ⟨tt, ad, ys, ev, sq, src⟩ := seq_of rh rv e1
                obtain ⟨tu, bd, ws, ev2, sq2, src2⟩ := seq_of rh rv2 e2
                subst ev ev2
                cases rl
                cases rl2
                obtain ⟨us, rvv, ib⟩ := SqB.run I1 (show SqB tt X.K H1 ad ys by rw [C.K]; exact sq)
                obtain ⟨us2, rvv2, ib2⟩ := SqB.run I1 (show SqB tu X.K H1 bd ws by rw [C.K]; exact sq2)
                have al := SqB.lt ib
                have bl := SqB.lt ib2
                refine zip_begins2 (bgB tt ad us.toArray) (bgB tu bd us2.toArray) ib ib2 fun h' hz hTI hTO h1' h2' hsz hk => args_nil ?_
                have I2 : L2.Inv X pins σ H1 { s1 with heap := h' } := I1.kept (t' := s1.toks) hk
                refine call_lz (s := { s1 with heap := h' }) hz fun hp k hS => ?_
                obtain ⟨c0, hS⟩ := hS
                have I3 : L2.Inv X pins σ H1 { s1 with heap := hp } := I2.kept (t' := s1.toks) k
                have hzs : (Shared.heap { s1 with heap := h' }).objs.size = s1.heap.objs.size + 5 := hsz
                have fpz : ∀ d, s1.heap.objs.size ≤ d → FpOk X pins H1 d := fun d hd => I1.fpOk hd (I1.hok.fresh hd)
                rw [hzs] at hS ⊢
                refine fill (p := p) (h := h1) (m := m1) (H0 := H1) (A := X.A.in1) (I1.ok.hd (C.calm hc)) C.K (zip_sep2 (fp1 := [ad]) (fp2 := [bd]) (fun d hd => ?_) (fun d hd => ?_)) (Nat.ne_of_lt al) (Nat.ne_of_lt (Nat.lt_succ_of_lt bl)) ?_ turns 0 sc sc2 [] xs _
                  ⟨⟨H1, #[], c0, [], I3, Xt.refl, rh, fun d hd => ?_, hS, .nil, .nil, src, src2⟩, k _ _ hTI, ⟨_, k _ _ hTO⟩, .inl ⟨k _ _ hz, _, _, k _ _ hTO⟩, (AtB.new h1').at' fun o e => k _ _ e, (AtB.new h2').at' fun o e => k _ _ e⟩ ea xl fun s' H2 acc c2 vs2 j1 j2 j3 j4 j5 j6 j7 => ⟨rfl, ?_⟩
                · have e' : d = ad := by simpa using hd
                  rw [e']; exact al
                · have e' : d = bd := by simpa using hd
                  rw [e']; exact bl
                · intro hm
                  have e' : s1.heap.objs.size + 5 = s1.heap.objs.size + 4 ∨ s1.heap.objs.size + 5 = s1.heap.objs.size + 2 ∨ s1.heap.objs.size + 5 = s1.heap.objs.size + 3 ∨ s1.heap.objs.size + 5 = s1.heap.objs.size ∨ s1.heap.objs.size + 5 = s1.heap.objs.size + 1 := by simpa using hm
                  omega
                · have e' : d = s1.heap.objs.size + 5 ∨ d = s1.heap.objs.size + 4 ∨ d = s1.heap.objs.size + 2 ∨ d = s1.heap.objs.size + 3 ∨ d = s1.heap.objs.size ∨ d = s1.heap.objs.size + 1 := by simpa using hd
                  refine fpz d ?_
                  rcases e' with e' | e' | e' | e' | e' | e' <;> rw [e'] <;> first | exact Nat.le_add_right _ _ | exact Nat.le_refl _
                · have lv : vs2.length ≤ sizeLine := by
                    rw [← j7.length]
                    exact Nat.le_of_lt xl
                  have I4 := j1.take (t' := s'.toks) (h' := s'.heap) (it := s1.heap.objs.size + 5) (o := .lst vs2) (fun _ _ _ e => e) j4 ⟨lv, acc.toList, c2, j6, by rw [Array.toArray_toList]; exact j5⟩
                  exact ⟨.ref (s1.heap.objs.size + 5), _, I4, rfl, Ok.newL j3 j7 (Ok.ext ok j2) j4.1⟩
end
end
end Rk
namespace Rk
noncomputable section
open PySem PySem.Spec PyProof.Rows L2
theorem aB {a b : Bool} (h : (a && b) = true) : a = true ∧ b = true := by rwa [Bool.and_eq_true] at h
theorem nB {a : Bool} (h : (!a) = true) : a = false := by rwa [Bool.not_eq_true'] at h
section
variable {g : Gd} {T : Tab} {p : Pd} {cf : Nat → List IV → Hh → R IV}
mutual
theorem sTg : ∀ (t : Tg) (c : Cc) (e : Expr), mTg t c e = true → c.calm = true → ∀ (W : Wx) (X : Cx), CxOk g T p cf W c X → PG X e (gA p t)
  | .nm i, c, e, h, hc, W, X, C => by
    unfold mTg at h
    split at h
    · obtain ⟨h1, h2⟩ := aB h
      exact g_name C (optB_ok h1) h2
    · cases h
  | .tp ts, c, e, h, hc, W, X, C => by
    unfold mTg at h
    split at h
    · obtain ⟨h1, t1⟩ := aB h
      obtain ⟨h2, h3⟩ := aB t1
      exact g_tup C hc (sTgs ts c _ h3 hc h1 W X C) (of_decide_eq_true h2) h1
    · cases h
theorem sTgs : ∀ (ts : List Tg) (c : Cc) (l : List Expr), mTgs ts c l = true → c.calm = true → plainEs l = true → ∀ (W : Wx) (X : Cx), CxOk g T p cf W c X → PGs X l (gAs p ts)
  | [], c, l, h, hc, hp, W, X, C => by
    unfold mTgs at h
    cases l with
    | nil => exact g_nil
    | cons _ _ => cases h
  | t :: ts, c, l, h, hc, hp, W, X, C => by
    unfold mTgs at h
    cases l with
    | nil => cases h
    | cons e l =>
      obtain ⟨h1, h2⟩ := aB h
      unfold plainEs at hp
      obtain ⟨h3, h4⟩ := aB hp
      exact g_cons (nB h3) (sTg t c e h1 hc W X C) (sTgs ts c l h2 hc h4 W X C)
end
theorem n_bi {W : Wx} {c : Cc} {X : Cx} (C : CxOk g T p cf W c X) (hc : c.calm = true) (b : Bi) {e : Expr} {es : List Expr} {Ms : Rho → Hh → R (List IV)} {q pos : Pos} (hf : g.free.contains (bN b) = true) (hg : glB c.sc (bN b) = true)
    (ha : PA X (e :: es) (rdA p W Ms)) (hst : plainEs (e :: es) = true) (hb : biOk b = true) : PE X (.Call (.Name (bN b) q) (e :: es) [] pos) (rdE p W fun r h => (Ms r h).bd (bfn b)) := by
  have hk := C.K
  have hh := C.calm hc
  cases b with
  | len => exact n_blt C (c_len hk) (by decide +kernel) hf hg (by decide +kernel) ha hst
  | abs => exact n_blt C c_abs (by decide +kernel) hf hg (by decide +kernel) ha hst
  | int => exact n_bty C c_int (by decide +kernel) hf hg (by decide +kernel) ha hst
  | list => exact n_bty C (c_list hk hh) (by decide +kernel) hf hg (by decide +kernel) ha hst
  | tuple => exact n_bty C (c_tuple hk hh) (by decide +kernel) hf hg (by decide +kernel) ha hst
  | all => exact n_blt C (c_all hk hh) (by decide +kernel) hf hg (by decide +kernel) ha hst
  | any => exact n_blt C (c_any hk hh) (by decide +kernel) hf hg (by decide +kernel) ha hst
  | sum => exact n_blt C (c_sum hk hh) (by decide +kernel) hf hg (by decide +kernel) ha hst
  | min => exact n_blt C (c_min hk hh C.un) (by decide +kernel) hf hg (by decide +kernel) ha hst
  | max => exact n_blt C (c_max hk hh C.un) (by decide +kernel) hf hg (by decide +kernel) ha hst
  | sorted => exact n_blt C (c_sorted hk C.un) (by decide +kernel) hf hg (by decide +kernel) ha hst
  | rng1 => exact n_bty C c_rng1 (by decide +kernel) hf hg (by decide +kernel) ha hst
  | rng2 => exact n_bty C c_rng2 (by decide +kernel) hf hg (by decide +kernel) ha hst
theorem kwLen : ∀ {kws : List Keyword} {ks : List Str}, kwPlain kws ks = true → kws.length = ks.length
  | [], [], _ => rfl
  | [], _ :: _, h => by cases h
  | ⟨none, _, _⟩ :: _, _, h => by cases h
  | ⟨some n, _, _⟩ :: r, [], h => by cases h
  | ⟨some n, v, q⟩ :: r, x :: xs, h => by
    unfold kwPlain at h
    rw [Bool.and_eq_true] at h
    show r.length + 1 = xs.length + 1
    rw [kwLen h.2]
theorem plain2 {x y : Expr} (h : star x = false) (k : star y = false) : plainEs [x, y] = true := by
  unfold plainEs plainEs plainEs
  rw [h, k]
  rfl
theorem n_dnew {W : Wx} {X : Cx} {pos : Pos} : PE X (.Dict [] [] pos) (rdE p W fun _ h => newD false h) := by
  refine PE.wk pe_dnewK fun σ H Q z => ?_
  obtain ⟨m, r, h, s, t, ok⟩ := z
  intro q hq
  have ok : Ok (RV p) p m H _ (newD false h) Q := ok
  unfold newD at ok
  cases e : h.new (.dict ⟨false, false, []⟩) with
  | none =>
    rw [e] at ok
    exact ok.elim
  | some h' =>
    rw [e] at ok
    obtain ⟨m1, x1, t1, em⟩ := t.newO (u := .dK []) hq e fun m' x => ⟨[], upd_same, .nil⟩
    exact ok m1 _ _ x1 t1 (.ref em)
theorem two_bi {W : Wx} {b : Bi} {Ma Md : Rho → Hh → R IV} {σ : L2.St} {H : Hp} {Q : VK} (z : rdE p W (fun r h => (Ma r h).bd fun x h => (Md r h).bd fun y h => Rk.bi2 b x y h) σ H Q) :
    rdE p W (fun r h => ((Ma r h).bd fun x h => ((Md r h).bd fun x h => R.ok [x] h).bd fun xs h => R.ok (x :: xs) h).bd (bfn b)) σ H Q := by
  obtain ⟨m, r, h, s, t, o⟩ := z
  refine ⟨m, r, h, s, t, ?_⟩
  dsimp only at o ⊢
  cases e : Ma r h with
  | fail =>
    rw [e] at o
    exact o
  | exc _ _ =>
    rw [e] at o
    exact o
  | ok x h1 =>
    rw [e] at o
    have o : Ok (RV p) p m H _ ((Md r h1).bd fun y h => Rk.bi2 b x y h) Q := o
    show Ok (RV p) p m H _ ((((Md r h1).bd fun x h => R.ok [x] h).bd fun xs h => R.ok (x :: xs) h).bd (bfn b)) Q
    cases e2 : Md r h1 with
    | fail =>
      rw [e2] at o
      exact o
    | exc _ _ =>
      rw [e2] at o
      exact o
    | ok y h2 =>
      rw [e2] at o
      exact o
abbrev Both (p : Pd) (W : Wx) (X : Cx) (e : Expr) (M : Rho → Hh → R IV) : Prop := PE X e (rdE p W M) ∧ PT X e (rdT p W (bdT M))
theorem both {W : Wx} {c : Cc} {X : Cx} (C : CxOk g T p cf W c X) {e : Expr} {M : Rho → Hh → R IV} (hp : plainT e = true) (he : PE X e (rdE p W M)) : Both p W X e M := ⟨he, t_plain C hp he⟩
mutual
theorem sE : ∀ (a : E) (c : Cc) (e : Expr), mE g a c e = true → c.calm = true → ∀ (W : Wx) (X : Cx), CxOk g T p cf W c X → Both p W X e (ev T cf a)
  | .var i, c, e, h, hc, W, X, C => by
    unfold mE at h
    split at h
    · obtain ⟨h1, t1⟩ := aB h
      obtain ⟨h2, h3⟩ := aB t1
      exact both C rfl (n_var C (optB_ok h3) h2 h1)
    · cases h
  | .cst v, c, e, h, hc, W, X, C => by
    unfold mE at h
    split at h
    · rename_i k _ _
      unfold cstB at h
      cases v <;> dsimp only at h <;> first | (cases h; done) | skip
      · cases k <;> first | (cases h; done) | exact both C rfl n_non
      · cases k <;> first | (cases h; done) | (have z := of_decide_eq_true h; subst z; exact both C rfl n_bl)
      · cases k <;> first | (cases h; done) | (have z := of_decide_eq_true h; subst z; exact both C rfl n_int)
      · cases k <;> first | (cases h; done) | (have z := of_decide_eq_true h; subst z; exact both C rfl n_str)
    · cases h
  | .glo n, c, e, h, hc, W, X, C => by
    unfold mE at h
    split at h
    · obtain ⟨h1, t1⟩ := aB h
      obtain ⟨h2, h3⟩ := aB t1
      exact both C rfl (n_glo C (optB_ok h3) h2 h1)
    · cases h
  | .tup es, c, e, h, hc, W, X, C => by
    unfold mE at h
    split at h
    · obtain ⟨h1, h2⟩ := aB h
      obtain ⟨l1, l2⟩ := mEs_len h2
      refine both C rfl (n_tup (sEs es c _ h2 hc W X C) (by rwa [Nat.ble_eq] at h1) fun r h vs h' q => ?_)
      rw [l1]
      exact evs_len q
    · cases h
  | .lst es, c, e, h, hc, W, X, C => by
    unfold mE at h
    split at h
    · obtain ⟨h1, h2⟩ := aB h
      obtain ⟨l1, l2⟩ := mEs_len h2
      refine both C rfl (n_lst (sEs es c _ h2 hc W X C) (by rwa [Nat.ble_eq] at h1) fun r h vs h' q => ?_)
      rw [l1]
      exact evs_len q
    · cases h
  | .bin o a b, c, e, h, hc, W, X, C => by
    unfold mE at h
    split at h
    · obtain ⟨h1, t1⟩ := aB h
      obtain ⟨h2, h3⟩ := aB t1
      have z := of_decide_eq_true h1
      subst z
      exact both C rfl (n_bin C o (sE a c _ h2 hc W X C).1 (sE b c _ h3 hc W X C).1)
    · cases h
  | .neg a, c, e, h, hc, W, X, C => by
    unfold mE at h
    split at h
    · exact both C rfl (n_neg (sE a c _ h hc W X C).1)
    · cases h
  | .not a, c, e, h, hc, W, X, C => by
    unfold mE at h
    split at h
    · have z := sE a c _ h hc W X C
      exact ⟨n_not C z.1, t_not z.2⟩
    · cases h
  | .and a b, c, e, h, hc, W, X, C => by
    unfold mE at h
    split at h
    · rename_i x y r pos
      obtain ⟨h1, h2⟩ := aB h
      have za := sE a c _ h1 hc W X C
      cases r with
      | nil =>
        have zb := sE b c _ h2 hc W X C
        exact ⟨n_and C za.1 (n_one zb.1), (w_and za.2 (w_one zb.2)).pt⟩
      | cons z r =>
        have zb := sA b c _ h2 hc W X C pos
        exact ⟨n_and C za.1 zb.1, (w_and za.2 zb.2).pt⟩
    · cases h
  | .or a b, c, e, h, hc, W, X, C => by
    unfold mE at h
    split at h
    · rename_i x y r pos
      obtain ⟨h1, h2⟩ := aB h
      have za := sE a c _ h1 hc W X C
      cases r with
      | nil =>
        have zb := sE b c _ h2 hc W X C
        exact ⟨n_or C za.1 (n_one zb.1), (w_or za.2 (w_one zb.2)).pt⟩
      | cons z r =>
        have zb := sO b c _ h2 hc W X C pos
        exact ⟨n_or C za.1 zb.1, (w_or za.2 zb.2).pt⟩
    · cases h
  | .cmp o a b, c, e, h, hc, W, X, C => by
    unfold mE at h
    split at h
    · obtain ⟨h1, t1⟩ := aB h
      obtain ⟨h2, t2⟩ := aB t1
      obtain ⟨h3, h4⟩ := aB t2
      have z := of_decide_eq_true h1
      subst z
      exact ⟨n_cmp C o h2 (sE a c _ h3 hc W X C).1 (sE b c _ h4 hc W X C).1, t_cmp C o h2 (sE a c _ h3 hc W X C).1 (sE b c _ h4 hc W X C).1⟩
    · cases h
  | .chain o o2 a b d, c, e, h, hc, W, X, C => by
    unfold mE at h
    split at h
    · obtain ⟨h1, t1⟩ := aB h
      obtain ⟨h2, t2⟩ := aB t1
      obtain ⟨h3, t3⟩ := aB t2
      obtain ⟨h4, t4⟩ := aB t3
      obtain ⟨h5, h6⟩ := aB t4
      have z := of_decide_eq_true h1
      subst z
      have z := of_decide_eq_true h2
      subst z
      exact ⟨n_chain C o o2 (nB h3) (sE a c _ h4 hc W X C).1 (sE b c _ h5 hc W X C).1 (sE d c _ h6 hc W X C).1, t_chain C o o2 (nB h3) (sE a c _ h4 hc W X C).1 (sE b c _ h5 hc W X C).1 (sE d c _ h6 hc W X C).1⟩
    · cases h
  | .chain3 o o2 o3 a b d f, c, e, h, hc, W, X, C => by
    unfold mE at h
    split at h
    · obtain ⟨h1, t1⟩ := aB h
      obtain ⟨h2, t2⟩ := aB t1
      obtain ⟨h0, t0⟩ := aB t2
      obtain ⟨h3, t3⟩ := aB t0
      obtain ⟨h4, t4⟩ := aB t3
      obtain ⟨h5, t5⟩ := aB t4
      obtain ⟨h6, h7⟩ := aB t5
      have z := of_decide_eq_true h1
      subst z
      have z := of_decide_eq_true h2
      subst z
      have z := of_decide_eq_true h0
      subst z
      exact ⟨n_chain3 C o o2 o3 (nB h3) (sE a c _ h4 hc W X C).1 (sE b c _ h5 hc W X C).1 (sE d c _ h6 hc W X C).1 (sE f c _ h7 hc W X C).1, t_chain3 C o o2 o3 (nB h3) (sE a c _ h4 hc W X C).1 (sE b c _ h5 hc W X C).1 (sE d c _ h6 hc W X C).1 (sE f c _ h7 hc W X C).1⟩
    · cases h
  | .ite t a b, c, e, h, hc, W, X, C => by
    unfold mE at h
    split at h
    · obtain ⟨h1, t1⟩ := aB h
      obtain ⟨h2, h3⟩ := aB t1
      have zt := sE t c _ h1 hc W X C
      have za := sE a c _ h2 hc W X C
      have zb := sE b c _ h3 hc W X C
      exact ⟨n_ite C zt.2 za.1 zb.1, t_ite zt.2 za.2 zb.2⟩
    · cases h
  | .call f as, c, e, h, hc, W, X, C => by
    unfold mE at h
    split at h
    · rename_i x q l pos
      obtain ⟨h1, t1⟩ := aB h
      obtain ⟨h2, t2⟩ := aB t1
      obtain ⟨h3, t3⟩ := aB t2
      obtain ⟨h4, h5⟩ := aB t3
      obtain ⟨l1, l2⟩ := mEs_len h5
      have hl := of_decide_eq_true h4
      cases l with
      | nil =>
        cases as with
        | cons _ _ => cases l1
        | nil => exact both C rfl (n_call0 C hc (fns_ok h3) h2 h1 hl.symm)
      | cons y l =>
        refine both C rfl (n_call C hc (fns_ok h3) h2 h1 (sEs as c _ h5 hc W X C) l2 hl (fun r h vs h' q => ?_) rfl)
        rw [l1]
        exact evs_len q
    · cases h
  | .callk f as ks ws, c, e, h, hc, W, X, C => by
    unfold mE at h
    split at h
    · rename_i x q l kws pos
      obtain ⟨h1, t1⟩ := aB h
      obtain ⟨h2, t2⟩ := aB t1
      obtain ⟨h3, t3⟩ := aB t2
      obtain ⟨h4, t4⟩ := aB t3
      obtain ⟨h5, t5⟩ := aB t4
      obtain ⟨h6, h7⟩ := aB t5
      obtain ⟨l1, l2⟩ := mEs_len h6
      obtain ⟨l3, l4⟩ := mEs_len h7
      refine both C rfl (n_callk C hc (fns_ok h3) h2 h1 (sEs as c _ h6 hc W X C) l2 (fun r h vs h' q => ?_) (sK ws c _ h7 hc W X C) (fun r h vs h' q => ?_) h5 (of_decide_eq_true h4) fun e => ?_)
      · rw [l1]
        exact evs_len q
      · have k1 : kws.length = (ks.map fun k => (fnP (at? g.fns f)).getD k Str.empty).length := kwLen h5
        rw [List.length_map] at k1
        rw [evs_len q, ← l3]
        unfold kwVals
        rw [List.length_map, k1]
      · subst e
        cases as with
        | cons _ _ => cases l1
        | nil => rfl
    · cases h
  | .bi b as, c, e, h, hc, W, X, C => by
    unfold mE at h
    split at h
    · obtain ⟨hb, t1⟩ := aB h
      obtain ⟨h1, t2⟩ := aB t1
      obtain ⟨h2, t3⟩ := aB t2
      obtain ⟨h3, h4⟩ := aB t3
      obtain ⟨l1, l2⟩ := mEs_len h4
      have z := of_decide_eq_true h1
      subst z
      exact both C rfl (n_bi C hc b h2 h3 (sEs as c _ h4 hc W X C) l2 hb)
    · cases h
  | .bi2 b a d, c, e, h, hc, W, X, C => by
    unfold mE at h
    split at h
    · obtain ⟨hb, t1⟩ := aB h
      obtain ⟨h1, t2⟩ := aB t1
      obtain ⟨h2, t3⟩ := aB t2
      obtain ⟨h3, t4⟩ := aB t3
      obtain ⟨h4, t5⟩ := aB t4
      obtain ⟨h5, t6⟩ := aB t5
      obtain ⟨h6, h7⟩ := aB t6
      have z := of_decide_eq_true h1
      subst z
      have ya := (sE a c _ h6 hc W X C).1
      have yd := (sE d c _ h7 hc W X C).1
      exact both C rfl (PE.wk (n_bi C hc b h2 h3 (a_cons (nB h4) ya (a_cons (nB h5) yd a_nil)) (plain2 (nB h4) (nB h5)) hb) fun σ H Q z => two_bi z)
    · cases h
  | .idx a b, c, e, h, hc, W, X, C => by
    unfold mE at h
    split at h
    · obtain ⟨h1, t1⟩ := aB h
      obtain ⟨h2, h3⟩ := aB t1
      exact both C rfl (n_idx C h1 (sE a c _ h2 hc W X C).1 (sE b c _ h3 hc W X C).1)
    · cases h
  | .sl a lo hi, c, e, h, hc, W, X, C => by
    unfold mE at h
    split at h
    · obtain ⟨h1, t1⟩ := aB h
      obtain ⟨h2, h3⟩ := aB t1
      exact both C rfl (n_sl C (sE a c _ h1 hc W X C).1 (sP lo c _ h2 hc W X C) (sP hi c _ h3 hc W X C))
    · cases h
  | .slr a, c, e, h, hc, W, X, C => by
    unfold mE at h
    split at h
    · exact both C rfl (n_slr C.K (sE a c _ h hc W X C).1)
    · cases h
  | .bm m o [], c, e, h, hc, W, X, C => by
    unfold mE at h
    split at h
    · rename_i x n ap l cp
      obtain ⟨h1, t1⟩ := aB h
      obtain ⟨h2, t2⟩ := aB t1
      obtain ⟨h3, t3⟩ := aB t2
      obtain ⟨h4, h5⟩ := aB t3
      obtain ⟨l1, l2⟩ := mEs_len h5
      have zo := (sE o c _ h4 hc W X C).1
      cases l with
      | cons _ _ => cases l1
      | nil =>
        unfold bmB at h1
        cases m <;> (try dsimp only at h1) <;> first | (cases h1; done) | (exact Bool.noConfusion (show false = true from (aB h1).2)) | skip
        have z := of_decide_eq_true (aB h1).1
        subst z
        exact both C rfl (n_bmL0 (mm := .pop) (fun _ _ => rfl) PySem.F.slot_list_pop PySem.F.type_list_pop mt_pop v_pop h2 h3 zo)
    · cases h
  | .bm m o [a], c, e, h, hc, W, X, C => by
    unfold mE at h
    split at h
    · rename_i x n ap l cp
      obtain ⟨h1, t1⟩ := aB h
      obtain ⟨h2, t2⟩ := aB t1
      obtain ⟨h3, t3⟩ := aB t2
      obtain ⟨h4, h5⟩ := aB t3
      have zo := (sE o c _ h4 hc W X C).1
      have za := sEs [a] c _ h5 hc W X C
      cases l with
      | nil => cases h5
      | cons y l =>
        cases l with
        | cons z l =>
          obtain ⟨l1, l2⟩ := mEs_len h5
          cases l1
        | nil =>
          unfold mEs at h5
          obtain ⟨h6, t6⟩ := aB h5
          obtain ⟨h7, _⟩ := aB t6
          have ze := (sE a c _ h7 hc W X C).1
          unfold bmB at h1
          cases m <;> (try dsimp only at h1) <;> first | (cases h1; done) | (exact Bool.noConfusion (show false = true from (aB h1).2)) | skip
          · have z := of_decide_eq_true (aB h1).1
            subst z
            exact both C rfl (n_bmL (mm := .append) (fun _ _ => rfl) PySem.F.slot_list_append PySem.F.type_list_append mt_append v_append h2 h3 (nB h6) zo za)
          · have z := of_decide_eq_true (aB h1).1
            subst z
            exact both C rfl (n_bmL (mm := .extend) (fun _ _ => rfl) PySem.F.slot_list_extend PySem.F.type_list_extend mt_extend v_extend h2 h3 (nB h6) zo za)
          · have z := of_decide_eq_true (aB h1).1
            subst z
            exact both C rfl (n_bmL (mm := .count) (fun _ _ => rfl) PySem.F.slot_list_count PySem.F.type_list_count (mt_countD C.un) (v_count C.K) h2 h3 (nB h6) zo za)
          · have z := of_decide_eq_true (aB h1).1
            subst z
            exact both C rfl (n_bmL (mm := .index) (fun _ _ => rfl) PySem.F.slot_list_index PySem.F.type_list_index (mt_indexD C.un) (v_index C.K) h2 h3 (nB h6) zo za)
          · have z := of_decide_eq_true (aB h1).1
            subst z
            exact both C rfl (n_get1 C h2 h3 (nB h6) zo ze)
    · cases h
  | .bm m o [a, b], c, e, h, hc, W, X, C => by
    unfold mE at h
    split at h
    · rename_i x n ap l cp
      obtain ⟨h1, t1⟩ := aB h
      obtain ⟨h2, t2⟩ := aB t1
      obtain ⟨h3, t3⟩ := aB t2
      obtain ⟨h4, h5⟩ := aB t3
      have zo := (sE o c _ h4 hc W X C).1
      cases l with
      | nil => cases h5
      | cons y l =>
        cases l with
        | nil =>
          obtain ⟨l1, l2⟩ := mEs_len h5
          cases l1
        | cons z l =>
          cases l with
          | cons _ _ =>
            obtain ⟨l1, l2⟩ := mEs_len h5
            cases l1
          | nil =>
            unfold mEs at h5
            obtain ⟨h6, t6⟩ := aB h5
            obtain ⟨h7, t7⟩ := aB t6
            unfold mEs at t7
            obtain ⟨h8, t8⟩ := aB t7
            obtain ⟨h9, _⟩ := aB t8
            have ze := (sE a c _ h7 hc W X C).1
            have zf := (sE b c _ h9 hc W X C).1
            unfold bmB at h1
            cases m <;> (try dsimp only at h1) <;> first | (cases h1; done) | (exact Bool.noConfusion (show false = true from (aB h1).2)) | skip
            have z := of_decide_eq_true (aB h1).1
            subst z
            have e2 : evs T cf [a, b] = fun r h => (ev T cf a r h).bd fun x h => (ev T cf b r h).bd fun y h => R.ok [x, y] h := by
              funext r h
              show (ev T cf a r h).bd (fun x h => ((ev T cf b r h).bd fun y h => R.ok [y] h).bd fun xs h => R.ok (x :: xs) h) = _
              congr 1
              funext x h
              rw [bd_bd]
              rfl
            have e3 : ev T cf (.bm .get o [a, b]) = bmK .get (ev T cf o) (evs T cf [a, b]) := rfl
            rw [e3, e2]
            exact both C rfl (n_get2 C h2 h3 (nB h6) (nB h8) zo ze zf)
    · cases h
  | .bm m o (_ :: _ :: _ :: _), c, e, h, hc, W, X, C => by
    unfold mE at h
    split at h
    · rename_i x n ap l cp
      obtain ⟨h1, t1⟩ := aB h
      obtain ⟨h2, t2⟩ := aB t1
      obtain ⟨h3, t3⟩ := aB t2
      obtain ⟨h4, h5⟩ := aB t3
      obtain ⟨l1, l2⟩ := mEs_len h5
      exfalso
      cases l with
      | nil => cases l1
      | cons _ l =>
        cases l with
        | nil => cases l1
        | cons _ l =>
          cases l with
          | nil => cases l1
          | cons _ l =>
            unfold bmB at h1
            cases m <;> (try dsimp only at h1) <;> first | (cases h1; done) | (exact Bool.noConfusion (show false = true from (aB h1).2))
    · cases h
  | .lc own elt t it cs, c, e, h, hc, W, X, C => by
    unfold mE at h
    split at h
    · rename_i pos
      obtain ⟨h1, t1⟩ := aB h
      obtain ⟨h2, t2⟩ := aB t1
      obtain ⟨h3, t3⟩ := aB t2
      obtain ⟨h4, t4⟩ := aB t3
      obtain ⟨h5, t5⟩ := aB t4
      obtain ⟨h6, h7⟩ := aB t5
      have eo : (own.map fun i => ((at? c.N i).getD Str.empty, i)).map (·.2) = own := by
        rw [List.map_map]
        exact List.map_id' own
      have z := n_lc (T := T) (cf := cf) C hc (pos := pos) (t := t) (Mi := evi T cf it) (Mt := evt T cf cs) (Me := ev T cf elt) (own := own.map fun i => ((at? c.N i).getD Str.empty, i)) (sI it c _ _ h5 hc W X C) h1 (by rw [eo]; exact h2)
        (fun X' C' => ⟨sTg t _ _ h3 hc W0 X' C', sC cs _ _ h6 hc W0 X' C', (sE elt _ _ h7 hc W0 X' C').1⟩) (fold_ok h4)
      rw [eo] at z
      exact both C rfl z
    · cases h
  | .isi a ts, c, e, h, hc, W, X, C => by
    unfold mE at h
    split at h
    · split at h
      · obtain ⟨h1, t1⟩ := aB h
        obtain ⟨h2, t2⟩ := aB t1
        obtain ⟨h3, t3⟩ := aB t2
        obtain ⟨h4, t4⟩ := aB t3
        obtain ⟨h5, t5⟩ := aB t4
        obtain ⟨h6, t6⟩ := aB t5
        obtain ⟨h7, t7⟩ := aB t6
        obtain ⟨h8, h9⟩ := aB t7
        have z := of_decide_eq_true h1
        subst z
        have z := of_decide_eq_true h3
        subst z
        exact both C rfl (n_isi1 C h2 h4 h5 h6 h7 (nB h8) (sE a c _ h9 hc W X C).1)
      · cases h
    · split at h
      · obtain ⟨h1, t1⟩ := aB h
        obtain ⟨h2, t2⟩ := aB t1
        obtain ⟨h3, t3⟩ := aB t2
        obtain ⟨h4, t4⟩ := aB t3
        obtain ⟨h5, t5⟩ := aB t4
        obtain ⟨h6, t6⟩ := aB t5
        obtain ⟨h7, t7⟩ := aB t6
        obtain ⟨h8, t8⟩ := aB t7
        obtain ⟨h9, t9⟩ := aB t8
        obtain ⟨h10, t10⟩ := aB t9
        obtain ⟨h11, t11⟩ := aB t10
        obtain ⟨h12, h13⟩ := aB t11
        have z := of_decide_eq_true h1
        subst z
        have z := of_decide_eq_true h3
        subst z
        have z := of_decide_eq_true h7
        subst z
        exact both C rfl (n_isi2 C h2 h4 h5 h6 h8 h9 h10 h11 (nB h12) (sE a c _ h13 hc W X C).1)
      · cases h
    · cases h
  | .tupS _ _, c, e, h, hc, W, X, C => by
    unfold mE at h
    cases h
  | .bid b a d, c, e, h, hc, W, X, C => by
    unfold mE at h
    split at h
    · obtain ⟨hb, t1⟩ := aB h
      obtain ⟨h1, t2⟩ := aB t1
      obtain ⟨h2, t3⟩ := aB t2
      obtain ⟨h3, t4⟩ := aB t3
      obtain ⟨h4, t5⟩ := aB t4
      obtain ⟨h5, t6⟩ := aB t5
      obtain ⟨h6, h7⟩ := aB t6
      have z := of_decide_eq_true h1
      subst z
      have z := of_decide_eq_true h4
      subst z
      exact both C rfl (n_bid C hc hb h2 h3 (nB h5) (sE a c _ h6 hc W X C).1 (sE d c _ h7 hc W X C).1)
    · cases h
  | .min3 b a d f, c, e, h, hc, W, X, C => by
    unfold mE at h
    split at h
    · obtain ⟨hb, t1⟩ := aB h
      obtain ⟨h1, t2⟩ := aB t1
      obtain ⟨h2, t3⟩ := aB t2
      obtain ⟨h3, t4⟩ := aB t3
      obtain ⟨h4, t5⟩ := aB t4
      obtain ⟨h5, t6⟩ := aB t5
      obtain ⟨h6, t7⟩ := aB t6
      obtain ⟨h7, t8⟩ := aB t7
      obtain ⟨h8, h9⟩ := aB t8
      have z := of_decide_eq_true h1
      subst z
      exact both C rfl (n_min3 C hc hb h2 h3 (nB h4) (nB h5) (nB h6) (sE a c _ h7 hc W X C).1 (sE d c _ h8 hc W X C).1 (sE f c _ h9 hc W X C).1)
    · cases h
  | .mth m o as, c, e, h, hc, W, X, C => by
    unfold mE at h
    split at h
    · rename_i x n ap l cp
      obtain ⟨h1, t1⟩ := aB h
      obtain ⟨h2, t2⟩ := aB t1
      obtain ⟨h3, t3⟩ := aB t2
      obtain ⟨h4, t4⟩ := aB t3
      obtain ⟨h5, h6⟩ := aB t4
      obtain ⟨l1, l2⟩ := mEs_len h6
      have zo := (sE o c _ h5 hc W X C).1
      have za := sEs as c _ h6 hc W X C
      cases l with
      | nil =>
        cases as with
        | cons _ _ => cases l1
        | nil => exact both C rfl (n_mth0 C hc (optB_ok h1) h2 h3 zo)
      | cons y l => exact both C rfl (n_mth C hc (optB_ok h1) h2 h3 l2 h4 zo za)
    · cases h
  | .mk k as, c, e, h, hc, W, X, C => by
    unfold mE at h
    split at h
    · rename_i x q l pos
      obtain ⟨h1, t1⟩ := aB h
      obtain ⟨h2, t2⟩ := aB t1
      obtain ⟨h3, h4⟩ := aB t2
      obtain ⟨l1, l2⟩ := mEs_len h4
      have za := sEs as c _ h4 hc W X C
      cases ek : at? g.cls k with
      | none =>
        rw [ek] at h3
        cases h3
      | some G =>
        rw [ek] at h3
        have z : G.name = x := of_decide_eq_true h3
        subst z
        cases l with
        | nil =>
          cases as with
          | cons _ _ => cases l1
          | nil => exact both C rfl (n_mk0 C hc ek h2 h1)
        | cons y l => exact both C rfl (n_mk C hc ek h2 h1 za l2)
    · cases h
  | .att o f, c, e, h, hc, W, X, C => by
    unfold mE at h
    split at h
    · obtain ⟨h1, t1⟩ := aB h
      obtain ⟨h2, h3⟩ := aB t1
      exact both C rfl (n_att C h2 (optB_ok h1) (sE o c _ h3 hc W X C).1)
    · cases h
  | .fnv i, c, e, h, hc, W, X, C => by
    unfold mE at h
    split at h
    · obtain ⟨h1, t1⟩ := aB h
      obtain ⟨h2, h3⟩ := aB t1
      exact both C rfl (n_fnv C (fns_ok h3) h2 h1)
    · cases h
  | .callv f as, c, e, h, hc, W, X, C => by
    unfold mE at h
    split at h
    · obtain ⟨h1, t1⟩ := aB h
      obtain ⟨h2, h3⟩ := aB t1
      obtain ⟨l1, l2⟩ := mEs_len h3
      exact both C rfl (n_callv C hc h1 (sE f c _ h2 hc W X C).1 (sEs as c _ h3 hc W X C) l2)
    · cases h
  | .pack l a, c, e, h, hc, W, X, C => by
    unfold mE at h
    cases l with
    | true =>
      dsimp only at h
      split at h
      · exact both C rfl (n_packL (sPk a c _ h hc W X C))
      · cases h
    | false =>
      dsimp only at h
      split at h
      · exact both C rfl (n_packT (sPk a c _ h hc W X C))
      · cases h
  | .pn, c, e, h, hc, W, X, C => by
    unfold mE at h
    cases h
  | .pc .., c, e, h, hc, W, X, C => by
    unfold mE at h
    cases h
  | .lc2 own elt t it cs t2 it2 cs2, c, e, h, hc, W, X, C => by
    unfold mE at h
    split at h
    · rename_i pos
      obtain ⟨h1, t1⟩ := aB h
      obtain ⟨h2, s2⟩ := aB t1
      obtain ⟨h3, t3⟩ := aB s2
      obtain ⟨h4, t4⟩ := aB t3
      obtain ⟨h5, t5⟩ := aB t4
      obtain ⟨h6, t6⟩ := aB t5
      obtain ⟨h7, t7⟩ := aB t6
      obtain ⟨h8, t8⟩ := aB t7
      obtain ⟨h9, t9⟩ := aB t8
      obtain ⟨h10, t10⟩ := aB t9
      obtain ⟨h11, t11⟩ := aB t10
      obtain ⟨h12, h13⟩ := aB t11
      have eo : (own.map fun i => ((at? c.N i).getD Str.empty, i)).map (·.2) = own := by
        rw [List.map_map]
        exact List.map_id' own
      have hv : ∀ i ∈ nmsT t2, i ∈ own := fun i hi => by
        have := List.all_eq_true.mp h4 i hi
        simpa using this
      have z := n_lc2 (T := T) (cf := cf) C hc (pos := pos) (t := t) (t2 := t2) (Mi := evi T cf it) (Mt := evt T cf cs) (Mi2 := evi T cf it2) (Mt2 := evt T cf cs2) (Me := ev T cf elt) (own := own.map fun i => ((at? c.N i).getD Str.empty, i)) (sI it c _ _ h9 hc W X C) h1 (by rw [eo]; exact hv) (by rw [eo]; exact h2) h3
        (fun X' C' => ⟨sTg t _ _ h5 hc W0 X' C', sC cs _ _ h10 hc W0 X' C', sI it2 _ _ _ h11 hc W0 X' C', sTg t2 _ _ h6 hc W0 X' C', sC cs2 _ _ h12 hc W0 X' C', (sE elt _ _ h13 hc W0 X' C').1⟩) (fold_ok h7) (fold_ok h8)
      rw [eo] at z
      exact both C rfl z
    · cases h
  | .dc .., c, e, h, hc, W, X, C => by
    unfold mE at h
    cases h
  | .dnew t, c, e, h, hc, W, X, C => by
    unfold mE at h
    cases t with
    | true => cases h
    | false =>
      dsimp only at h
      split at h
      · exact both C rfl n_dnew
      · cases h
  | .lit (.zip a b), c, e, h, hc, W, X, C => by
    unfold mE at h
    split at h
    · obtain ⟨h1, t1⟩ := aB h
      obtain ⟨h2, t2⟩ := aB t1
      obtain ⟨h3, t3⟩ := aB t2
      obtain ⟨h4, t4⟩ := aB t3
      obtain ⟨h5, t5⟩ := aB t4
      obtain ⟨h6, t6⟩ := aB t5
      obtain ⟨h7, t7⟩ := aB t6
      obtain ⟨h8, t8⟩ := aB t7
      obtain ⟨h9, h10⟩ := aB t8
      have z := of_decide_eq_true h1
      subst z
      have z := of_decide_eq_true h2
      subst z
      exact both C rfl (n_lit C hc h3 h4 h5 h6 (nB h7) (nB h8) (sE a c _ h9 hc W X C).1 (sE b c _ h10 hc W X C).1)
    · cases h
  | .lit (.ex _), c, e, h, hc, W, X, C => by
    unfold mE at h
    cases h
  | .lit (.rng1 _), c, e, h, hc, W, X, C => by
    unfold mE at h
    cases h
  | .lit (.rng2 _ _), c, e, h, hc, W, X, C => by
    unfold mE at h
    cases h
  | .lit (.rng3 _ _), c, e, h, hc, W, X, C => by
    unfold mE at h
    cases h
  | .lit (.enum _), c, e, h, hc, W, X, C => by
    unfold mE at h
    cases h
  | .lit (.rev _), c, e, h, hc, W, X, C => by
    unfold mE at h
    cases h
  | .lit (.items _), c, e, h, hc, W, X, C => by
    unfold mE at h
    cases h
  | .lit (.values _), c, e, h, hc, W, X, C => by
    unfold mE at h
    cases h
  | .lit (.revR1 _), c, e, h, hc, W, X, C => by
    unfold mE at h
    cases h
  | .lit (.revR _ _), c, e, h, hc, W, X, C => by
    unfold mE at h
    cases h
  | .lit (.zip3 _ _ _), c, e, h, hc, W, X, C => by
    unfold mE at h
    cases h
theorem sEs : ∀ (as : List E) (c : Cc) (l : List Expr), mEs g as c l = true → c.calm = true → ∀ (W : Wx) (X : Cx), CxOk g T p cf W c X → PA X l (rdA p W (evs T cf as))
  | [], c, l, h, hc, W, X, C => by
    unfold mEs at h
    cases l with
    | nil => exact a_nil
    | cons _ _ => cases h
  | a :: as, c, l, h, hc, W, X, C => by
    unfold mEs at h
    cases l with
    | nil => cases h
    | cons e l =>
      obtain ⟨h1, t1⟩ := aB h
      obtain ⟨h2, h3⟩ := aB t1
      exact a_cons (nB h1) (sE a c e h2 hc W X C).1 (sEs as c l h3 hc W X C)
theorem sK : ∀ (as : List E) (c : Cc) (l : List Keyword), mEs g as c (kwVals l) = true → c.calm = true → ∀ (W : Wx) (X : Cx), CxOk g T p cf W c X → PK X l (rdA p W (evs T cf as))
  | [], c, l, h, hc, W, X, C => by
    unfold mEs at h
    cases l with
    | nil => exact k_nil
    | cons _ _ => cases h
  | a :: as, c, l, h, hc, W, X, C => by
    unfold mEs at h
    cases l with
    | nil => cases h
    | cons k l =>
      have h : (!star k.value && (mE g a c k.value && mEs g as c (kwVals l))) = true := h
      obtain ⟨h1, t1⟩ := aB h
      obtain ⟨h2, h3⟩ := aB t1
      obtain ⟨nm, v, q⟩ := k
      exact k_cons (sE a c v h2 hc W X C).1 (sK as c l h3 hc W X C)
theorem sA : ∀ (a : E) (c : Cc) (l : List Expr), mA g a c l = true → c.calm = true → ∀ (W : Wx) (X : Cx), CxOk g T p cf W c X → ∀ pos : Pos, PE X (.BoolOp .And l pos) (rdE p W (ev T cf a)) ∧ PW X (.BoolOp .And l pos) (rdT p W (bdT (ev T cf a)))
  | .and a b, c, l, h, hc, W, X, C, pos => by
    unfold mA at h
    split at h
    · rename_i x y r
      obtain ⟨h1, h2⟩ := aB h
      have za := sE a c _ h1 hc W X C
      cases r with
      | nil =>
        have zb := sE b c _ h2 hc W X C
        exact ⟨n_and C za.1 (n_one zb.1), w_and za.2 (w_one zb.2)⟩
      | cons z r =>
        have zb := sA b c _ h2 hc W X C pos
        exact ⟨n_and C za.1 zb.1, w_and za.2 zb.2⟩
    · cases h
  | .var _, c, l, h, hc, W, X, C, pos => by cases h
  | .cst _, c, l, h, hc, W, X, C, pos => by cases h
  | .glo _, c, l, h, hc, W, X, C, pos => by cases h
  | .tup _, c, l, h, hc, W, X, C, pos => by cases h
  | .lst _, c, l, h, hc, W, X, C, pos => by cases h
  | .tupS _ _, c, l, h, hc, W, X, C, pos => by cases h
  | .bin _ _ _, c, l, h, hc, W, X, C, pos => by cases h
  | .neg _, c, l, h, hc, W, X, C, pos => by cases h
  | .not _, c, l, h, hc, W, X, C, pos => by cases h
  | .or _ _, c, l, h, hc, W, X, C, pos => by cases h
  | .cmp _ _ _, c, l, h, hc, W, X, C, pos => by cases h
  | .chain _ _ _ _ _, c, l, h, hc, W, X, C, pos => by cases h
  | .ite _ _ _, c, l, h, hc, W, X, C, pos => by cases h
  | .call _ _, c, l, h, hc, W, X, C, pos => by cases h
  | .callk _ _ _ _, c, l, h, hc, W, X, C, pos => by cases h
  | .bi _ _, c, l, h, hc, W, X, C, pos => by cases h
  | .bid _ _ _, c, l, h, hc, W, X, C, pos => by cases h
  | .bi2 _ _ _, c, l, h, hc, W, X, C, pos => by cases h
  | .mth _ _ _, c, l, h, hc, W, X, C, pos => by cases h
  | .mk _ _, c, l, h, hc, W, X, C, pos => by cases h
  | .att _ _, c, l, h, hc, W, X, C, pos => by cases h
  | .idx _ _, c, l, h, hc, W, X, C, pos => by cases h
  | .sl _ _ _, c, l, h, hc, W, X, C, pos => by cases h
  | .slr _, c, l, h, hc, W, X, C, pos => by cases h
  | .bm _ _ _, c, l, h, hc, W, X, C, pos => by cases h
  | .lc _ _ _ _ _, c, l, h, hc, W, X, C, pos => by cases h
  | .lc2 _ _ _ _ _ _ _ _, c, l, h, hc, W, X, C, pos => by cases h
  | .dc _ _ _ _ _ _ _, c, l, h, hc, W, X, C, pos => by cases h
  | .dnew _, c, l, h, hc, W, X, C, pos => by cases h
  | .fnv _, c, l, h, hc, W, X, C, pos => by cases h
  | .callv _ _, c, l, h, hc, W, X, C, pos => by cases h
  | .pack _ _, c, l, h, hc, W, X, C, pos => by cases h
  | .pn, c, l, h, hc, W, X, C, pos => by cases h
  | .pc _ _ _, c, l, h, hc, W, X, C, pos => by cases h
  | .min3 _ _ _ _, c, l, h, hc, W, X, C, pos => by cases h
  | .chain3 _ _ _ _ _ _ _, c, l, h, hc, W, X, C, pos => by cases h
  | .isi _ _, c, l, h, hc, W, X, C, pos => by cases h
  | .lit _, c, l, h, hc, W, X, C, pos => by cases h
theorem sO : ∀ (a : E) (c : Cc) (l : List Expr), mO g a c l = true → c.calm = true → ∀ (W : Wx) (X : Cx), CxOk g T p cf W c X → ∀ pos : Pos, PE X (.BoolOp .Or l pos) (rdE p W (ev T cf a)) ∧ PW X (.BoolOp .Or l pos) (rdT p W (bdT (ev T cf a)))
  | .or a b, c, l, h, hc, W, X, C, pos => by
    unfold mO at h
    split at h
    · rename_i x y r
      obtain ⟨h1, h2⟩ := aB h
      have za := sE a c _ h1 hc W X C
      cases r with
      | nil =>
        have zb := sE b c _ h2 hc W X C
        exact ⟨n_or C za.1 (n_one zb.1), w_or za.2 (w_one zb.2)⟩
      | cons z r =>
        have zb := sO b c _ h2 hc W X C pos
        exact ⟨n_or C za.1 zb.1, w_or za.2 zb.2⟩
    · cases h
  | .var _, c, l, h, hc, W, X, C, pos => by cases h
  | .cst _, c, l, h, hc, W, X, C, pos => by cases h
  | .glo _, c, l, h, hc, W, X, C, pos => by cases h
  | .tup _, c, l, h, hc, W, X, C, pos => by cases h
  | .lst _, c, l, h, hc, W, X, C, pos => by cases h
  | .tupS _ _, c, l, h, hc, W, X, C, pos => by cases h
  | .bin _ _ _, c, l, h, hc, W, X, C, pos => by cases h
  | .neg _, c, l, h, hc, W, X, C, pos => by cases h
  | .not _, c, l, h, hc, W, X, C, pos => by cases h
  | .and _ _, c, l, h, hc, W, X, C, pos => by cases h
  | .cmp _ _ _, c, l, h, hc, W, X, C, pos => by cases h
  | .chain _ _ _ _ _, c, l, h, hc, W, X, C, pos => by cases h
  | .ite _ _ _, c, l, h, hc, W, X, C, pos => by cases h
  | .call _ _, c, l, h, hc, W, X, C, pos => by cases h
  | .callk _ _ _ _, c, l, h, hc, W, X, C, pos => by cases h
  | .bi _ _, c, l, h, hc, W, X, C, pos => by cases h
  | .bid _ _ _, c, l, h, hc, W, X, C, pos => by cases h
  | .bi2 _ _ _, c, l, h, hc, W, X, C, pos => by cases h
  | .mth _ _ _, c, l, h, hc, W, X, C, pos => by cases h
  | .mk _ _, c, l, h, hc, W, X, C, pos => by cases h
  | .att _ _, c, l, h, hc, W, X, C, pos => by cases h
  | .idx _ _, c, l, h, hc, W, X, C, pos => by cases h
  | .sl _ _ _, c, l, h, hc, W, X, C, pos => by cases h
  | .slr _, c, l, h, hc, W, X, C, pos => by cases h
  | .bm _ _ _, c, l, h, hc, W, X, C, pos => by cases h
  | .lc _ _ _ _ _, c, l, h, hc, W, X, C, pos => by cases h
  | .lc2 _ _ _ _ _ _ _ _, c, l, h, hc, W, X, C, pos => by cases h
  | .dc _ _ _ _ _ _ _, c, l, h, hc, W, X, C, pos => by cases h
  | .dnew _, c, l, h, hc, W, X, C, pos => by cases h
  | .fnv _, c, l, h, hc, W, X, C, pos => by cases h
  | .callv _ _, c, l, h, hc, W, X, C, pos => by cases h
  | .pack _ _, c, l, h, hc, W, X, C, pos => by cases h
  | .pn, c, l, h, hc, W, X, C, pos => by cases h
  | .pc _ _ _, c, l, h, hc, W, X, C, pos => by cases h
  | .min3 _ _ _ _, c, l, h, hc, W, X, C, pos => by cases h
  | .chain3 _ _ _ _ _ _ _, c, l, h, hc, W, X, C, pos => by cases h
  | .isi _ _, c, l, h, hc, W, X, C, pos => by cases h
  | .lit _, c, l, h, hc, W, X, C, pos => by cases h
theorem sPk : ∀ (a : E) (c : Cc) (l : List Expr), mPk g a c l = true → c.calm = true → ∀ (W : Wx) (X : Cx), CxOk g T p cf W c X → PA X l (rdA p W (bdL (ev T cf a)))
  | .pn, c, l, h, hc, W, X, C => by
    unfold mPk at h
    cases l with
    | nil => exact a_pn
    | cons _ _ => cases h
  | .pc s a b, c, l, h, hc, W, X, C => by
    unfold mPk at h
    cases l with
    | nil => cases h
    | cons e l =>
      dsimp only at h
      obtain ⟨h1, h2⟩ := aB h
      have zr := sPk b c _ h2 hc W X C
      cases s with
      | true =>
        dsimp only at h1
        split at h1
        · exact a_pcs (sE a c _ h1 hc W X C).1 zr C.K
        · cases h1
      | false =>
        dsimp only at h1
        obtain ⟨h3, h4⟩ := aB h1
        exact a_pc (nB h3) (sE a c _ h4 hc W X C).1 zr
  | .var _, c, l, h, hc, W, X, C => by cases h
  | .cst _, c, l, h, hc, W, X, C => by cases h
  | .glo _, c, l, h, hc, W, X, C => by cases h
  | .tup _, c, l, h, hc, W, X, C => by cases h
  | .lst _, c, l, h, hc, W, X, C => by cases h
  | .tupS _ _, c, l, h, hc, W, X, C => by cases h
  | .bin _ _ _, c, l, h, hc, W, X, C => by cases h
  | .neg _, c, l, h, hc, W, X, C => by cases h
  | .not _, c, l, h, hc, W, X, C => by cases h
  | .and _ _, c, l, h, hc, W, X, C => by cases h
  | .or _ _, c, l, h, hc, W, X, C => by cases h
  | .cmp _ _ _, c, l, h, hc, W, X, C => by cases h
  | .chain _ _ _ _ _, c, l, h, hc, W, X, C => by cases h
  | .ite _ _ _, c, l, h, hc, W, X, C => by cases h
  | .call _ _, c, l, h, hc, W, X, C => by cases h
  | .callk _ _ _ _, c, l, h, hc, W, X, C => by cases h
  | .bi _ _, c, l, h, hc, W, X, C => by cases h
  | .bid _ _ _, c, l, h, hc, W, X, C => by cases h
  | .bi2 _ _ _, c, l, h, hc, W, X, C => by cases h
  | .mth _ _ _, c, l, h, hc, W, X, C => by cases h
  | .mk _ _, c, l, h, hc, W, X, C => by cases h
  | .att _ _, c, l, h, hc, W, X, C => by cases h
  | .idx _ _, c, l, h, hc, W, X, C => by cases h
  | .sl _ _ _, c, l, h, hc, W, X, C => by cases h
  | .slr _, c, l, h, hc, W, X, C => by cases h
  | .bm _ _ _, c, l, h, hc, W, X, C => by cases h
  | .lc _ _ _ _ _, c, l, h, hc, W, X, C => by cases h
  | .lc2 _ _ _ _ _ _ _ _, c, l, h, hc, W, X, C => by cases h
  | .dc _ _ _ _ _ _ _, c, l, h, hc, W, X, C => by cases h
  | .fnv _, c, l, h, hc, W, X, C => by cases h
  | .callv _ _, c, l, h, hc, W, X, C => by cases h
  | .pack _ _, c, l, h, hc, W, X, C => by cases h
  | .dnew _, c, l, h, hc, W, X, C => by cases h
  | .min3 _ _ _ _, c, l, h, hc, W, X, C => by cases h
  | .chain3 _ _ _ _ _ _ _, c, l, h, hc, W, X, C => by cases h
  | .isi _ _, c, l, h, hc, W, X, C => by cases h
  | .lit _, c, l, h, hc, W, X, C => by cases h
theorem sP : ∀ (o : Option E) (c : Cc) (e : Option Expr), mP g o c e = true → c.calm = true → ∀ (W : Wx) (X : Cx), CxOk g T p cf W c X → PO X e (rdP p W (evo T cf o))
  | none, c, e, h, hc, W, X, C => by
    unfold mP at h
    cases e with
    | none => exact po_none'
    | some _ => cases h
  | some a, c, e, h, hc, W, X, C => by
    unfold mP at h
    cases e with
    | none => cases h
    | some e => exact po_some' (sE a c e h hc W X C).1
theorem sC : ∀ (as : List E) (c : Cc) (l : List Expr), mC g as c l = true → c.calm = true → ∀ (W : Wx) (X : Cx), CxOk g T p cf W c X → PTs X l (rdT p W (evt T cf as))
  | [], c, l, h, hc, W, X, C => by
    unfold mC at h
    cases l with
    | nil => exact ⟨fun pn s sg H Q I q => pts_nil.run pn s sg H Q I (by
        obtain ⟨m, r, h, s1, t, o⟩ := q
        exact o m H true Xt.refl t rfl)⟩
    | cons _ _ => cases h
  | a :: as, c, l, h, hc, W, X, C => by
    unfold mC at h
    split at h
    · exact pts_one (sE a c _ h hc W X C).2
    · cases h
theorem sI : ∀ (it : It) (c : Cc) (tg e : Expr), mI g it c tg e = true → c.calm = true → ∀ (W : Wx) (X : Cx), CxOk g T p cf W c X → PI X tg e (rdI p W (evi T cf it))
  | .ex a, c, tg, e, h, hc, W, X, C => by
    unfold mI at h
    exact i_ex C (sE a c e h hc W X C).1
  | .rng1 a, c, tg, e, h, hc, W, X, C => by
    unfold mI at h
    split at h
    · obtain ⟨h1, t1⟩ := aB h
      obtain ⟨h2, t2⟩ := aB t1
      obtain ⟨h3, t3⟩ := aB t2
      obtain ⟨h4, h5⟩ := aB t3
      have z := of_decide_eq_true h1
      subst z
      exact i_rng1 C h2 h3 (nB h4) (sE a c _ h5 hc W X C).1
    · cases h
  | .rng2 a b, c, tg, e, h, hc, W, X, C => by
    unfold mI at h
    split at h
    · obtain ⟨h1, t1⟩ := aB h
      obtain ⟨h2, t2⟩ := aB t1
      obtain ⟨h3, t3⟩ := aB t2
      obtain ⟨h4, t4⟩ := aB t3
      obtain ⟨h5, t5⟩ := aB t4
      obtain ⟨h6, h7⟩ := aB t5
      have z := of_decide_eq_true h1
      subst z
      exact i_rng2 C h2 h3 (nB h4) (nB h5) (sE a c _ h6 hc W X C).1 (sE b c _ h7 hc W X C).1
    · cases h
  | .rng3 a b, c, tg, e, h, hc, W, X, C => by
    unfold mI at h
    split at h
    · obtain ⟨h1, t1⟩ := aB h
      obtain ⟨h2, t2⟩ := aB t1
      obtain ⟨h3, t3⟩ := aB t2
      obtain ⟨h4, t4⟩ := aB t3
      obtain ⟨h5, t5⟩ := aB t4
      obtain ⟨h6, h7⟩ := aB t5
      have z := of_decide_eq_true h1
      subst z
      exact i_rng3 C h2 h3 (nB h4) (nB h5) (sE a c _ h6 hc W X C).1 (sE b c _ h7 hc W X C).1
    · cases h
  | .enum a, c, tg, e, h, hc, W, X, C => by
    unfold mI at h
    split at h
    · split at h
      · obtain ⟨h1, t1⟩ := aB h
        obtain ⟨h2, t2⟩ := aB t1
        obtain ⟨h3, t3⟩ := aB t2
        obtain ⟨h4, h5⟩ := aB t3
        have z := of_decide_eq_true h1
        subst z
        exact i_enum C h2 h3 (nB h4) (sE a c _ h5 hc W X C).1
      · cases h
    · cases h
  | .zip a b, c, tg, e, h, hc, W, X, C => by
    unfold mI at h
    split at h
    · split at h
      · obtain ⟨h1, t1⟩ := aB h
        obtain ⟨h2, t2⟩ := aB t1
        obtain ⟨h3, t3⟩ := aB t2
        obtain ⟨h4, t4⟩ := aB t3
        obtain ⟨h5, t5⟩ := aB t4
        obtain ⟨h6, h7⟩ := aB t5
        have z := of_decide_eq_true h1
        subst z
        exact i_zip C h2 h3 (nB h4) (nB h5) (sE a c _ h6 hc W X C).1 (sE b c _ h7 hc W X C).1
      · cases h
    · cases h
  | .revR1 a, c, tg, e, h, hc, W, X, C => by
    unfold mI at h
    split at h
    · obtain ⟨h1, t1⟩ := aB h
      obtain ⟨h2, t2⟩ := aB t1
      obtain ⟨h3, t3⟩ := aB t2
      obtain ⟨h4, t4⟩ := aB t3
      obtain ⟨h5, t5⟩ := aB t4
      obtain ⟨h6, t6⟩ := aB t5
      obtain ⟨h7, h8⟩ := aB t6
      have z := of_decide_eq_true h1
      subst z
      have z := of_decide_eq_true h2
      subst z
      exact i_revR1 C h3 h4 h5 h6 (nB h7) (sE a c _ h8 hc W X C).1
    · cases h
  | .revR a b, c, tg, e, h, hc, W, X, C => by
    unfold mI at h
    split at h
    · obtain ⟨h1, t1⟩ := aB h
      obtain ⟨h2, t2⟩ := aB t1
      obtain ⟨h3, t3⟩ := aB t2
      obtain ⟨h4, t4⟩ := aB t3
      obtain ⟨h5, t5⟩ := aB t4
      obtain ⟨h6, t6⟩ := aB t5
      obtain ⟨h7, t7⟩ := aB t6
      obtain ⟨h8, t8⟩ := aB t7
      obtain ⟨h9, h10⟩ := aB t8
      have z := of_decide_eq_true h1
      subst z
      have z := of_decide_eq_true h2
      subst z
      exact i_revR C h3 h4 h5 h6 (nB h7) (nB h8) (sE a c _ h9 hc W X C).1 (sE b c _ h10 hc W X C).1
    · cases h
  | .zip3 a b d, c, tg, e, h, hc, W, X, C => by
    unfold mI at h
    split at h
    · split at h
      · obtain ⟨h1, t1⟩ := aB h
        obtain ⟨h2, t2⟩ := aB t1
        obtain ⟨h3, t3⟩ := aB t2
        obtain ⟨h4, t4⟩ := aB t3
        obtain ⟨h5, t5⟩ := aB t4
        obtain ⟨h6, t6⟩ := aB t5
        obtain ⟨h7, t7⟩ := aB t6
        obtain ⟨h8, h9⟩ := aB t7
        have z := of_decide_eq_true h1
        subst z
        exact i_zip3 C h2 h3 (nB h4) (nB h5) (nB h6) (sE a c _ h7 hc W X C).1 (sE b c _ h8 hc W X C).1 (sE d c _ h9 hc W X C).1
      · cases h
    · cases h
  | .rev _, c, tg, e, h, hc, W, X, C => by cases h
  | .items _, c, tg, e, h, hc, W, X, C => by cases h
  | .values _, c, tg, e, h, hc, W, X, C => by cases h
end
end
end
end Rk
namespace Rk
noncomputable section
open PySem PySem.Spec PyProof.Rows L2
structure OxC (K : PySem.W.Frag) (C : Addr) (B nid iid : String) (bm : List Value) : Prop where
  fb : ExcBaseFacts B nid iid bm
  pass : ∀ self, refuseLoop self "__setattr__" bm = pure ()
  obj : bm.contains (.type "object") = true
  cls : ∃ nm q N bs sn sub ab col dd k0 k1 k2 k3 k5, K.lookup C = some (excClassObj nm q C N bs bm true sn sub ab col dd k0 k1 k2 k3 k5 nid)
  sa : PySem.W.findIn K (.ref C) "__setattr__" = some (some (.builtin "object.__setattr__"))
  exC : PySem.W.subIn K (.ref C) (.type "BaseException") = some true
  tyC : PySem.W.typeIn K (.ref C) = some (.type "type")
  kC : PySem.W.keepIn K (.ref C) = true
section
open PySem.W PySem.Calls PySem.HandSPX Builtin Builtin.ObjectAttr
variable {prog : Program} {w : World} {A : Around} {E : Value → Shared → Prop} {R : Result → Shared → Prop} {hp : Heap} {g : Array GenState} {d : Drawn} {t : Nat} {os : OsState}
theorem ox_set {K : Frag} {name : Str} {tk : Tok} {v : Value} {x C : Addr} {fv : Array Value} {cd : ClassData} {bm : List Value}
    (X : K.In hp) (hx : hp.get? x = some { cls := .ref C, data := .fields fv }) (hcd : clsIn K C = some cd) (hm : cd.mro = .ref C :: bm) (hps : ∀ self, refuseLoop self "__setattr__" bm = pure ()) (hob : bm.contains (.type "object") = true) (hh : cd.hasDict = true) (ha : findIn K (.ref C) name = some none)
    (hq : ∀ h' tk' dx, (∀ b o, b ≠ x → hp.get? b = some o → h'.get? b = some o) → hp.objs.size ≤ dx → dx ≠ x → h'.get? x = some { cls := .ref C, dict := some dx, data := .fields fv } →
      h'.Ns1 dx (fun y => if y = name then some v else none) → R (.ok (.ret .none)) ⟨h', g, d, tk', os⟩) :
    codeAny (model prog w) A (.call (.builtin "object.__setattr__") ⟨[.ref x, .str name tk, v], []⟩) R ⟨hp, g, d, t, os⟩ := by
  have I : InstAt hp x { cls := .ref C, data := .fields fv } C none := ⟨hx, rfl, rfl, trivial⟩
  have SF := F.store_object
  have ne : cd.mro.isEmpty = false := by rw [hm]; rfl
  have hob' : cd.mro.contains (.type "object") = true := by
    rw [hm, List.contains_cons, hob]
    exact Bool.or_true _
  have hxs : x ≠ hp.objs.size := Nat.ne_of_lt (Heap.lt_size hx)
  have sub : Looks (model prog w) hp (isInstance (.ref x) (.type "object")) true := I.type.andThen (looks_mroIn X (by unfold mroIn; rw [hcd, Option.bind_some, if_neg (by rw [ne]; decide), hob']))
  refine codeAny_call_builtin SF.slot.plain SF.entry (@check_slot (model prog w) _ _ ⟨hp, g, d, t, os⟩ "object.__setattr__" "object" "__setattr__" (.ref x) [.str name tk, v] [] _ SF.kind SF.split sub (SF.args (.ref x) (.str name tk) v) ?_)
  have hmr : Looks (model prog w) hp (mroOf (.ref C)) cd.mro := (looks_clsIn X hcd).andThen .now
  have L3 : Looks (model prog w) hp (storeTaker? none) none := .now
  have hcls : Looks (model prog w) hp (classData C) cd := looks_clsIn X hcd
  rw [osa_eq, refuse_eq]
  refine wpAny_bind (wpAny_bind (I.type.at (wpAny_bind (hmr.at ?_))))
  rw [hm, refuseLoop_ref, hps]
  refine wpAny_pure (wpAny_bind (I.type.at (wpAny_bind ((looks_findIn X ha).at (wpAny_bind (L3.at ?_))))))
  show wpAny _ _ (storeInOwnDict (.ref x) (.ref C) (.str name tk) name v false) _ _ _
  obtain ⟨nm, bs, mro, ns, qn, hd, sn, sb, ab, col, del⟩ := cd
  dsimp only at hh
  subst hh
  unfold storeInOwnDict ownDictForStores
  repeat (first | with_reducible refine store_in_new ?_ ?_ | with_reducible refine wpAny_loadPart_at hx ?_ | with_reducible refine hcls.at ?_ | wp_step)
  · exact ⟨_, #[], _, (Heap.get?_update_ne _ _ _ _ hxs.symm).trans (Heap.get?_push_at rfl rfl), rfl, fun e he => absurd he (by simp), fun _ => rfl⟩
  · intro h' tk' hn' hs
    have hx₁ : (hp.push { cls := .type "dict", data := .dict #[] }).get? x = some { cls := .ref C, data := .fields fv } := Heap.get?_push_of_some _ hx
    refine hq h' tk' hp.objs.size (fun b o hb ho => ?_) (Nat.le_refl _) hxs.symm ?_ hn'
    · exact (hs.2 b (Nat.ne_of_lt (Heap.lt_size ho))).trans ((Heap.get?_update_ne _ _ _ _ hb).trans (Heap.get?_push_of_some _ ho))
    · exact (hs.2 x hxs).trans (Heap.get?_update_self _ hx₁ rfl)
end
section
variable {X : Cx} {pins : List (Addr × Obj)} {σ : L2.St} {H : Hp} {s : Shared} {a C dx : Addr} {f : Str} {y : V} {u : Value} {Q : Unit → Shared → Prop} {E : Value → Shared → Prop} {A : Around} {B nid iid : String} {bm : List Value}
theorem ox_new (T : OxC X.K C B nid iid bm) (I : L2.Inv X pins σ H s) (e : H a = some (exo a C none)) (hno : PySem.W.findIn X.K (.ref C) f = some none) (ry : RelV y u)
    (h : ∀ dx s', H dx = none → dx ≠ a → L2.Inv X pins σ (upd (upd H dx (exd dx [(f, y)])) a (exo a C (some dx))) s' → Q () s') : wpAny (model X.prog X.w) A (setAttr (.ref a) f u) Q E s := by
  obtain ⟨nm, q, N, bs, sn, sub, ab, col, dd, k0, k1, k2, k3, k5, hC⟩ := T.cls
  have hcl : PySem.W.clsIn X.K C = some { name := nm, bases := bs, mro := .ref C :: bm, ns := N, qualname := q, hasDict := true, slotNames := sn, subclasses := sub, abstract := ab, collection := col, hasDel := false } := by unfold PySem.W.clsIn; rw [hC] <;> rfl
  obtain ⟨t1, ho⟩ := exo_at I.hok e
  obtain ⟨hp, g, d, t, os⟩ := s
  refine PySem.W.set_plain I.kIn (ox := { cls := .ref C, dict := none, data := .fields #[.ref t1, .none, .none, .none, .bool false, .none] }) (od := none) ⟨ho, rfl, rfl, trivial⟩ T.sa ?_
  refine ox_set I.kIn ho hcl rfl T.pass T.obj rfl hno (fun h' tk' dx k dn dne hx hn => ?_)
  have hnd : H dx = none := I.hok.fresh dn
  have nd : ∀ {b : Addr} {o : Obj}, hp.get? b = some o → b ≠ dx := fun {b o} q => Nat.ne_of_lt (Nat.lt_of_lt_of_le (Heap.lt_size q) dn)
  have na : ∀ {b : Addr}, H b = none → b ≠ a := fun {b} n z => by
    rw [z, e] at n
    cases n
  have Un1 : Un X.fs [] H (upd (upd H dx (exd dx [(f, y)])) a (exo a C (some dx))) hp h' := {
    keep := fun b o q n _ _ => k b o (na n) q
    slot := fun b o q n _ _ => ⟨o.slots, k b o (na n) q⟩
    free := fun b o q n _ => by rw [upd_ne (na n), upd_ne (nd q)]; exact n
    there := fun b o q _ => by
      by_cases hb : b = a
      · exact ⟨_, by rw [hb]; exact hx⟩
      · exact ⟨o, k b o hb q⟩
    tups := fun b xs q => by rw [upd_ne (at_ne e q exo_tup), upd_ne (ne_of_none q hnd)]; exact q
    frzs := fun b o v q => by rw [upd_ne (at_ne e q exo_frz), upd_ne (ne_of_none q hnd)]; exact q
    tbls := fun b ps q => ⟨#[], by rw [upd_ne (at_ne e q exo_tbl), upd_ne (ne_of_none q hnd), q]; simp⟩ }
  refine h dx _ hnd dne (I.un (t' := tk') Un1 fun b o q => ?_)
  by_cases hb : b = a
  · subst hb
    rw [upd_same] at q
    cases q
    exact exo_ok hx
  · rw [upd_ne hb] at q
    by_cases hd : b = dx
    · subst hd
      rw [upd_same] at q
      cases q
      exact exd_ok hn (relO_put (fs := []) ry fun g => True.intro)
    · rw [upd_ne hd] at q
      exact (I.hok b o q).stay (fun c v hc z => k c v (by
          rcases hc with hc | hc
          · rw [hc]
            exact hb
          · exact at_ne e hc exo_own) z)
        (fun c hc => by rw [upd_ne (at_ne e hc exo_own), upd_ne (ne_of_none hc hnd)]; exact hc) (fun c xs hc => by rw [upd_ne (at_ne e hc exo_tup), upd_ne (ne_of_none hc hnd)]; exact hc)
def tOx1 (K : PySem.W.Frag) (C0 : Addr) (f : Str) (to te : TE) : TS := fun D σ H => te σ H fun y H1 => to σ H1 fun x H2 => ∃ a : Addr, x = .ref a ∧ H2 a = some (exo a C0 none) ∧ ∀ dx, H2 dx = none → dx ≠ a → D.nx σ (upd (upd H2 dx (exd dx [(f, y)])) a (exo a C0 (some dx)))
theorem ps_ox1 {C0 : Addr} (T : OxC X.K C0 B nid iid bm) (hno : PySem.W.findIn X.K (.ref C0) f = some none) {o e : Expr} {to te : TE} {p' pos : Pos} (ho : PE X o to) (he : PE X e te) (hs : swapsWith e (some (.Attribute o f p')) pos.line X.env = pure false := by rfl) :
    PS X (.Assign [.Attribute o f p'] e pos) (tOx1 X.K C0 f to te) := by
  refine ⟨fun pins s σ H D I h => ?_⟩
  refine plainObj_wpAny_Assign_Attribute (thn (he.run pins s σ H _ I h) fun v s1 ⟨y, H1, I1, r1, q1⟩ => thn (ho.run pins s1 σ H1 _ I1 q1) fun u s2 ⟨x, H2, I2, r2, a, ex, ea, q⟩ => ?_) hs
  subst ex
  obtain rfl : u = Value.ref a := r2
  exact ox_new T I2 ea hno r1 fun dx s' n ne J => ⟨σ, _, J, q dx n ne⟩
theorem pmk_ox {x : Str} {C0 fI : Addr} {k : Nat} {fd : FuncData} {ps : List Str} {sp : Sp} {CX : CXT} {e : Expr} {ta : TA} {pp pos : Pos} (T : OxC X.K C0 B nid iid bm) (iC : PySem.W.findIn X.K (.ref C0) "__init__" = some (some (.ref fI))) (tI : PySem.W.typeIn X.K (.ref fI) = some (.type "function"))
    (F1 : FnOk X.prog X.w X.K X.mg X.base CX k fI fd ps sp) (hr : Room (k + 1) X.A) (hb : Binds X.K fd ps []) (hx : Passes CX X (fun _ _ _ => False)) (hg : Gl X x) (hm : X.mg x = some (.ref C0)) (ha : PA X [e] ta)
    (hdb : (x == ("__debug__" : Str)) = false) (he : starEach [e] X.env = [(false, eval e X.env)]) :
    PMk X (.Call (.Name x pp) [e] [] pos) (tMkO C0 sp [] ta) := by
  intro pins s σ H Q I h
  obtain ⟨nm, q, N, bs, sn, sub, ab, col, dd, k0, k1, k2, k3, k5, hC⟩ := T.cls
  refine wpAny_Call_Name_kw (ld_glob I hg hm ?_ hdb)
  refine PySem.W.callWith_K (h₀ := X.base) I.ok.mod.kin T.kC (thn (ha.run pos pins s σ H _ I h) fun us s1 ⟨vs, H1, I1, r1, hz, q1⟩ => ⟨I1.kIn, ?_⟩) he rfl
  show wpAny _ _ (call (.ref C0) us) _ _ _
  obtain ⟨hp, g, dr, tk, os⟩ := s1
  have hsz : hp.objs.size ≤ hp.objs.size + 1 := Nat.le_succ _
  have hn : H1 (hp.objs.size + 1) = none := I1.hok.fresh hsz
  have hq := q1 (hp.objs.size + 1) hn
  have kk : ∀ b o, hp.get? b = some o → ((hp.push (PySem.W.kdv_tup us)).push (PySem.HandSPX.excO C0 hp.objs.size)).get? b = some o := fun b o e => Heap.get?_push_of_some _ (Heap.get?_push_of_some _ e)
  have hget : ((hp.push (PySem.W.kdv_tup us)).push (PySem.HandSPX.excO C0 hp.objs.size)).get? (hp.objs.size + 1) = some (PySem.HandSPX.excO C0 hp.objs.size) := by heap_get
  have I2 : L2.Inv X pins σ (upd H1 (hp.objs.size + 1) (exo (hp.objs.size + 1) C0 none)) ⟨(hp.push (PySem.W.kdv_tup us)).push (PySem.HandSPX.excO C0 hp.objs.size), g, dr, tk, os⟩ :=
    I1.laid (t' := tk) (a := hp.objs.size + 1) (o := exo (hp.objs.size + 1) C0 none) (h' := (hp.push (PySem.W.kdv_tup us)).push (PySem.HandSPX.excO C0 hp.objs.size)) kk hsz (exo_ok hget)
  have r2 : Vals (V.ref (hp.objs.size + 1) :: (vs ++ [])) (Value.ref (hp.objs.size + 1) :: (us ++ [])) := .cons rfl (r1.append .nil)
  have hl : (Value.ref (hp.objs.size + 1) :: us ++ []).length = ps.length := by
    have e := r2.length
    rw [F1.len _ _ _ _ hq] at e
    exact e.symm
  have hus : us.length ≤ sizeLine := by
    rw [← Paired.length r1, sizeLine_eq]
    omega
  refine wpAny_call (PySem.HandSPX.call_own T.fb (fun Y => rfl) (I1.kIn _ _ hC) (PySem.W.looks_findIn I1.kIn iC) (fun self => PySem.W.bind_fn I1.kIn self tI) hus
    (codeAny_mono (F1.run _ X.stack _ _ ⟨Value.ref (hp.objs.size + 1) :: us, []⟩ (Value.ref (hp.objs.size + 1) :: (us ++ [])) _ _ (fun _ _ _ => False) (hr.make C0 us []) (I2.env0.make C0 us []) (by have z := hb _ (Value.ref (hp.objs.size + 1) :: us) I2.kIn hl; rwa [List.cons_append] at z) r2 hq) fun r s' hq' => ?_))
  cases r with
  | error er => exact hx pins σ _ _ er s' I2 hq'
  | ok fl =>
    cases fl with
    | ret u =>
      obtain ⟨v, H2, os2, bare2, un2, hok2, rv, ev, d, fs, ea, ed, hd1, q2⟩ := hq'
      subst ev
      obtain ⟨h2, g2, d2, t2, os'⟩ := s'
      exact ⟨rv, mk_end (raises_own T.exC T.tyC) I1 hsz kk un2 hok2 os2 bare2 ea ed hd1 q2⟩
    | next => exact False.elim hq'
    | brk => exact False.elim hq'
    | cont => exact False.elim hq'
end
def spI (C0 : Addr) (f : Str) : Sp := fun vs H Q _ => ∃ (a : Addr) (y : V), vs = [.ref a, y] ∧ H a = some (exo a C0 none) ∧ ∀ dx, H dx = none → dx ≠ a → Q .non (upd (upd H dx (exd dx [(f, y)])) a (exo a C0 (some dx)))
structure EcOk (p : Pd) (X : Cx) (i : Nat) (x f : Str) : Prop where
  mg : X.mg x = some (.ref (p.cA i))
  fN : p.fN i = f
  cl : ∃ B nid iid bm fI k fd ps, OxC X.K (p.cA i) B nid iid bm ∧ PySem.W.findIn X.K (.ref (p.cA i)) "__init__" = some (some (.ref fI)) ∧ PySem.W.typeIn X.K (.ref fI) = some (.type "function") ∧
    FnOk X.prog X.w X.K X.mg X.base CX0 k fI fd ps (spI (p.cA i) f) ∧ Room (k + 1) X.A ∧ Binds X.K fd ps []
structure EnOk (p : Pd) (X : Cx) (i : Nat) (x : Str) : Prop where
  mg : X.mg x = some (.ref (p.cA i))
  cl : ∃ B nid iid bm, ExcBaseFacts B nid iid bm ∧ PySem.W.excIn X.K (p.cA i) bm nid = true ∧ PySem.W.keepIn X.K (.ref (p.cA i)) = true ∧ PySem.W.subIn X.K (.ref (p.cA i)) (.type "BaseException") = some true ∧ PySem.W.typeIn X.K (.ref (p.cA i)) = some (.type "type")
theorem pmk_en {X : Cx} {p : Pd} {i : Nat} {y : Str} {q1 q2 : Pos} (O : EnOk p X i y) (gy : Gl X y) (dy : (y == ("__debug__" : Str)) = false) : PMk X (.Call (.Name y q1) [] [] q2) (fun _ H Q => Q (.ref (p.cA i)) none H) := by
  obtain ⟨B, nid, iid, bm, FB, ei, ki, e1, e2⟩ := O.cl
  intro pn s0 sg H Z J hz
  refine wpAny_Call_Name_kw (ld_glob J gy O.mg ?_ dy)
  refine PySem.W.callWith_K0 J.kIn ki ?_
  obtain ⟨b1, N1, nm1, qn1, bs1, hd1, sn1, su1, ab1, co1, d1, j0, j1, j2, j3, j5, mN1, kC, kN, kni, TT⟩ := exc_obj J.kIn ei
  exact wpAny_call_exc_subT FB TT kC kN kni (fun h2 e hm => mk_of J hm (raises_own e1 e2) hz (J.hok.gone hm.new)) (Nat.zero_le _)
section
variable {g : Gd} {T : Tab} {p : Pd} {cf : Nat → List IV → Hh → R IV} {W : Wx} {c : Cc} {X : Cx}
def raisK (i : Nat) (r : Rho) (vs : List IV) (h : Hh) : RS := match vs with
  | [] => .exc ⟨i, none⟩ r h
  | v :: _ => .exc ⟨i, some v⟩ r h
theorem s_rais (C : CxOk g T p cf W c X) (hc : c.calm = true) {i : Nat} {x f : Str} (O : EcOk p X i x f) {e : Expr} {Ms : Rho → Hh → R (List IV)} {pp cp pos : Pos} (hg : glB c.sc x = true) (hn : nmB x = true) (hs : star e = false) (ha : PA X [e] (rdA p W Ms)) (ln : Ln Ms 1) :
    PS X (.Raise (some (.Call (.Name x pp) [e] [] cp)) none pos) (rdM p W fun r h => (Ms r h).st r (raisK i r)) := by
  obtain ⟨B, nid, iid, bm, fI, k, fd, ps, TT, iC, tI, F1, hr, hb⟩ := O.cl
  refine PS.wk (ps_raise (C.calm hc) C.tk (pmk_ox TT iC tI F1 hr hb (fun _ _ _ _ _ _ _ z => z.elim) (gl_ok C hg) O.mg ha (nmB_ok hn).1 (star_cons hs))) fun D σ H z => ?_
  obtain ⟨m, r, h, s, t, o⟩ := z
  refine ⟨m, r, h, s, t, ?_⟩
  dsimp only at o
  cases em : Ms r h with
  | fail =>
    rw [em] at o
    exact o
  | exc ex h' =>
    rw [em] at o
    exact fun m' H' d x' rh f' => o m' H' σ d x' (s.mono x') rh f'
  | ok as h' =>
    rw [em] at o
    have l1 := ln r h as h' em
    intro m1 H1 vs x1 rh1 ra
    cases as with
    | nil => cases l1
    | cons y ys =>
      cases ys with
      | cons _ _ => cases l1
      | nil =>
        cases ra with
        | cons ry rn =>
          cases rn
          rename_i Y
          refine ⟨by show 1 ≤ 1000; decide, fun a han => ?_⟩
          have na : ∀ {dx : Addr}, upd H1 a (exo a (p.cA i) none) dx = none → dx ≠ a → H1 dx = none := fun {dx} z ne => by rwa [upd_ne ne] at z
          refine ⟨a, Y, rfl, upd_same, fun dx hdx hne => ⟨rfl, dx, [(f, Y)], upd_same, ?_, na hdx hne, ?_⟩⟩
          · rw [upd_ne hne, upd_same]
          · have eH : upd (del (upd (upd (upd H1 a (exo a (p.cA i) none)) dx (exd dx [(f, Y)])) a (exo a (p.cA i) (some dx))) a) dx (.xd [(f, Y)]) = upd H1 dx (.xd [(f, Y)]) := by
              funext b
              by_cases hb : b = dx
              · rw [hb, upd_same, upd_same]
              · rw [upd_ne hb, upd_ne hb]
                by_cases hba : b = a
                · rw [hba, del_same, han]
                · rw [del_ne hba, upd_ne hba, upd_ne hb, upd_ne hba]
            rw [eH]
            have hd1 := na hdx hne
            have xt : Xt m1 H1 m1 (upd H1 dx (.xd [(f, Y)])) := Xt.laid hd1
            have o := OkS.ext o x1
            exact o m1 _ σ (some dx) xt ((s.mono x1).mono xt) (rh1.laid hd1) ⟨dx, Y, rfl, by rw [← O.fN]; exact (by rw [O.fN]; exact upd_same), ry.mono xt⟩
theorem s_rais0 (C : CxOk g T p cf W c X) (hc : c.calm = true) {i : Nat} {x : Str} (O : EnOk p X i x) {pp cp pos : Pos} (hg : glB c.sc x = true) (hn : nmB x = true) :
    PS X (.Raise (some (.Call (.Name x pp) [] [] cp)) none pos) (rdM p W fun r h => .exc ⟨i, none⟩ r h) := by
  refine PS.wk (ps_raise (C.calm hc) C.tk (pmk_en O (gl_ok C hg) (nmB_ok hn).1)) fun D σ H z => ?_
  obtain ⟨m, r, h, s, t, o⟩ := z
  exact o m H σ none Xt.refl s t rfl
end
end
end Rk
namespace Rk
noncomputable section
open PySem PySem.Spec PyProof.Rows L2
def DOk (H : Hp) (d : Option Addr) : Prop := d = none ∨ ∃ dd fs, d = some dd ∧ H dd = some (.xd fs)
def rIsX (K : PySem.W.Frag) (D a : Addr) (d : Option Addr) : List V → Hp → VK → Prop := fun xs H Q => ∃ (c : V) (cv : Value) (b : Bool), xs = [.ref a, c] ∧ (∀ u, RelV c u → u = cv) ∧ PySem.W.kitOne K (.ref D) cv = some b ∧ DOk H d ∧ Q (.bl b) H
theorem call_isX {X : Cx} {a D : Addr} {oe : Obj} {d : Option Addr} {pn : List (Addr × Obj)} (C : ExcC X.K D) (hz : Zc (.ref D) d oe) (hf : ∃ vs, oe.data = .fields vs) : CallR (X.suite a ((a, oe) :: pn)) (.builtin "isinstance") (rIsX X.K D a d) := by
  intro pins s σ H xs us Q I r h
  obtain ⟨c, cv, b, rfl, hcv, e, dk, q⟩ := h
  cases r with
  | cons rx rr =>
    cases rr with
    | cons rt rr =>
      cases rr
      cases rx
      have ec := hcv _ rt
      subst ec
      obtain ⟨hget, _⟩ := I.pin (a, oe) (List.mem_append.mpr (.inl List.mem_cons_self))
      obtain ⟨vs, hv⟩ := hf
      have hcl : (PySem.W.clsIn X.K D).isSome = true := by
        obtain ⟨cd, hc, _⟩ := PySem.W.any_some C.hd
        rw [hc]
        rfl
      rcases dk with rfl | ⟨dd, fs, rfl, ed⟩
      · have J : PySem.W.InstAt s.heap a oe D none := ⟨hget, hz.1, by unfold PySem.W.notCls; rw [hv] <;> rfl, by rw [hz.2]; trivial⟩
        exact PySem.W.kia_one (PySem.W.kitx_exc hcl C.hg C.hk C.hs C.ha C.hn C.ht C.hm) I.kIn J e (fun z => nomatch z) fun tk => ⟨.bl b, H, I.kept (t' := tk) fun _ _ z => z, rfl, q⟩
      · obtain ⟨mA, hns, hr⟩ := (show ObjOk X.prog X.w H s.heap dd (.xd fs) from I.hok dd _ ed)
        obtain ⟨od, ho, hl⟩ := lookIn_ns hns
        have J : PySem.W.InstAt s.heap a oe D (some od) := ⟨hget, hz.1, by unfold PySem.W.notCls; rw [hv] <;> rfl, by rw [hz.2]; exact ho⟩
        exact PySem.W.kia_one (PySem.W.kitx_exc hcl C.hg C.hk C.hs C.ha C.hn C.ht C.hm) I.kIn J e (fun z => nomatch z) fun tk => ⟨.bl b, H, I.kept (t' := tk) fun _ _ z => z, rfl, q⟩
def PtV (f : Str) (d : Option Addr) (H : Hp) : Pt → V → Prop
  | .s x, v => v = .str x
  | .b k, v => v = .bl k
  | .f, v => ∃ dd fs, d = some dd ∧ H dd = some (.xd fs) ∧ fs.lookup f = some v
inductive PtVs (f : Str) (d : Option Addr) (H : Hp) : List Pt → List V → Prop
  | nil : PtVs f d H [] []
  | cons {p : Pt} {v : V} {ps : List Pt} {vs : List V} : PtV f d H p v → PtVs f d H ps vs → PtVs f d H (p :: ps) (v :: vs)
theorem PtVs.len {f : Str} {d : Option Addr} {H : Hp} : ∀ {ps : List Pt} {vs : List V}, PtVs f d H ps vs → vs.length = ps.length
  | _, _, .nil => rfl
  | _, _, .cons _ s => by
    show _ + 1 = _ + 1
    rw [PtVs.len s]
def tPts (f : Str) (a : Addr) (d : Option Addr) (en : Nat) (ps : List Pt) : TA := fun σ H Q => σ[en]? = some (some (.ref a)) ∧ DOk H d ∧ ∃ vs, PtVs f d H ps vs ∧ Q vs H
structure ExK (g : Gd) (p : Pd) (X : Cx) (i : Nat) (x f : Str) : Prop where
  mg : X.mg x = some (.ref (p.cA i))
  fN : p.fN i = f
  xf : XfC X.K (p.cA i)
  no : PySem.W.findIn X.K (.ref (p.cA i)) f = some none
  ec : ExcC X.K (p.cA i)
  isi : ∀ T b, (i, T, b) ∈ g.isis → bootBuiltins (Str.ofString T) = some (.type T) ∧ Str.ofString T ≠ Str.ofString "__name__" ∧ (Str.ofString T == Str.ofString "__debug__") = false ∧ PySem.W.kitOne X.K (.ref (p.cA i)) (.type T) = some b
def mPt (g : Gd) (sc : Scope) (N : List Str) (i en : Nat) (f : Str) (q : Pt) (e : Expr) : Bool := match q with
  | .s x => match e with
    | .Constant (.str y) _ _ => decide (y = x)
    | _ => false
  | .f => match e with
    | .Attribute (.Name n _) y _ => decide (y = f) && (optB (at? N en) n && (visB sc n && nmB n))
    | _ => false
  | .b v => match e with
    | .Call (.Name z _) [.Name n _, .Name y _] [] _ => decide (z = Str.ofString "isinstance") && (optB (at? N en) n && (visB sc n && (nmB n && (g.free.contains (Str.ofString "isinstance") && (glB sc (Str.ofString "isinstance") && (g.free.contains y && (glB sc y && g.isis.any fun t => decide (t.1 = i) && (decide (Str.ofString t.2.1 = y) && decide (t.2.2 = v)))))))))
    | _ => false
def mPts (g : Gd) (sc : Scope) (N : List Str) (i en : Nat) (f : Str) : List Pt → List Expr → Bool
  | [], l => exNil l
  | q :: qs, l => match l with
    | [] => false
    | e :: l => !star e && (mPt g sc N i en f q e && mPts g sc N i en f qs l)
section
variable {g : Gd} {T : Tab} {p : Pd} {cf : Nat → List IV → Hh → R IV} {W : Wx} {c : Cc} {X : Cx}
theorem pts_ok (C : CxOk g T p cf W c X) {i en : Nat} {x f : Str} (O : ExK g p X i x f) {a : Addr} {oe : Obj} {d : Option Addr} {pn : List (Addr × Obj)} (hz : Zc (.ref (p.cA i)) d oe) (hf : ∃ vs, oe.data = .fields vs) :
    ∀ {qs : List Pt} {l : List Expr}, mPts g c.sc c.N i en f qs l = true → PA (X.suite a ((a, oe) :: pn)) l (tPts f a d en qs)
  | [], l, h => by
    unfold mPts at h
    cases l with
    | cons _ _ => cases h
    | nil =>
      refine PA.wk pa_nil fun σ H Q ⟨_, _, vs, r, q⟩ => ?_
      cases r
      exact q
  | q :: qs, l, h => by
    unfold mPts at h
    cases l with
    | nil => cases h
    | cons e l =>
      obtain ⟨h1, t1⟩ := aB h
      obtain ⟨h2, h3⟩ := aB t1
      have rest := pts_ok C O (pn := pn) (a := a) hz hf h3
      have nameR : ∀ {n : Str} {q0 : Pos}, optB (at? c.N en) n = true → visB c.sc n = true → nmB n = true → PE (X.suite a ((a, oe) :: pn)) (.Name n q0) (tVar en) := fun {n q0} k1 k2 k3 =>
        pe_var (X := X.suite a ((a, oe) :: pn)) (by show X.N[en]? = some n; rw [C.n, ← at_list]; exact optB_ok k1) (by show Vis X.env.scope n; rw [C.sc]; exact visB_ok k2) (nmB_ok k3).1 (nmB_ok k3).2.1
      have one : PE (X.suite a ((a, oe) :: pn)) e (fun σ H Q => σ[en]? = some (some (.ref a)) ∧ DOk H d ∧ ∃ v, PtV f d H q v ∧ Q v H) := by
        cases q with
        | s y =>
          unfold mPt at h2
          split at h2 <;> try (cases h2; done)
          · rename_i q1 heq
            cases heq
            split at h2
            · have z := of_decide_eq_true h2
              subst z
              exact PE.wk pe_str fun σ H Q ⟨_, _, v, e1, k⟩ => by
                cases e1
                exact k
            · cases h2
          all_goals (rename_i heq; cases heq)
        | f =>
          unfold mPt at h2
          split at h2 <;> try (rename_i heq; cases heq; done)
          split at h2
          · obtain ⟨k1, t1⟩ := aB h2
            obtain ⟨k2, t2⟩ := aB t1
            obtain ⟨k3, k4⟩ := aB t2
            have z := of_decide_eq_true k1
            subst z
            exact PE.wk (pe_xf O.xf O.no hz hf (nameR k2 k3 k4)) fun σ H Q ⟨e0, _, v, ⟨dd, fs, e1, e2, e3⟩, k⟩ => ⟨_, e0, rfl, rfl, dd, fs, v, e1, e2, e3, k⟩
          · cases h2
        | b w =>
          unfold mPt at h2
          split at h2 <;> try (rename_i heq; cases heq; done)
          rename_i w' heq
          cases heq
          split at h2
          · obtain ⟨k1, t1⟩ := aB h2
            obtain ⟨k2, t2⟩ := aB t1
            obtain ⟨k3, t3⟩ := aB t2
            obtain ⟨k4, t4⟩ := aB t3
            obtain ⟨k5, t5⟩ := aB t4
            obtain ⟨k6, t6⟩ := aB t5
            obtain ⟨k7, t7⟩ := aB t6
            obtain ⟨k8, k9⟩ := aB t7
            have z := of_decide_eq_true k1
            subst z
            obtain ⟨⟨j, tn, b0⟩, hm, hp⟩ := List.any_eq_true.mp k9
            obtain ⟨j1, j2⟩ := aB hp
            obtain ⟨j2, j3⟩ := aB j2
            have e1 : j = i := of_decide_eq_true j1
            have e2 := of_decide_eq_true j2
            have e3 : b0 = w := of_decide_eq_true j3
            subst e1 e3
            dsimp only at e2
            subst e2
            obtain ⟨b1, b2, b3, b4⟩ := O.isi _ _ hm
            have hgi : Gl X (Str.ofString "isinstance") := gl_ok C k6
            have hgt : Gl X (Str.ofString tn) := gl_ok C k8
            refine PE.wk (pe_callB (X := X.suite a ((a, oe) :: pn)) (call_isX O.ec hz hf) hgi (C.free _ k5) (by decide +kernel) (pa_cons (nameR k2 k3 k4) (pa_cons (pe_bltn (X := X.suite a ((a, oe) :: pn)) (v := .ty tn) hgt (C.free _ k7) b1 rfl b2 b3) pa_nil rfl) rfl) (by decide) (by decide) rfl rfl) fun σ H Q ⟨e0, dk, v, e1, k⟩ => ?_
            cases e1
            exact ⟨_, e0, _, .type tn, _, rfl, fun u hu => hu, b4, dk, k⟩
          · cases h2
      refine PA.wk (pa_cons one rest (star_cons (nB h1))) fun σ H Q ⟨e0, dk, vs, r, k⟩ => ?_
      cases r with
      | cons r1 rr => exact ⟨e0, dk, _, r1, e0, dk, _, rr, k⟩
end
end
end Rk
namespace Rk
noncomputable section
open PySem PySem.Spec PyProof.Rows L2
structure SxOk (g : Gd) (p : Pd) (X : Cx) : Prop where
  st : X.stack = X.env :: X.outer
  fr : X.env.frame = some X.env.locals
  ecs : ∀ i x f, at? g.exs i = some (x, some f) → EcOk p X i x f
  en0 : ∀ i x, at? g.exs i = some (x, none) → EnOk p X i x
  exk : ∀ i x fo, at? g.exs i = some (x, fo) → ExK g p X i x (fo.getD Str.empty)
  exm : ∀ i j, i < g.exs.length → j < g.exs.length → PySem.W.exmOne X.K (.ref (p.cA i)) (.ref (p.cA j)) = some (Nat.beq i j)
theorem SxOk.tr {g : Gd} {p : Pd} {X : Cx} (S : SxOk g p X) (pn : List (Addr × Obj)) (xe : Value → Shared → Prop) : SxOk g p (X.tr pn xe) where
  st := S.st
  fr := S.fr
  ecs := fun i x f e => ⟨(S.ecs i x f e).mg, (S.ecs i x f e).fN, (S.ecs i x f e).cl⟩
  en0 := fun i x e => ⟨(S.en0 i x e).mg, (S.en0 i x e).cl⟩
  exk := fun i x f e => ⟨(S.exk i x f e).mg, (S.exk i x f e).fN, (S.exk i x f e).xf, (S.exk i x f e).no, (S.exk i x f e).ec, (S.exk i x f e).isi⟩
  exm := S.exm
theorem CxOk.tr {g : Gd} {T : Tab} {p : Pd} {cf : Nat → List IV → Hh → R IV} {W W' : Wx} {c : Cc} {X : Cx} (C : CxOk g T p cf W c X) {pn : List (Addr × Obj)} {xe : Value → Shared → Prop} (tk : Takes (X.tr pn xe) W') (po : PassesOwn (model X.prog X.w) X.A X.env xe) : CxOk g T p cf W' c (X.tr pn xe) where
  n := C.n
  nd := C.nd
  sc := C.sc
  fn := C.fn
  K := C.K
  tk := tk
  calm := C.calm
  un := C.un
  fns := C.fns
  dfs := fun hc i ps e => by
    obtain ⟨fd, lv, A⟩ := C.dfs hc i ps e
    exact ⟨fd, lv, ⟨A.kp, A.room, A.rm1, A.ok, A.bind, A.bindk⟩⟩
  cls := C.cls
  nc := C.nc
  fld := C.fld
  nf := C.nf
  mf := C.mf
  ini := C.ini
  cfl := C.cfl
  nds := C.nds
  free := C.free
  own := po
  glo := C.glo
theorem ptVs_ok {p : Pd} {m : Mp} {H : Hp} {x : Ex} {d : Option Addr} (fr : FR p m H x d) : DOk H d ∧ ∀ {ps : List Pt} {vs : List IV}, ptVs x.v ps = some vs → ∃ Vs, PtVs (p.fN x.c) d H ps Vs ∧ RVs p m H vs Vs := by
  have one : ∀ {q : Pt} {v : IV}, ptV x.v q = some v → ∃ U, PtV (p.fN x.c) d H q U ∧ RV p m H v U := fun {q v} e => by
    cases q with
    | s y =>
      cases e
      exact ⟨_, rfl, .str y⟩
    | b k =>
      cases e
      exact ⟨_, rfl, .bl k⟩
    | f =>
      have e : x.v = some v := e
      unfold FR at fr
      rw [e] at fr
      obtain ⟨dd, U, e1, e2, rv⟩ := fr
      refine ⟨U, ⟨dd, _, e1, e2, ?_⟩, rv⟩
      simp [List.lookup]
  refine ⟨?_, ?_⟩
  · unfold FR at fr
    cases e : x.v with
    | none =>
      rw [e] at fr
      exact .inl fr
    | some v =>
      rw [e] at fr
      obtain ⟨dd, U, e1, e2, _⟩ := fr
      exact .inr ⟨dd, _, e1, e2⟩
  · intro ps
    induction ps with
    | nil =>
      intro vs e
      cases e
      exact ⟨[], .nil, .nil⟩
    | cons q qs ih =>
      intro vs e
      unfold ptVs at e
      cases e1 : ptV x.v q with
      | none =>
        rw [e1] at e
        cases e
      | some v =>
        rw [e1] at e
        dsimp only at e
        cases e2 : ptVs x.v qs with
        | none =>
          rw [e2] at e
          cases e
        | some ws =>
          rw [e2] at e
          cases e
          obtain ⟨U, h1, h2⟩ := one e1
          obtain ⟨Us, h3, h4⟩ := ih e2
          exact ⟨U :: Us, .cons h1 h3, .cons h2 h4⟩
theorem RSl.catch {K : Pd} {m : Mp} {H : Hp} {r : Rho} {σ : L2.St} {j en : Nat} {v : IV} {U Z : V} (s : RSl K m H r σ) (q : RV K m H v U) : RSl K m H (Rk.put (Rk.put r j (some v)) en none) (((σ.set en (some Z)).set j (some U)).set en none) := by
  refine ⟨by rw [List.length_set, List.length_set, List.length_set, put_len, put_len]; exact s.1, fun i w e => ?_⟩
  rcases get_put _ en i _ w e with ⟨a, b⟩ | ⟨a, b⟩
  · cases b
  · rcases get_put r j i _ w b with ⟨a2, b2⟩ | ⟨a2, b2⟩
    · cases b2
      subst a2
      refine ⟨U, ?_, q⟩
      have hl : j < σ.length := by
        have := get_lt b
        rw [put_len] at this
        rw [s.1]; exact this
      rw [List.getElem?_set_ne a]
      exact List.getElem?_set_self (by rw [List.length_set]; exact hl)
    · obtain ⟨Y, e1, q1⟩ := s.2 i w b2
      exact ⟨Y, by rw [List.getElem?_set_ne a, List.getElem?_set_ne a2, List.getElem?_set_ne a]; exact e1, q1⟩
abbrev ClD := Value × Nat × (Addr → Value → Option Addr → TS)
def wL (K : PySem.W.Frag) (Wo : WX) (D : Ends) : List ClD → WX
  | [] => Wo
  | q :: r => wAs K q.1 q.2.1 q.2.2 (wL K Wo D r) D
inductive CsOk (Y : Cx) : List ExceptHandler → List ClD → Prop
  | nil : CsOk Y [] []
  | cons {cn en : Str} {cv : Value} {j : Nat} {tc : Addr → Value → Option Addr → TS} {s0 : Stmt} {ss : List Stmt} {q1 q2 : Pos} {ks : List ExceptHandler} {l : List ClD} (nc : Names Y cn cv) (nj : Y.N[j]? = some en) (nl : Y.env.kindOf en = some .local)
      (su : ∀ (b : Addr) (ob : Obj) (kv : Value) (dd : Option Addr) (pq : List (Addr × Obj)), Zc kv dd ob → (∃ vs, ob.data = .fields vs) → PSs (Y.suite b ((b, ob) :: pq)) (s0 :: ss) (tc b kv dd)) (tl : CsOk Y ks l) :
      CsOk Y (.ExceptHandler (some (.Name cn q1)) (some en) (s0 :: ss) q2 :: ks) ((cv, j, tc) :: l)
section
variable {Y : Cx} {bd : List Stmt} {k0 : ExceptHandler} {ks : List ExceptHandler} {l : List ClD} {q : Pos} {tb : WX → TS} {Wo : WX}
theorem ps_try_l (es : Y.stack = Y.env :: Y.outer) (ef : Y.env.frame = some Y.env.locals) (nN : Y.N.Nodup) (tk : Takes Y Wo)
    (hb : ∀ (W : WX) (pq : List (Addr × Obj)) (xw : Value → Shared → Prop), Takes (Y.tr pq xw) W → PassesOwn (model Y.prog Y.w) Y.A Y.env xw → PSs (Y.tr pq xw) bd (tb W))
    (hk : CsOk Y (k0 :: ks) l) : PS Y (.Try bd (k0 :: ks) [] [] q) (fun D sg H => tb (wL Y.K Wo D l) D sg H) := by
  refine ⟨fun pq z0 sg H D J hyp => ?_⟩
  have okJ := J.ok
  have fr0 : Y.A.frames = some (Y.env :: Y.outer) := by rw [okJ.frames, es]
  refine wpAny_Try_except ?_
  refine wpAny_mono ((hb (wL Y.K Wo D l) (Y.pn ++ pq) (fun e z1 => wpAny (model Y.prog Y.w) Y.A (noteFrame e Y.env) (fun _ z2 => wpAny (model Y.prog Y.w) Y.A (setFlight e none) (fun _ z3 =>
    wpAny (model Y.prog Y.w) Y.A (handleBy e Y.env (k0 :: ks)) (SP Y pq D) Y.xe z3) Y.xe z2) Y.xe z1) (fun u z4 xx => ?_) PassesOwn.looking).run [] z0 sg H D (J.toTry _) hyp) (fun f z1 hsp => ?_) (fun e z1 he => he)
  · obtain ⟨b, B, zI, pq2, sg2, H2, kv, dd, rfl, K', nb, up, sky, na, os, ag, w⟩ := xx
    have JK : Inv Y pq sg2 H2 zI := K'.ofTry okJ
    have sky2 : Sky B (Y.env :: Y.outer) b (Zc kv dd) Y.env.locals z4.heap := by rw [← es]; exact sky
    show wpAny (model Y.prog Y.w) Y.A (noteFrame (.ref b) Y.env) _ _ _
    refine Sky.land Zc.steady fr0 ef sky2 fun g3 fl3 up3 => ?_
    have J3 : Inv Y pq sg2 H2 { z4 with heap := g3 } := JK.landed nb fl3.1 (up.trans up3) os ag
    obtain ⟨ob3, ws3, eb3, zb3, db3⟩ := fl3.there
    have offF : ∀ {g : Heap} {o : Obj} {ws : Array Value}, g.FunFrames B (Y.env :: Y.outer) → g.get? b = some o → o.data = .fields ws → b ∉ frs (Y.env :: Y.outer) := fun {g o ws} ff e de hm => by
      obtain ⟨_, o2, e2, hnf⟩ := ff.mem hm
      rw [e] at e2; cases e2
      exact hnf _ de
    have offB := offF fl3.2.2.1 eb3 db3
    have offL : b ≠ Y.env.locals := fun z => offB (List.mem_filterMap.mpr ⟨Y.env, List.mem_cons_self, by rw [ef, z]⟩)
    have offS : b ∉ Y.fs := fun hm => by
      obtain ⟨e, he, eq⟩ := List.mem_filterMap.mp hm
      exact offB (List.mem_filterMap.mpr ⟨e, List.mem_cons_of_mem _ he, eq⟩)
    have S3 := J3.suite eb3 db3 na offL offS
    have go : ∀ {ks2 : List ExceptHandler} {l2 : List ClD}, CsOk Y ks2 l2 → wL Y.K Wo D l2 kv dd sg2 H2 →
        wpAny (model Y.prog Y.w) Y.A (handleBy (.ref b) Y.env ks2) (SP Y pq D) Y.xe { z4 with heap := g3 } := by
      intro ks2 l2 hc
      induction hc with
      | nil =>
        intro w
        refine wpAny_handleBy_nil ?_
        obtain ⟨u1, u2, u3, oe, ws, TB, oT, ts2, he, hz, hd, v1, hr⟩ := id fl3
        unfold PySem.passOn
        refine wpAny_bind (wpAny_field he hd v1 ?_)
        rw [if_neg (show ¬ ((Value.ref TB == Value.none) = true) from by simp)]
        have fin : wpAny (model Y.prog Y.w) Y.A (setFlight (.ref b) Y.env.frame) (fun _ z5 => wpAny (model Y.prog Y.w) Y.A (throw (.ref b) : Sem Flow) (SP Y pq D) Y.xe z5) Y.xe { z4 with heap := g3 } := by
          rw [ef]
          refine HandSPX.setFlight_upZ fl3 fun g4 hg4 up4 => wpAny_throw (tk _ _ ?_)
          exact ⟨b, B, zI, pq, sg2, H2, kv, dd, rfl, JK, nb, (up.trans up3).trans up4, .inr (.inr (by rw [es]; exact hg4)), na, os, ag, w⟩
        first
          | exact wpAny_bind (wpAny_pure (wpAny_bind fin))
          | exact wpAny_bind fin
      | @cons cn en cv j tc s0 ss q1 q2 ks3 l3 nc nj nl su tl ih =>
        intro w
        obtain ⟨t, et, yes, no⟩ := w
        refine wpAny_handleBy_cons (codeAny_handlers_test ?_) (by intro z; cases z)
        have LT : PySem.W.Looks (model Y.prog Y.w) g3 (typeOf (.ref b)) kv := fun A Q E s k z => wpAny_typeOf_ref (k _ _ eb3) (by rw [zb3.1]; exact z)
        have LM := PySem.W.exm_one (M := model Y.prog Y.w) (J3.kIn) LT et
        have test : ∀ {Q : Value → Shared → Prop} {E : Value → Shared → Prop}, Q cv { z4 with heap := g3 } → wpAny (model Y.prog Y.w) (Y.A.mark (some (.ref b))) (eval (.Name cn q1) Y.env) Q E { z4 with heap := g3 } := fun {Q E} z => by
          obtain ⟨hg, hdb, hm | ⟨hm, hv, hnn⟩⟩ := nc
          · exact ld_glob (X := Y.suite b ((b, ob3) :: (Y.pn ++ pq))) S3 hg hm z hdb
          · exact ld_blt (X := Y.suite b ((b, ob3) :: (Y.pn ++ pq))) S3 hg hm hv z hnn hdb
        refine test (LM.here ?_)
        cases t with
        | true =>
          refine codeAny_handlers_suite_as ?_
          refine HandSPX.lands_againZ fl3 fun g4 fl4 up4 => ?_
          have J4 : Inv Y pq sg2 H2 { z4 with heap := g4 } := JK.landed nb fl4.1 ((up.trans up3).trans up4) os ag
          obtain ⟨ob4, ws4, eb4, zb4, db4⟩ := fl4.there
          have S4 := J4.suite eb4 db4 na offL offS
          refine store_ok (X := Y.suite b ((b, ob4) :: (Y.pn ++ pq))) (v := .ref b) S4 nN nj (.inl nl) rfl (fun z5 S5 => ?_) (.inr nl)
          refine wpAny_mono ((su b ob4 kv dd (Y.pn ++ pq) zb4 ⟨_, db4⟩).run [] z5 _ H2 _ S5 (yes rfl b na)) (fun f z6 hz => ?_) (fun _ _ z => z.elim)
          have ends : ∀ {sg6 : L2.St} {H6 : Hp} {Q : Shared → Prop}, Inv (Y.suite b ((b, ob4) :: (Y.pn ++ pq))) [] sg6 H6 z6 → (∀ z7, Inv Y pq (sg6.set j none) H6 z7 → Q z7) →
              wpAny (model Y.prog Y.w) Y.A (do bindName Y.env en .none; unbindBehindTheSuite Y.env en q2) (fun _ z7 => Q z7) Y.xe z6 := fun {sg6 H6 Q} S6 hq => gone_ok (S6.unsuite okJ) nN nj nl hq
          cases f with
          | next =>
            obtain ⟨sg6, H6, S6, k6⟩ := hz
            exact ends S6 fun z7 J7 => ⟨_, _, J7, k6⟩
          | brk =>
            obtain ⟨sg6, H6, S6, k6⟩ := hz
            exact ends S6 fun z7 J7 => ⟨_, _, J7, k6⟩
          | cont =>
            obtain ⟨sg6, H6, S6, k6⟩ := hz
            exact ends S6 fun z7 J7 => ⟨_, _, J7, k6⟩
          | ret u =>
            obtain ⟨v6, sg6, H6, S6, r6, k6⟩ := hz
            exact ends S6 fun z7 J7 => ⟨_, _, _, J7, r6, k6⟩
        | false =>
          show wpAny _ Y.A (handleBy (.ref b) Y.env ks3) _ _ _
          exact ih (no rfl)
    exact go hk w
  · cases f with
    | next =>
      obtain ⟨sg7, H7, J7, k7⟩ := hsp
      exact wpAny_execs_nil ⟨sg7, H7, J7.ofTry okJ, k7⟩
    | brk =>
      obtain ⟨sg7, H7, J7, k7⟩ := hsp
      exact ⟨sg7, H7, J7.ofTry okJ, k7⟩
    | cont =>
      obtain ⟨sg7, H7, J7, k7⟩ := hsp
      exact ⟨sg7, H7, J7.ofTry okJ, k7⟩
    | ret u =>
      obtain ⟨v7, sg7, H7, J7, r7, k7⟩ := hsp
      exact ⟨v7, sg7, H7, J7.ofTry okJ, r7, k7⟩
end
section
variable {g : Gd} {T : Tab} {p : Pd} {cf : Nat → List IV → Hh → R IV} {W : Wx} {c : Cc} {X : Cx}
def tCl (p : Pd) (k : Hc) (f : Str) (a : Addr) (cls : Value) (d : Option Addr) : TS := fun D σ H => cls = .ref (p.cA k.c) ∧ tLst (tPts f a d k.en k.ps) σ H fun x H1 => match k.into with
  | some j => D.nx (σ.set j (some x)) H1
  | none => D.rt x H1
def mCl (g : Gd) (c : Cc) (k : Hc) (f : Str) (s : Stmt) : Bool := match k.into with
  | some j => match s with
    | .Assign [.Name y _] (.List l _) _ => Nat.ble l.length 1000 && (optB (at? c.N j) y && (decide (c.sc.names.lookup y = some .local) && mPts g c.sc c.N k.c k.en f k.ps l))
    | _ => false
  | none => match s with
    | .Return (some (.List l _)) _ => Nat.ble l.length 1000 && mPts g c.sc c.N k.c k.en f k.ps l
    | _ => false
theorem cl_ok (C : CxOk g T p cf W c X) {k : Hc} {x f : Str} (O : ExK g p X k.c x f) {s : Stmt} (h : mCl g c k f s = true) (a : Addr) (oe : Obj) (cls : Value) (d : Option Addr) (pn : List (Addr × Obj)) (hz : Zc cls d oe) (hf : ∃ vs, oe.data = .fields vs) :
    PSs (X.suite a ((a, oe) :: pn)) [s] (tCl p k f a cls d) := by
  refine ⟨fun pins s1 σ H D I z => ?_⟩
  obtain ⟨ec, z⟩ := z
  subst ec
  unfold mCl at h
  cases ek : k.into with
  | some j =>
    rw [ek] at h z
    dsimp only at h
    split at h
    · obtain ⟨h1, t1⟩ := aB h
      obtain ⟨h2, t2⟩ := aB t1
      obtain ⟨h3, h4⟩ := aB t2
      have hl := of_decide_eq_true h3
      have pts := pts_ok C O (a := a) (pn := pn) hz hf h4
      exact (pss_one (ps_set (X := X.suite a ((a, oe) :: pn)) (i := j) C.nd (by show X.N[j]? = _; rw [C.n, ← at_list]; exact optB_ok h2) (.inl (by show X.env.scope.names.lookup _ = _; rw [C.sc]; exact hl)) (pe_lst pts) rfl (.inr (by show X.env.scope.names.lookup _ = _; rw [C.sc]; exact hl)))).run pins s1 σ H D I z
    · cases h
  | none =>
    rw [ek] at h z
    dsimp only at h
    split at h
    · obtain ⟨h1, h4⟩ := aB h
      have pts := pts_ok C O (a := a) (pn := pn) hz hf h4
      exact (pss_one (ps_ret (X := X.suite a ((a, oe) :: pn)) (pe_lst pts))).run pins s1 σ H D I z
    · cases h
def tryK (n : Nat) (hs : List Hc) : RS → RS
  | .exc x r h => clause n x hs r h
  | z => z
def fnm (g : Gd) (k : Hc) : Str := match at? g.exs k.c with
  | some q => q.2.getD Str.empty
  | none => Str.empty
def clD (p : Pd) (g : Gd) (k : Hc) : ClD := (.ref (p.cA k.c), k.en, fun a cls d => tCl p k (fnm g k) a cls d)
def mCls (g : Gd) (c : Cc) : List Hc → List ExceptHandler → Bool
  | [], l => match l with
    | [] => true
    | _ :: _ => false
  | k :: ks, l => match l with
    | .ExceptHandler (some (.Name n _)) (some en) [st] _ :: l => match at? g.exs k.c with
      | some q => decide (q.1 = n) && (glB c.sc n && (nmB n && (optB (at? c.N k.en) en && (decide (c.sc.names.lookup en = some .local) && (mCl g c k (q.2.getD Str.empty) st && (Nat.ble k.ps.length 1000 && mCls g c ks l))))))
      | none => false
    | _ => false
theorem cls_ok (C : CxOk g T p cf W c X) (S : SxOk g p X) : ∀ {hs : List Hc} {hds : List ExceptHandler}, mCls g c hs hds = true → CsOk X hds (hs.map (clD p g))
  | [], l, h => by
    unfold mCls at h
    cases l with
    | nil => exact .nil
    | cons _ _ => cases h
  | k :: ks, l, h => by
    unfold mCls at h
    split at h
    · split at h
      · rename_i q hq
        obtain ⟨h1, t1⟩ := aB h
        obtain ⟨h2, t2⟩ := aB t1
        obtain ⟨h3, t3⟩ := aB t2
        obtain ⟨h4, t4⟩ := aB t3
        obtain ⟨h5, t5⟩ := aB t4
        obtain ⟨h6, t6⟩ := aB t5
        obtain ⟨h7, h8⟩ := aB t6
        obtain ⟨x, fo⟩ := q
        have e1 := of_decide_eq_true h1
        dsimp only at e1 h6
        subst e1
        have O := S.exk k.c x fo hq
        have ef : fnm g k = fo.getD Str.empty := by
          unfold fnm
          rw [hq]
        refine .cons (tc := fun a cls d => tCl p k (fnm g k) a cls d) ⟨gl_ok C h2, (nmB_ok h3).1, .inl O.mg⟩ (by rw [C.n, ← at_list]; exact optB_ok h4) (by show X.env.scope.names.lookup _ = _; rw [C.sc]; exact of_decide_eq_true h5) (fun a oe cls d pn hz hf => ?_) (cls_ok C S h8)
        rw [ef]
        exact cl_ok C O h6 a oe cls d pn hz hf
      · cases h
    · cases h
theorem cls_wish (C : CxOk g T p cf W c X) (S : SxOk g p X) {n : Nat} (hn : n = g.exs.length) {y : Ex} {h' : Hh} {r' : Rho} {σ' : L2.St} {m' : Mp} {H' : Hp} {d : Option Addr} {D : Ends} (s' : RSl p m' H' r' σ') (rh' : RH p m' h' H') (fr : FR p m' H' y d) :
    ∀ {hs : List Hc} {hds : List ExceptHandler}, mCls g c hs hds = true → (hs ≠ [] → y.c < g.exs.length ∨ ∃ k ∈ hs, y.c = k.c) → OkS p W m' H' D (clause n y hs r' h') → wL X.K W D (hs.map (clD p g)) (.ref (p.cA y.c)) d σ' H'
  | [], _, _, _, ok => by
    unfold clause at ok
    exact ok m' H' σ' d Xt.refl s' rh' fr
  | k :: ks, l, h, hy, ok => by
    unfold mCls at h
    split at h
    · split at h
      · rename_i q hq
        obtain ⟨h1, t1⟩ := aB h
        obtain ⟨h2, t2⟩ := aB t1
        obtain ⟨h3, t3⟩ := aB t2
        obtain ⟨h4, t4⟩ := aB t3
        obtain ⟨h5, t5⟩ := aB t4
        obtain ⟨h6, t6⟩ := aB t5
        obtain ⟨hlen, h8⟩ := aB t6
        obtain ⟨x, fo⟩ := q
        have O := S.exk k.c x fo hq
        have hkl : k.c < g.exs.length := by
          rw [at_list] at hq
          exact (List.getElem?_eq_some_iff.mp hq).1
        have ef : fnm g k = p.fN k.c := by
          unfold fnm
          rw [hq]
          exact O.fN.symm
        unfold clause at ok
        cases eb : Nat.beq y.c k.c with
        | true =>
          rw [eb] at ok
          dsimp only at ok
          have ec : y.c = k.c := Nat.eq_of_beq_eq_true eb
          obtain ⟨dk, pk⟩ := ptVs_ok fr
          cases ep : ptVs y.v k.ps with
          | none =>
            rw [ep] at ok
            exact ok.elim
          | some vs =>
            rw [ep] at ok
            dsimp only at ok
            cases en' : newLst h' vs with
            | none =>
              rw [en'] at ok
              exact ok.elim
            | some h2 =>
              rw [en'] at ok
              dsimp only at ok
              cases el : Nat.blt k.en r'.length with
              | false =>
                rw [el] at ok
                exact ok.elim
              | true =>
                rw [el] at ok
                dsimp only at ok
                obtain ⟨Vs, pv, rv⟩ := pk ep
                refine ⟨true, ?_, fun _ a ha => ⟨by rw [ec], ?_⟩, (fun z => nomatch z)⟩
                · show PySem.W.exmOne X.K (.ref (p.cA y.c)) (.ref (p.cA k.c)) = some true
                  rw [ec, S.exm k.c k.c hkl hkl, Nat.beq_refl]
                · have hle : k.en < σ'.length := by
                    rw [s'.1]
                    have : Nat.ble (k.en + 1) r'.length = true := el
                    rwa [Nat.ble_eq] at this
                  have pv : PtVs (fnm g k) d H' k.ps Vs := by
                    rw [ec] at pv
                    rw [ef]
                    exact pv
                  refine ⟨List.getElem?_set_self hle, dk, Vs, pv, ?_, fun q hq => ?_⟩
                  · rw [pv.len]
                    have : k.ps.length ≤ 1000 := by rwa [Nat.ble_eq] at hlen
                    exact Nat.le_trans this (by decide)
                  · obtain ⟨m2, x2, rh2, e2⟩ := rh'.newL hq en' rv
                    cases ei : k.into with
                    | some j =>
                      rw [ei] at ok
                      exact ok m2 _ _ x2 ((s'.mono x2).catch (.ref e2)) rh2
                    | none =>
                      rw [ei] at ok
                      exact ok m2 _ _ x2 rh2 (.ref e2)
        | false =>
          rw [eb] at ok
          dsimp only at ok
          cases el : Nat.blt y.c n with
          | false =>
            rw [el] at ok
            exact ok.elim
          | true =>
            rw [el] at ok
            have yl : y.c < g.exs.length := by
              rw [← hn]
              have : Nat.ble (y.c + 1) n = true := el
              rwa [Nat.ble_eq] at this
            refine ⟨false, ?_, (fun z => nomatch z), fun _ => ?_⟩
            · show PySem.W.exmOne X.K (.ref (p.cA y.c)) (.ref (p.cA k.c)) = some false
              rw [S.exm y.c k.c yl hkl, eb]
            · exact cls_wish C S hn s' rh' fr h8 (fun _ => .inl yl) ok
      · cases h
    · cases h
theorem s_try (C : CxOk g T p cf W c X) (S : SxOk g p X) {n : Nat} (hn : n = g.exs.length) {k : Hc} {hs : List Hc} {hd : ExceptHandler} {hds : List ExceptHandler} {body : List Stmt} {pos : Pos} {Mb : Rho → Hh → RS} (hm : mCls g c (k :: hs) (hd :: hds) = true)
    (hb : ∀ (W' : Wx) (X' : Cx), CxOk g T p cf W' c X' → SxOk g p X' → PSs X' body (rdM p W' Mb)) :
    PS X (.Try body (hd :: hds) [] [] pos) (rdM p W fun r h => tryK n (k :: hs) (Mb r h)) := by
  refine PS.wk (ps_try_l (tb := fun W' => rdM p W' Mb) (Wo := W) S.st S.fr C.nd C.tk (fun W' pn xe tk po => hb W' _ (C.tr tk po) (S.tr pn xe)) (cls_ok C S hm)) fun D σ H z => ?_
  obtain ⟨m, r, h, sl, rh, ok⟩ := z
  refine ⟨m, r, h, sl, rh, ?_⟩
  have ok : OkS p W m H D (tryK n (k :: hs) (Mb r h)) := ok
  cases e : Mb r h with
  | nx _ _ => rw [e] at ok; exact ok
  | brk _ _ => rw [e] at ok; exact ok
  | cont _ _ => rw [e] at ok; exact ok
  | ret _ _ => rw [e] at ok; exact ok
  | fail => rw [e] at ok; exact ok
  | exc y r' h' =>
    rw [e] at ok
    have ok : OkS p W m H D (clause n y (k :: hs) r' h') := ok
    intro m' H' σ' d x' s' rh' fr
    have ok := OkS.ext ok x'
    refine cls_wish C S hn s' rh' fr hm (fun _ => ?_) ok
    unfold clause at ok
    cases eb : Nat.beq y.c k.c with
    | true => exact .inr ⟨k, List.mem_cons_self, Nat.eq_of_beq_eq_true eb⟩
    | false =>
      rw [eb] at ok
      dsimp only at ok
      cases el : Nat.blt y.c n with
      | false =>
        rw [el] at ok
        exact ok.elim
      | true =>
        left
        rw [← hn]
        have : Nat.ble (y.c + 1) n = true := el
        rwa [Nat.ble_eq] at this
end
end
end Rk
namespace Rk
noncomputable section
open PySem PySem.Spec PyProof.Rows L2
def locN (sc : Scope) (x : Str) : Bool := match sc.names.lookup x with
  | some .local => true
  | _ => false
theorem locN_ok {sc : Scope} {x : Str} (h : locN sc x = true) : sc.names.lookup x = some .local := by
  unfold locN at h
  cases e : sc.names.lookup x with
  | none =>
    rw [e] at h
    cases h
  | some k =>
    rw [e] at h
    cases k <;> first | rfl | cases h
def isFun (sc : Scope) : Bool := match sc.kind with
  | .function => true
  | _ => false
theorem isFun_ok {sc : Scope} (h : isFun sc = true) : sc.kind = .function := by
  unfold isFun at h
  cases e : sc.kind <;> rw [e] at h <;> first | rfl | cases h
theorem blk_fun {env : Env} (hk : env.scope.kind = .function) : env.blockKind = .function := by
  unfold Env.blockKind
  rw [hk]
  rfl
theorem plain_mem {e : Expr} : ∀ {l : List Expr}, plainEs l = true → e ∈ l → star e = false
  | [], _, h => by cases h
  | x :: l, hp, h => by
    unfold plainEs at hp
    obtain ⟨h1, h2⟩ := aB hp
    rcases List.mem_cons.mp h with z | z
    · rw [z]
      exact nB h1
    · exact plain_mem h2 z
theorem ne_beq {x y : Str} (h : x ≠ y) : (x == y) = false := by
  cases q : (x == y) with
  | false => rfl
  | true => exact absurd (beq_iff_eq.mp q) h
theorem dups_two {x y : Str} (h : x ≠ y) : [x, y].eraseDups = [x, y] := by
  have e := ne_beq (Ne.symm h)
  simp only [List.eraseDups, List.eraseDupsBy, List.eraseDupsBy.loop, List.any_cons, List.any_nil, Bool.or_false, e, List.reverse_cons, List.reverse_nil, List.nil_append, List.cons_append]
theorem dups_three {x y z : Str} (h : x ≠ y) (h2 : x ≠ z) (h3 : y ≠ z) : [x, y, z].eraseDups = [x, y, z] := by
  have e := ne_beq (Ne.symm h)
  have e2 := ne_beq (Ne.symm h2)
  have e3 := ne_beq (Ne.symm h3)
  simp only [List.eraseDups, List.eraseDupsBy, List.eraseDupsBy.loop, List.any_cons, List.any_nil, Bool.or_false, e, e2, e3, List.reverse_cons, List.reverse_nil, List.nil_append, List.cons_append]
theorem sw_two {env : Env} {x y : Str} {a b : Expr} {px py pt pt2 : Pos} {kt k2 : Nat} (hk : env.scope.kind = .function) (hx : env.scope.names.lookup x = some .local) (hy : env.scope.names.lookup y = some .local) (hl : (py.line == px.line) = true) (hxy : x ≠ y)
    (hp : plainEs [a, b] = true) (h1 : [a, b].all (foldedForSure 8) = false) (h2 : [a, b].all (constantsAlone 8) = false) :
    swappedStores [.Tuple [.Name x px, .Name y py] kt pt] (.Tuple [a, b] k2 pt2) env = pure (some [x, y]) := by
  have b1 := blk_fun hk
  have kx : env.kindOf x = some .local := hx
  have ky : env.kindOf y = some .local := hy
  unfold swappedStores
  dsimp only
  refine Eq.trans (if_neg ?_) ?_
  · intro h
    rw [b1] at h
    cases h
  refine Eq.trans (if_neg ?_) ?_
  · intro h
    obtain ⟨e, he, hs⟩ := List.any_eq_true.mp h
    have z := plain_mem hp he
    cases e <;> first | (cases hs; done) | cases z
  generalize hN : List.filterMap _ [Expr.Name x px, Expr.Name y py] = N
  have eN : N = [x, y] := by
    rw [← hN]
    have hr : (px.line == px.line) = true := beq_self_eq_true _
    simp only [List.filterMap_cons, List.filterMap_nil, kx, ky, List.head?_cons, Option.map_some, Option.getD_some, Expr.pos, hr, hl, beq_self_eq_true, Bool.and_self, if_true]
  subst eN
  refine Eq.trans (if_neg ?_) ?_
  · intro h
    rw [dups_two hxy] at h
    cases h
  refine Eq.trans (if_neg ?_) ?_
  · intro h
    rw [h1] at h
    cases h
  refine Eq.trans (if_neg ?_) rfl
  intro h
  rw [h2] at h
  cases h
theorem sw_three {env : Env} {x y z : Str} {a b d : Expr} {px py pz pt pt2 : Pos} {kt k2 : Nat} (hk : env.scope.kind = .function) (hx : env.scope.names.lookup x = some .local) (hy : env.scope.names.lookup y = some .local) (hz : env.scope.names.lookup z = some .local)
    (hl : (py.line == px.line) = true) (hl2 : (pz.line == px.line) = true) (hxy : x ≠ y) (hxz : x ≠ z) (hyz : y ≠ z) (hp : plainEs [a, b, d] = true) (h1 : [a, b, d].all (foldedForSure 8) = false) (h2 : [a, b, d].all (constantsAlone 8) = false) :
    swappedStores [.Tuple [.Name x px, .Name y py, .Name z pz] kt pt] (.Tuple [a, b, d] k2 pt2) env = pure (some [x, y, z]) := by
  have b1 := blk_fun hk
  have kx : env.kindOf x = some .local := hx
  have ky : env.kindOf y = some .local := hy
  have kz : env.kindOf z = some .local := hz
  unfold swappedStores
  dsimp only
  refine Eq.trans (if_neg ?_) ?_
  · intro h
    rw [b1] at h
    cases h
  refine Eq.trans (if_neg ?_) ?_
  · intro h
    obtain ⟨e, he, hs⟩ := List.any_eq_true.mp h
    have q := plain_mem hp he
    cases e <;> first | (cases hs; done) | cases q
  generalize hN : List.filterMap _ [Expr.Name x px, Expr.Name y py, Expr.Name z pz] = N
  have eN : N = [x, y, z] := by
    rw [← hN]
    have hr : (px.line == px.line) = true := beq_self_eq_true _
    simp only [List.filterMap_cons, List.filterMap_nil, kx, ky, kz, List.head?_cons, Option.map_some, Option.getD_some, Expr.pos, hr, hl, hl2, beq_self_eq_true, Bool.and_self, if_true]
  subst eN
  refine Eq.trans (if_neg ?_) ?_
  · intro h
    rw [dups_three hxy hxz hyz] at h
    cases h
  refine Eq.trans (if_neg ?_) ?_
  · intro h
    rw [h1] at h
    cases h
  refine Eq.trans (if_neg ?_) rfl
  intro h
  rw [h2] at h
  cases h
theorem iteS {α : Type} {c : Prop} [Decidable c] {a b r : α} (h1 : a = r) (h2 : b = r) : (if c then a else b) = r := by
  by_cases h : c
  · rw [if_pos h]
    exact h1
  · rw [if_neg h]
    exact h2
theorem sw_fold {env : Env} {ts vs : List Expr} {pt pt2 : Pos} {kt k2 : Nat} (h1 : vs.all (foldedForSure 8) = true) : swappedStores [.Tuple ts kt pt] (.Tuple vs k2 pt2) env = pure none := by
  unfold swappedStores
  dsimp only
  refine iteS rfl (iteS rfl (iteS rfl (if_pos h1)))
section
variable {g : Gd} {T : Tab} {p : Pd} {cf : Nat → List IV → Hh → R IV} {W : Wx} {c : Cc} {X : Cx}
def swK (is : List Nat) (r : Rho) (vs : List IV) (h : Hh) : RS := match asgs (is.map .nm) vs r h with
  | some r => .nx r h
  | none => .fail
theorem s_swF (C : CxOk g T p cf W c X) {is : List Nat} {ts vs : List Expr} {pt pt2 pos : Pos} {kt k2 : Nat} {Ms : Rho → Hh → R (List IV)} (hp : plainEs vs = true) (h1 : vs.all (foldedForSure 8) = true) (hl : vs.length ≤ 1000) (ln : Ln Ms vs.length)
    (hg : PG X (.Tuple ts kt pt) (gA p (.tp (is.map .nm)))) (ha : PA X vs (rdA p W Ms)) : PS X (.Assign [.Tuple ts kt pt] (.Tuple vs k2 pt2) pos) (rdM p W fun r h => (Ms r h).st r (swK is r)) := by
  refine PS.wk (ps_asg (n_tup (p := p) (W := W) (k := k2) (pos := pt2) ha hl ln) hg rfl (sw_fold h1) rfl) fun D σ H z => ?_
  obtain ⟨m, r, h, s, t, ok⟩ := z
  have z2 : rdM p W (fun r h => ((Ms r h).bd fun vs h => R.ok (.tup vs) h).st r (asgK (.tp (is.map .nm)) r)) D σ H := by
    refine ⟨m, r, h, s, t, ?_⟩
    dsimp only at ok ⊢
    cases e : Ms r h with
    | fail => rw [e] at ok; exact ok
    | exc _ _ => rw [e] at ok; exact ok
    | ok as h' => rw [e] at ok; exact ok
  obtain ⟨m, r, h, s, t1, o⟩ := rdM.st (rel := RV p) (k := asgK (.tp (is.map .nm))) z2
  exact ⟨m, r, h, s, t1, o.mono fun V H1 ⟨m1, r1, h1, a, s1, t2, rv, ok⟩ => asgK_ok s1 t2 rv ok⟩
theorem s_sw2 (C : CxOk g T p cf W c X) (hc : c.calm = true) {i j : Nat} {x y : Str} {a b : Expr} {px py pt pt2 pos : Pos} {kt k2 : Nat} {Ms : Rho → Hh → R (List IV)} (hi : at? c.N i = some x) (hj : at? c.N j = some y) (hij : i ≠ j) (hk : c.sc.kind = .function)
    (hx : c.sc.names.lookup x = some .local) (hy : c.sc.names.lookup y = some .local) (hl : (py.line == px.line) = true) (hxy : x ≠ y) (hp : plainEs [a, b] = true) (h1 : [a, b].all (foldedForSure 8) = false) (h2 : [a, b].all (constantsAlone 8) = false)
    (ha : PA X [a, b] (rdA p W Ms)) : PS X (.Assign [.Tuple [.Name x px, .Name y py] kt pt] (.Tuple [a, b] k2 pt2) pos) (rdM p W fun r h => (Ms r h).st r (swK [i, j] r)) := by
  refine PS.wk (ps_par (C.calm hc) C.nd (by rw [C.n, ← at_list]; exact hi) (by rw [C.n, ← at_list]; exact hj) hij (by rw [C.sc]; exact hx) (by rw [C.sc]; exact hy) ha (sw_two (by rw [C.sc]; exact hk) (by rw [C.sc]; exact hx) (by rw [C.sc]; exact hy) hl hxy hp h1 h2) rfl) fun D σ H z => ?_
  obtain ⟨m, r, h, s, t, o⟩ := rdM.st (rel := RVs p) (k := swK [i, j]) z
  refine ⟨m, r, h, s, t, o.mono fun vs H1 w => ?_⟩
  obtain ⟨m1, r1, h1, as, s1, t1, rv, ok⟩ := w
  cases rv with
  | nil => exact ok.elim
  | cons q1 rv =>
    cases rv with
    | nil => exact ok.elim
    | cons q2 rv =>
      cases rv with
      | cons _ _ => exact ok.elim
      | nil => exact ⟨_, _, rfl, ok m1 H1 _ Xt.refl ((s1.put q1).put q2) t1⟩
theorem s_sw3 (C : CxOk g T p cf W c X) (hc : c.calm = true) {i j l : Nat} {x y z : Str} {a b d : Expr} {px py pz pt pt2 pos : Pos} {kt k2 : Nat} {Ms : Rho → Hh → R (List IV)} (hi : at? c.N i = some x) (hj : at? c.N j = some y) (hl0 : at? c.N l = some z) (hij : i ≠ j) (hil : i ≠ l) (hjl : j ≠ l) (hk : c.sc.kind = .function)
    (hx : c.sc.names.lookup x = some .local) (hy : c.sc.names.lookup y = some .local) (hz : c.sc.names.lookup z = some .local) (hl : (py.line == px.line) = true) (hl2 : (pz.line == px.line) = true) (hxy : x ≠ y) (hxz : x ≠ z) (hyz : y ≠ z) (hp : plainEs [a, b, d] = true)
    (h1 : [a, b, d].all (foldedForSure 8) = false) (h2 : [a, b, d].all (constantsAlone 8) = false) (ha : PA X [a, b, d] (rdA p W Ms)) :
    PS X (.Assign [.Tuple [.Name x px, .Name y py, .Name z pz] kt pt] (.Tuple [a, b, d] k2 pt2) pos) (rdM p W fun r h => (Ms r h).st r (swK [i, j, l] r)) := by
  refine PS.wk (ps_par3 (C.calm hc) C.nd (by rw [C.n, ← at_list]; exact hi) (by rw [C.n, ← at_list]; exact hj) (by rw [C.n, ← at_list]; exact hl0) hij hil hjl (by rw [C.sc]; exact hx) (by rw [C.sc]; exact hy) (by rw [C.sc]; exact hz) ha (sw_three (by rw [C.sc]; exact hk) (by rw [C.sc]; exact hx) (by rw [C.sc]; exact hy) (by rw [C.sc]; exact hz) hl hl2 hxy hxz hyz hp h1 h2) rfl) fun D σ H z => ?_
  obtain ⟨m, r, h, s, t, o⟩ := rdM.st (rel := RVs p) (k := swK [i, j, l]) z
  refine ⟨m, r, h, s, t, o.mono fun vs H1 w => ?_⟩
  obtain ⟨m1, r1, h1, as, s1, t1, rv, ok⟩ := w
  cases rv with
  | nil => exact ok.elim
  | cons q1 rv =>
    cases rv with
    | nil => exact ok.elim
    | cons q2 rv =>
      cases rv with
      | nil => exact ok.elim
      | cons q3 rv =>
        cases rv with
        | cons _ _ => exact ok.elim
        | nil => exact ⟨_, _, _, rfl, ok m1 H1 _ Xt.refl (((s1.put q1).put q2).put q3) t1⟩
end
end
end Rk
namespace Rk
noncomputable section
open PySem PySem.Spec PyProof.Rows L2
def gU1 (p : Pd) (W : Wx) (M : IV → Rho → Hh → RS) : TG := fun v σ H Q => ∃ m r h x, RSl p m H r σ ∧ RH p m h H ∧ RV p m H x v ∧ ∃ D : Ends, D.nx = Q ∧ OkS p W m H D (M x r h)
def gUs (p : Pd) (W : Wx) (M : List IV → Rho → Hh → RS) : TGs := fun vs σ H Q => ∃ m r h xs, RSl p m H r σ ∧ RH p m h H ∧ RVs p m H xs vs ∧ ∃ D : Ends, D.nx = Q ∧ OkS p W m H D (M xs r h)
def gFld (K : PySem.W.Frag) (to : TE) (f : Str) : TG := fun y σ H Q => to σ H fun x H2 => ∃ a C dx fs, x = .ref a ∧ H2 a = some (.ins C dx fs) ∧ Cls K C ∧ NoAttr K C f ∧ fs.length < 1000 ∧ Q σ (upd H2 a (.ins C dx (putF f y fs)))
theorem pg_fld {X : Cx} {o : Expr} {to : TE} {f : Str} {pos : Pos} (ho : PE X o to) : PG X (.Attribute o f pos) (gFld X.K to f) := by
  refine ⟨fun pins s σ H v u Q I r h => ?_⟩
  rw [assign_Attribute]
  refine wpAny_bind (wpAny_holding (thn (ho.run pins s σ H _ I h) fun ov s1 w => ?_))
  obtain ⟨x, H1, I1, r1, a, C, dx, fs, ex, ea, c, n, l, q⟩ := w
  subst ex
  obtain rfl : ov = Value.ref a := r1
  refine wpAny_bind (wpAny_standAt (wpAny_bind (wpAny_holding (setattr_ok I1 ea c n l r fun s2 I2 => ?_))))
  exact wpAny_release ⟨σ, _, I2, q⟩
section
variable {g : Gd} {T : Tab} {p : Pd} {cf : Nat → List IV → Hh → R IV} {W : Wx} {c : Cc} {X : Cx}
theorem u_name (C : CxOk g T p cf W c X) {i : Nat} {x : Str} {pos : Pos} (hx : at? c.N i = some x) (hl : locB c x = true) : PG X (.Name x pos) (gU1 p W (st2 T cf (.nm i))) := by
  obtain ⟨l1, l2⟩ := locB_ok C hl
  refine PG.wk (pg_name (i := i) C.nd (by rw [C.n, ← at_list]; exact hx) l1 l2) fun v σ H Q z => ?_
  obtain ⟨m, r, h, x, s, t, rv, D, rfl, ok⟩ := z
  exact ok m H _ Xt.refl (s.put rv) t
theorem u_fld (C : CxOk g T p cf W c X) {o : Expr} {f : Nat} {nm : Str} {eo : E} {pos : Pos} (hf : at? g.flds f = some nm) (ho : PE X o (rdE p W (ev T cf eo))) : PG X (.Attribute o nm pos) (gU1 p W (st2 T cf (.fld eo f))) := by
  refine PG.wk (pg_fld ho) fun v σ H Q z => ?_
  obtain ⟨m, r, h, x, s, t, rv, D, rfl, ok⟩ := z
  refine ⟨m, r, h, s, t, (OkS.st (rel := RV p) (M := ev T cf eo) (k := fun y h => nxO r (fset y f x h)) s ok).mono fun U H2 w => ?_⟩
  obtain ⟨m2, h2, y, x2, t2, ry, ok2⟩ := w
  obtain ⟨h', e1, ok3⟩ := nxO_some ok2
  obtain ⟨a, k, dx, gs, rfl, e2, e3, e4, e5, xt, rh'⟩ := fset_ok C t2 hf ry (rv.mono x2) e1
  exact ⟨a, _, dx, gs, rfl, e2, e3, e4, e5, ok3 m2 _ σ xt ((s.mono x2).mono xt) rh'⟩
theorem u_sub (C : CxOk g T p cf W c X) {o i : Expr} {eo ei : E} {pos : Pos} (hns : noSlice i = true) (ho : PE X o (rdE p W (ev T cf eo))) (hi : PE X i (rdE p W (ev T cf ei))) : PG X (.Subscript o i pos) (gU1 p W (st2 T cf (.sub eo ei))) := by
  refine PG.wk (pg_sub ho hi (set_all C.un) (by intro v; cases i <;> first | rfl | cases hns)) fun v σ H Q z => ?_
  obtain ⟨m, r, h, x, s, t, rv, D, rfl, ok⟩ := z
  refine ⟨m, r, h, s, t, (OkS.st (rel := RV p) (M := ev T cf eo) (k := fun y h => (ev T cf ei r h).st r fun z h => nxO r (setAt y z x h)) s ok).mono fun U H2 w => ?_⟩
  obtain ⟨m2, h2, y, x2, t2, ry, ok2⟩ := w
  refine ⟨m2, r, h2, s.mono x2, t2, (OkS.st (rel := RV p) (M := ev T cf ei) (k := fun z h => nxO r (setAt y z x h)) (s.mono x2) ok2).mono fun Y H3 w3 => ?_⟩
  obtain ⟨m3, h3, z, x3, t3, rz, ok3⟩ := w3
  exact subK_ok ((s.mono x2).mono x3) t3 ((rv.mono x2).mono x3) (ry.mono x3) rz ok3
theorem us_nil : PGs X [] (gUs p W (st2s T cf [])) := PGs.wk pgs_nil fun vs σ H Q z => by
  obtain ⟨m, r, h, xs, s, t, rv, D, rfl, ok⟩ := z
  cases rv with
  | cons _ _ => exact ok.elim
  | nil => exact ⟨rfl, ok m H σ Xt.refl s t⟩
theorem us_cons {e : Expr} {es : List Expr} {t : T2} {ts : List T2} (hs : star e = false) (h1 : PG X e (gU1 p W (st2 T cf t))) (h2 : PGs X es (gUs p W (st2s T cf ts))) : PGs X (e :: es) (gUs p W (st2s T cf (t :: ts))) := by
  refine PGs.wk (pgs_cons h1 h2 (by rw [asgE_cons hs]; rfl)) fun vs σ H Q z => ?_
  obtain ⟨m, r, h, xs, s, tt, rv, D, rfl, ok⟩ := z
  cases rv with
  | nil => exact ok.elim
  | @cons x v xs vs rv1 rvs =>
    refine ⟨v, vs, rfl, m, r, h, x, s, tt, rv1, { D with nx := fun σ' H' => gUs p W (st2s T cf ts) vs σ' H' D.nx }, rfl, ?_⟩
    have ok : OkS p W m H D (sq (st2 T cf t x r h) fun r h => st2s T cf ts xs r h) := ok
    cases q : st2 T cf t x r h with
    | nx r1 h1 =>
      rw [q] at ok
      exact fun m' H' σ' xt sl rh => ⟨m', r1, h1, xs, sl, rh, rvs.mono xt, D, rfl, OkS.ext ok xt⟩
    | brk _ _ => rw [q] at ok; exact ok
    | cont _ _ => rw [q] at ok; exact ok
    | ret _ _ => rw [q] at ok; exact ok
    | exc _ _ _ => rw [q] at ok; exact ok
    | fail => rw [q] at ok; exact ok.elim
theorem u_tup (C : CxOk g T p cf W c X) (hc : c.calm = true) {es : List Expr} {kq n : Nat} {pos : Pos} {k : List IV → Rho → Hh → RS} (h : PGs X es (gUs p W k)) (hl : es.length = n) (hs : plainEs es = true) :
    PG X (.Tuple es kq pos) (gU1 p W fun v r h => unpK n k r v h) := by
  refine ⟨fun pn s σ H v u Q I r z => ?_⟩
  obtain ⟨m, rr, h1, x, sl, t, rv, D, rfl, ok⟩ := z
  have ok : OkS p W m H D (unpK n k rr x h1) := ok
  unfold unpK at ok
  cases ei : items x h1 with
  | none =>
    rw [ei] at ok
    exact ok.elim
  | some xs =>
    rw [ei] at ok
    dsimp only at ok
    cases el : Nat.beq (lenR xs) n with
    | false =>
      rw [el] at ok
      exact ok.elim
    | true =>
      rw [el] at ok
      have ln : xs.length = es.length := by rw [← lenR_eq, Nat.eq_of_beq_eq_true el, hl]
      obtain ⟨a, vs, rfl, sq, rvs⟩ := items_ok t rv ei
      rcases sq with sq | sq
      · exact (pg_tup (C.calm hc) h (by rw [asgE_len]) (asgE_no hs)).run pn s σ H _ u _ I r ⟨_, _, rfl, by rw [C.K]; exact sq, by rw [← rvs.length, ln], m, rr, h1, _, sl, t, rvs, D, rfl, ok⟩
      · exact (pg_lst (C.calm hc) h (by rw [asgE_len]) (asgE_no hs)).run pn s σ H _ u _ I r ⟨_, vs, rfl, .inl (.inl sq), by rw [← rvs.length, ln], m, rr, h1, xs, sl, t, rvs, D, rfl, ok⟩
def locK (sc : Scope) (line : Nat) : Expr → Option Str
  | .Name id pos => if sc.names.lookup id == some .local && pos.line == line then some id else none
  | _ => none
def swNo (sc : Scope) (ts : List Expr) : Expr → Bool
  | .Tuple vs _ _ => (!(ts.length == 2 || ts.length == 3) || vs.length != ts.length) || (vs.any star || (ts.filterMap (locK sc ((ts.head?.map (·.pos.line)).getD 0))).length != ts.length)
  | _ => true
theorem swNo_ok {env : Env} {ts : List Expr} {kt : Nat} {pt : Pos} {v : Expr} (h : swNo env.scope ts v = true) : swappedStores [.Tuple ts kt pt] v env = pure none := by
  cases v <;> first | rfl | skip
  rename_i vs k2 pt2
  unfold swNo at h
  unfold swappedStores
  dsimp only
  rw [Bool.or_eq_true] at h
  rcases h with h | h
  · refine if_pos ?_
    rw [Bool.or_eq_true]
    exact .inl h
  · refine iteS rfl ?_
    rw [Bool.or_eq_true] at h
    rcases h with h | h
    · refine if_pos ?_
      obtain ⟨e, he, hs⟩ := List.any_eq_true.mp h
      exact List.any_eq_true.mpr ⟨e, he, by cases e <;> first | rfl | cases hs⟩
    · refine iteS rfl (if_pos ?_)
      rw [Bool.or_eq_true]
      left
      refine Eq.trans ?_ h
      congr 3
def swNoT (sc : Scope) (tg v : Expr) : Bool := match tg with
  | .Tuple ts _ _ => swNo sc ts v
  | _ => false
theorem sn_ok {tg v : Expr} {env : Env} (h : (isName tg || (!isTupE v || swNoT env.scope tg v)) = true) : swappedStores [tg] v env = pure none := by
  rw [Bool.or_eq_true, Bool.or_eq_true] at h
  rcases h with h | h | h
  · exact sw_none (by rw [h]; rfl)
  · exact sw_none (by rw [h, Bool.or_true])
  · unfold swNoT at h
    split at h
    · exact swNo_ok h
    · cases h
theorem sw_cell {e : Expr} {x : Str} {px : Pos} {l : Nat} {env : Env} (h : locN env.scope x = false) : swapsWith e (some (.Name x px)) l env = pure false := by
  have k : (env.kindOf x == some .local) = false := by
    show (env.scope.names.lookup x == some .local) = false
    unfold locN at h
    cases q : env.scope.names.lookup x with
    | none => rfl
    | some z =>
      rw [q] at h
      cases z <;> first | rfl | cases h
  cases e <;> first | rfl | skip
  all_goals
    unfold swapsWith
    simp [k]
theorem s_unp (C : CxOk g T p cf W c X) (hc : c.calm = true) {ts : List Expr} {kt : Nat} {pt pos : Pos} {v : Expr} {M : Rho → Hh → R IV} {us : List T2} (hl : ts.length = us.length) (hs : plainEs ts = true) (hw : swNo c.sc ts v = true)
    (hg : PGs X ts (gUs p W (st2s T cf us))) (he : PE X v (rdE p W M)) : PS X (.Assign [.Tuple ts kt pt] v pos) (rdM p W fun r h => (M r h).st r (unpK us.length (st2s T cf us) r)) := by
  refine PS.wk (ps_asg he (u_tup C hc hg hl hs) (show swapsWith v (some (.Tuple ts kt pt)) pos.line X.env = pure false from sw_t rfl) (swNo_ok (by rw [C.sc]; exact hw)) rfl) fun D σ H z => ?_
  obtain ⟨m, r, h, s, t1, o⟩ := rdM.st (rel := RV p) (k := fun r v h => unpK us.length (st2s T cf us) r v h) z
  refine ⟨m, r, h, s, t1, o.mono fun V H1 w => ?_⟩
  obtain ⟨m1, r1, h1, a, s1, t2, rv, ok⟩ := w
  exact ⟨m1, r1, h1, a, s1, t2, rv, D, rfl, ok⟩
end
end
end Rk
namespace Rk
noncomputable section
open PySem PySem.Spec PyProof.Rows L2
def mSw (g : Gd) (is : List Nat) (es : List E) (c : Cc) (t v : Expr) : Bool := match t with
  | .Tuple ts kt pt => match v with
    | .Tuple vs _ _ => isFun c.sc && (mEs g es c vs && (Nat.ble vs.length 1000 && (match vs.all (foldedForSure 8) with
      | true => mTg (.tp (is.map .nm)) c (.Tuple ts kt pt)
      | false => !vs.all (constantsAlone 8) && (match is with
        | [i, j] => match ts with
          | [.Name x px, .Name y py] => decide (vs.length = 2) && (optB (at? c.N i) x && (optB (at? c.N j) y && (decide (i ≠ j) && (locN c.sc x && (locN c.sc y && ((py.line == px.line) && decide (x ≠ y)))))))
          | _ => false
        | [i, j, l] => match ts with
          | [.Name x px, .Name y py, .Name z pz] => decide (vs.length = 3) && (optB (at? c.N i) x && (optB (at? c.N j) y && (optB (at? c.N l) z && (decide (i ≠ j) && (decide (i ≠ l) && (decide (j ≠ l) && (locN c.sc x && (locN c.sc y && (locN c.sc z && ((py.line == px.line) && ((pz.line == px.line) && (decide (x ≠ y) && (decide (x ≠ z) && decide (y ≠ z))))))))))))))
          | _ => false
        | _ => false))))
    | _ => false
  | _ => false
def mT2 (g : Gd) (t : T2) (c : Cc) (e : Expr) : Bool := match t with
  | .nm i => match e with
    | .Name x _ => optB (at? c.N i) x && locB c x
    | _ => false
  | .fld o f => match e with
    | .Attribute x n _ => optB (at? g.flds f) n && mE g o c x
    | _ => false
  | .sub o i => match e with
    | .Subscript x y _ => noSlice y && (mE g o c x && mE g i c y)
    | _ => false
def mT2s (g : Gd) : List T2 → Cc → List Expr → Bool
  | [], _, l => exNil l
  | t :: ts, c, l => match l with
    | [] => false
    | e :: l => !star e && (mT2 g t c e && mT2s g ts c l)
mutual
def mS (g : Gd) : S → Cc → Stmt → Bool
  | .set i e, c, s => match s with
    | .Assign [.Name x px] v _ => match v with
      | .ListComp el gs scope vp => match locN c.sc x with
        | true => optB (at? c.N i) x && (locN c.sc x && (isFun c.sc && ((px.line == vp.line) && (!(scope.names.any fun (n, k) => n == x && (k == .local || k == .cell)) && mE g e c (.ListComp el gs scope vp)))))
        | false => optB (at? c.N i) x && (locB c x && mE g e c (.ListComp el gs scope vp))
      | _ => noComp v && (optB (at? c.N i) x && (locB c x && mE g e c v))
    | _ => false
  | .asg t e, c, s => match s with
    | .Assign [tg] v _ => (noComp v || !isName tg) && ((isName tg || (!isTupE v || swNoT c.sc tg v)) && (!star tg && (mTg t c tg && mE g e c v)))
    | _ => false
  | .swap is es, c, s => match s with
    | .Assign [t] v _ => mSw g is es c t v
    | _ => false
  | .sub o i e, c, s => match s with
    | .Assign [.Subscript x y _] v _ => noSlice y && (mE g e c v && (mE g o c x && mE g i c y))
    | _ => false
  | .aug i o e, c, s => match s with
    | .AugAssign (.Name x _) op v _ => decide (op = opX o) && (optB (at? c.N i) x && (locB c x && mE g e c v))
    | _ => false
  | .augS a i o e, c, s => match s with
    | .AugAssign (.Subscript x y _) op v _ => decide (op = opX o) && (noSlice y && (mE g a c x && (mE g i c y && mE g e c v)))
    | _ => false
  | .exp e, c, s => match s with
    | .Expr v _ => noComp v && mE g e c v
    | _ => false
  | .ret e, c, s => match s with
    | .Return (some v) _ => mE g e c v
    | _ => false
  | .pass, _, s => match s with
    | .Pass _ => true
    | _ => false
  | .brk, _, s => match s with
    | .Break _ => true
    | _ => false
  | .cont, _, s => match s with
    | .Continue _ => true
    | _ => false
  | .ifs e a b, c, s => match s with
    | .If v x y _ => mE g e c v && (mSs g a c x && mSs g b c y)
    | _ => false
  | .whl e b, c, s => match s with
    | .While v x [] _ => mE g e c v && mSs g b c x
    | _ => false
  | .fors t it b, c, s => match s with
    | .For tg iter x [] _ => noSet iter && (mTg t c tg && (mI g it c tg iter && mSs g b c x))
    | _ => false
  | .rais i as, c, s => match s with
    | .Raise (some (.Call (.Name x _) l [] _)) none _ => match at? g.exs i with
      | some (y, fo) => match fo with
        | some _ => match l with
          | [e] => decide (y = x) && (glB c.sc x && (nmB x && (!star e && mEs g as c [e])))
          | _ => false
        | none => match l with
          | [] => decide (y = x) && (glB c.sc x && (nmB x && mEs g as c []))
          | _ => false
      | none => false
    | _ => false
  | .tryx b hs, c, s => match s with
    | .Try x (hd :: hds) [] [] _ => match hs with
      | k :: ks => mCls g c (k :: ks) (hd :: hds) && mSs g b c x
      | [] => false
    | _ => false
  | .fld o f e, c, s => match s with
    | .Assign [.Attribute x n _] v _ => optB (at? g.flds f) n && (mE g e c v && mE g o c x)
    | _ => false
  | .augF o f op e, c, s => match s with
    | .AugAssign (.Attribute x n _) q v _ => decide (q = opX op) && (optB (at? g.flds f) n && (mE g o c x && mE g e c v))
    | _ => false
  | .unp us e, c, s => match s with
    | .Assign [.Tuple ts _ _] v _ => swNo c.sc ts v && (mT2s g us c ts && mE g e c v)
    | _ => false
  | .del a i, c, s => match s with
    | .Delete [.Subscript x y _] _ => mE g a c x && mE g i c y
    | _ => false
def mSs (g : Gd) : List S → Cc → List Stmt → Bool
  | [], _, l => match l with
    | [] => true
    | _ :: _ => false
  | a :: as, c, l => match l with
    | [] => false
    | s :: l => mS g a c s && mSs g as c l
end
section
variable {g : Gd} {T : Tab} {p : Pd} {cf : Nat → List IV → Hh → R IV}
theorem sSw {is : List Nat} {es : List E} {c : Cc} {t v : Expr} {pos : Pos} (h : mSw g is es c t v = true) (hc : c.calm = true) {W : Wx} {X : Cx} (C : CxOk g T p cf W c X) : PS X (.Assign [t] v pos) (rdM p W fun r h => (evs T cf es r h).st r (swK is r)) := by
  unfold mSw at h
  split at h
  · split at h
    · rename_i ts kt pt vs k2 pt2
      obtain ⟨h1, t1⟩ := aB h
      obtain ⟨h2, t2⟩ := aB t1
      obtain ⟨h3, h4⟩ := aB t2
      have hk := isFun_ok h1
      have ha := sEs (T := T) (cf := cf) (p := p) es c vs h2 hc W X C
      obtain ⟨l1, l2⟩ := mEs_len h2
      have ln : Ln (evs T cf es) vs.length := fun r h as h' q => by
        rw [l1]
        exact evs_len q
      cases ef : vs.all (foldedForSure 8) with
      | true =>
        rw [ef] at h4
        exact s_swF C l2 ef (by rwa [Nat.ble_eq] at h3) ln (sTg _ c _ h4 hc W X C) ha
      | false =>
        rw [ef] at h4
        dsimp only at h4
        obtain ⟨h5, h6⟩ := aB h4
        have ec := nB h5
        split at h6
        · split at h6
          · obtain ⟨k1, t1⟩ := aB h6
            obtain ⟨k2, t2⟩ := aB t1
            obtain ⟨k3, t3⟩ := aB t2
            obtain ⟨k4, t4⟩ := aB t3
            obtain ⟨k5, t5⟩ := aB t4
            obtain ⟨k6, t6⟩ := aB t5
            obtain ⟨k7, k8⟩ := aB t6
            have hl := of_decide_eq_true k1
            match vs, hl with
            | [a, b], _ => exact s_sw2 C hc (optB_ok k2) (optB_ok k3) (of_decide_eq_true k4) hk (locN_ok k5) (locN_ok k6) k7 (of_decide_eq_true k8) l2 ef ec ha
          · cases h6
        · split at h6
          · obtain ⟨k1, t1⟩ := aB h6
            obtain ⟨k2, t2⟩ := aB t1
            obtain ⟨k3, t3⟩ := aB t2
            obtain ⟨k4, t4⟩ := aB t3
            obtain ⟨k5, t5⟩ := aB t4
            obtain ⟨k6, t6⟩ := aB t5
            obtain ⟨k7, t7⟩ := aB t6
            obtain ⟨k8, t8⟩ := aB t7
            obtain ⟨k9, t9⟩ := aB t8
            obtain ⟨k10, t10⟩ := aB t9
            obtain ⟨k11, t11⟩ := aB t10
            obtain ⟨k12, t12⟩ := aB t11
            obtain ⟨k13, t13⟩ := aB t12
            obtain ⟨k14, k15⟩ := aB t13
            have hl := of_decide_eq_true k1
            match vs, hl with
            | [a, b, d], _ => exact s_sw3 C hc (optB_ok k2) (optB_ok k3) (optB_ok k4) (of_decide_eq_true k5) (of_decide_eq_true k6) (of_decide_eq_true k7) hk (locN_ok k8) (locN_ok k9) (locN_ok k10) k11 k12 (of_decide_eq_true k13) (of_decide_eq_true k14) (of_decide_eq_true k15) l2 ef ec ha
          · cases h6
        · cases h6
    · cases h
  · cases h
theorem sT2 {t : T2} {c : Cc} {e : Expr} (h : mT2 g t c e = true) (hc : c.calm = true) {W : Wx} {X : Cx} (C : CxOk g T p cf W c X) : PG X e (gU1 p W (st2 T cf t)) := by
  unfold mT2 at h
  cases t with
  | nm i =>
    dsimp only at h
    split at h
    · obtain ⟨h1, h2⟩ := aB h
      exact u_name C (optB_ok h1) h2
    · cases h
  | fld o f =>
    dsimp only at h
    split at h
    · obtain ⟨h1, h2⟩ := aB h
      exact u_fld C (optB_ok h1) (sE o c _ h2 hc W X C).1
    · cases h
  | sub o i =>
    dsimp only at h
    split at h
    · obtain ⟨h1, t1⟩ := aB h
      obtain ⟨h2, h3⟩ := aB t1
      exact u_sub C h1 (sE o c _ h2 hc W X C).1 (sE i c _ h3 hc W X C).1
    · cases h
theorem sT2s : ∀ {us : List T2} {c : Cc} {l : List Expr}, mT2s g us c l = true → c.calm = true → ∀ {W : Wx} {X : Cx}, CxOk g T p cf W c X → PGs X l (gUs p W (st2s T cf us)) ∧ l.length = us.length ∧ plainEs l = true
  | [], c, l, h, hc, W, X, C => by
    unfold mT2s at h
    cases l with
    | nil => exact ⟨us_nil, rfl, rfl⟩
    | cons _ _ => cases h
  | t :: ts, c, l, h, hc, W, X, C => by
    unfold mT2s at h
    cases l with
    | nil => cases h
    | cons e l =>
      obtain ⟨h1, t1⟩ := aB h
      obtain ⟨h2, h3⟩ := aB t1
      obtain ⟨r1, r2, r3⟩ := sT2s h3 hc C
      refine ⟨us_cons (nB h1) (sT2 h2 hc C) r1, by show l.length + 1 = ts.length + 1; rw [r2], ?_⟩
      unfold plainEs
      rw [r3, h1]
      rfl
end
end
end Rk
namespace Rk
noncomputable section
open PySem PySem.Spec PyProof.Rows L2
section
variable {g : Gd} {T : Tab} {p : Pd} {cf : Nat → List IV → Hh → R IV}
theorem s_lcSet {i : Nat} {x : Str} {px spos vp : Pos} {el : Expr} {gs : List Comprehension} {scope : Scope} {own : List Nat} {elt : E} {t : Tg} {it : It} {cs : List E} {c : Cc} {W : Wx} {X : Cx} (h1 : optB (at? c.N i) x = true) (h2 : c.sc.names.lookup x = some .local) (h3 : c.sc.kind = .function)
    (h4 : (px.line == vp.line) = true) (h5 : (scope.names.any fun (n, k) => n == x && (k == .local || k == .cell)) = false) (h : mE g (.lc own elt t it cs) c (.ListComp el gs scope vp) = true) (hc : c.calm = true) (C : CxOk g T p cf W c X) :
    PS X (.Assign [.Name x px] (.ListComp el gs scope vp) spos) (rdM p W (ex T cf (.set i (.lc own elt t it cs)))) := by
  unfold mE at h
  split at h
  · rename_i heq
    cases heq
    obtain ⟨k1, t1⟩ := aB h
    obtain ⟨k2, t2⟩ := aB t1
    obtain ⟨k3, t3⟩ := aB t2
    obtain ⟨k4, t4⟩ := aB t3
    obtain ⟨k5, t5⟩ := aB t4
    obtain ⟨k6, k7⟩ := aB t5
    have eo : (own.map fun i => ((at? c.N i).getD Str.empty, i)).map (·.2) = own := by
      rw [List.map_map]
      exact List.map_id' own
    have z := s_setLc (T := T) (cf := cf) (spos := spos) (pos := vp) C hc (t := t) (Mi := evi T cf it) (Mt := evt T cf cs) (Me := ev T cf elt) (own := own.map fun i => ((at? c.N i).getD Str.empty, i)) (optB_ok h1) h2 h3 h4 h5 (sI it c _ _ k5 hc W X C) k1 (by rw [eo]; exact k2)
      (fun X' C' => ⟨sTg t _ _ k3 hc W0 X' C', sC cs _ _ k6 hc W0 X' C', (sE elt _ _ k7 hc W0 X' C').1⟩) (fold_ok k4)
    rw [eo] at z
    exact z
  · cases h
theorem s_lc2Set {i : Nat} {x : Str} {px spos vp : Pos} {el : Expr} {gs : List Comprehension} {scope : Scope} {own : List Nat} {elt : E} {t t2 : Tg} {it it2 : It} {cs cs2 : List E} {c : Cc} {W : Wx} {X : Cx} (k1 : optB (at? c.N i) x = true) (k2 : c.sc.names.lookup x = some .local) (k3 : c.sc.kind = .function)
    (k4 : (px.line == vp.line) = true) (k5 : (scope.names.any fun (n, k) => n == x && (k == .local || k == .cell)) = false) (h : mE g (.lc2 own elt t it cs t2 it2 cs2) c (.ListComp el gs scope vp) = true) (hc : c.calm = true) (C : CxOk g T p cf W c X) :
    PS X (.Assign [.Name x px] (.ListComp el gs scope vp) spos) (rdM p W (ex T cf (.set i (.lc2 own elt t it cs t2 it2 cs2)))) := by
  unfold mE at h
  split at h
  · rename_i heq
    cases heq
    obtain ⟨h1, t1⟩ := aB h
    obtain ⟨h2, s2⟩ := aB t1
    obtain ⟨h3, t3⟩ := aB s2
    obtain ⟨h4, t4⟩ := aB t3
    obtain ⟨h5, t5⟩ := aB t4
    obtain ⟨h6, t6⟩ := aB t5
    obtain ⟨h7, t7⟩ := aB t6
    obtain ⟨h8, t8⟩ := aB t7
    obtain ⟨h9, t9⟩ := aB t8
    obtain ⟨h10, t10⟩ := aB t9
    obtain ⟨h11, t11⟩ := aB t10
    obtain ⟨h12, h13⟩ := aB t11
    have eo : (own.map fun i => ((at? c.N i).getD Str.empty, i)).map (·.2) = own := by
      rw [List.map_map]
      exact List.map_id' own
    have hv : ∀ i ∈ nmsT t2, i ∈ own := fun i hi => by
      have := List.all_eq_true.mp h4 i hi
      simpa using this
    have z := s_setLc2 (T := T) (cf := cf) (spos := spos) (pos := vp) C hc (t := t) (t2 := t2) (Mi := evi T cf it) (Mt := evt T cf cs) (Mi2 := evi T cf it2) (Mt2 := evt T cf cs2) (Me := ev T cf elt) (own := own.map fun i => ((at? c.N i).getD Str.empty, i)) (optB_ok k1) k2 k3 k4 k5 (sI it c _ _ h9 hc W X C) h1 (by rw [eo]; exact hv) (by rw [eo]; exact h2) h3
      (fun X' C' => ⟨sTg t _ _ h5 hc W0 X' C', sC cs _ _ h10 hc W0 X' C', sI it2 _ _ _ h11 hc W0 X' C', sTg t2 _ _ h6 hc W0 X' C', sC cs2 _ _ h12 hc W0 X' C', (sE elt _ _ h13 hc W0 X' C').1⟩) (fold_ok h7) (fold_ok h8)
    rw [eo] at z
    exact z
  · cases h
mutual
theorem sS (hT : T.exs.length = g.exs.length) : ∀ (a : S) (c : Cc) (s : Stmt), mS g a c s = true → c.calm = true → ∀ (W : Wx) (X : Cx), CxOk g T p cf W c X → SxOk g p X → PS X s (rdM p W (ex T cf a))
  | .set i e, c, s, h, hc, W, X, C, Sx => by
    unfold mS at h
    split at h
    · split at h
      · rename_i x px spos _ el gs scope vp
        cases hloc : locN c.sc x with
        | true =>
          rw [hloc] at h
          dsimp only at h
          obtain ⟨h1, t1⟩ := aB h
          obtain ⟨h2, t2⟩ := aB t1
          obtain ⟨h3, t3⟩ := aB t2
          obtain ⟨h4, t4⟩ := aB t3
          obtain ⟨h5, h6⟩ := aB t4
          cases e <;> first
            | (unfold mE at h6; cases h6; done)
            | (unfold mE at h6; split at h6 <;> cases h6; done)
            | (rename_i it; cases it <;> (unfold mE at h6; cases h6; done))
            | skip
          all_goals first | exact s_lcSet h1 (locN_ok hloc) (isFun_ok h3) h4 (nB h5) h6 hc C | exact s_lc2Set h1 (locN_ok hloc) (isFun_ok h3) h4 (nB h5) h6 hc C
        | false =>
          rw [hloc] at h
          dsimp only at h
          obtain ⟨h1, t1⟩ := aB h
          obtain ⟨h3, h4⟩ := aB t1
          exact s_asg' (t := .nm i) (sw_cell (by rw [C.sc]; exact hloc)) (sw_none rfl) rfl (g_name C (optB_ok h1) h3) (sE e c _ h4 hc W X C).1
      · obtain ⟨h1, t1⟩ := aB h
        obtain ⟨h2, t2⟩ := aB t1
        obtain ⟨h3, h4⟩ := aB t2
        exact s_asg (t := .nm i) h1 rfl rfl (g_name C (optB_ok h2) h3) (sE e c _ h4 hc W X C).1
    · cases h
  | .asg t e, c, s, h, hc, W, X, C, Sx => by
    unfold mS at h
    split at h
    · obtain ⟨h1, t1⟩ := aB h
      obtain ⟨h2, t2⟩ := aB t1
      obtain ⟨h3, t3⟩ := aB t2
      obtain ⟨h4, h5⟩ := aB t3
      exact s_asg' (sw_ok h1) (sn_ok (by rw [C.sc]; exact h2)) (nB h3) (sTg t c _ h4 hc W X C) (sE e c _ h5 hc W X C).1
    · cases h
  | .swap is es, c, s, h, hc, W, X, C, Sx => by
    unfold mS at h
    split at h
    · exact sSw h hc C
    · cases h
  | .sub o i e, c, s, h, hc, W, X, C, Sx => by
    unfold mS at h
    split at h
    · obtain ⟨h2, t2⟩ := aB h
      obtain ⟨h3, t3⟩ := aB t2
      obtain ⟨h4, h5⟩ := aB t3
      exact s_sub C h2 (sE e c _ h3 hc W X C).1 (sE o c _ h4 hc W X C).1 (sE i c _ h5 hc W X C).1
    · cases h
  | .aug i o e, c, s, h, hc, W, X, C, Sx => by
    unfold mS at h
    split at h
    · obtain ⟨h1, t1⟩ := aB h
      obtain ⟨h2, t2⟩ := aB t1
      obtain ⟨h3, h4⟩ := aB t2
      have z := of_decide_eq_true h1
      subst z
      exact s_aug C o (optB_ok h2) h3 (sE e c _ h4 hc W X C).1
    · cases h
  | .augS a i o e, c, s, h, hc, W, X, C, Sx => by
    unfold mS at h
    split at h
    · obtain ⟨h1, t1⟩ := aB h
      obtain ⟨h2, t2⟩ := aB t1
      obtain ⟨h3, t3⟩ := aB t2
      obtain ⟨h4, h5⟩ := aB t3
      have z := of_decide_eq_true h1
      subst z
      exact s_augS C o h2 (sE a c _ h3 hc W X C).1 (sE i c _ h4 hc W X C).1 (sE e c _ h5 hc W X C).1
    · cases h
  | .exp e, c, s, h, hc, W, X, C, Sx => by
    unfold mS at h
    split at h
    · obtain ⟨h1, h2⟩ := aB h
      exact s_exp h1 (sE e c _ h2 hc W X C).1
    · cases h
  | .ret e, c, s, h, hc, W, X, C, Sx => by
    unfold mS at h
    split at h
    · exact s_ret (sE e c _ h hc W X C).1
    · cases h
  | .pass, c, s, h, hc, W, X, C, Sx => by
    unfold mS at h
    split at h
    · exact s_pass
    · cases h
  | .brk, c, s, h, hc, W, X, C, Sx => by
    unfold mS at h
    split at h
    · exact s_brk
    · cases h
  | .cont, c, s, h, hc, W, X, C, Sx => by
    unfold mS at h
    split at h
    · exact s_cont
    · cases h
  | .ifs e a b, c, s, h, hc, W, X, C, Sx => by
    unfold mS at h
    split at h
    · obtain ⟨h1, t1⟩ := aB h
      obtain ⟨h2, h3⟩ := aB t1
      exact s_if (sE e c _ h1 hc W X C).2 (sSs hT a c _ h2 hc W X C Sx) (sSs hT b c _ h3 hc W X C Sx)
    · cases h
  | .whl e b, c, s, h, hc, W, X, C, Sx => by
    unfold mS at h
    split at h
    · obtain ⟨h1, h2⟩ := aB h
      exact s_whl C (sE e c _ h1 hc W X C).2 (sSs hT b c _ h2 hc W X C Sx)
    · cases h
  | .fors t it b, c, s, h, hc, W, X, C, Sx => by
    unfold mS at h
    split at h
    · obtain ⟨h1, t1⟩ := aB h
      obtain ⟨h2, t2⟩ := aB t1
      obtain ⟨h3, h4⟩ := aB t2
      exact s_for C hc (sI it c _ _ h3 hc W X C) (sTg t c _ h2 hc W X C) (sSs hT b c _ h4 hc W X C Sx) (fold_ok h1)
    · cases h
  | .rais i as, c, s, h, hc, W, X, C, Sx => by
    unfold mS at h
    split at h
    · split at h
      · rename_i heq
        split at h
        · split at h
          · obtain ⟨h1, t1⟩ := aB h
            obtain ⟨h2, t2⟩ := aB t1
            obtain ⟨h3, t3⟩ := aB t2
            obtain ⟨h4, h5⟩ := aB t3
            have z := of_decide_eq_true h1
            subst z
            obtain ⟨l1, l2⟩ := mEs_len h5
            exact s_rais C hc (Sx.ecs _ _ _ heq) h2 h3 (nB h4) (sEs as c _ h5 hc W X C) fun r h vs h' q => by
              rw [evs_len q, ← l1]
              rfl
          · cases h
        · split at h
          · obtain ⟨h1, t1⟩ := aB h
            obtain ⟨h2, t2⟩ := aB t1
            obtain ⟨h3, h4⟩ := aB t2
            have z := of_decide_eq_true h1
            subst z
            have : as = [] := by
              cases as with
              | nil => rfl
              | cons _ _ =>
                unfold mEs at h4
                cases h4
            subst this
            exact s_rais0 C hc (Sx.en0 _ _ heq) h2 h3
          · cases h
      · cases h
    · cases h
  | .tryx b hs, c, s, h, hc, W, X, C, Sx => by
    unfold mS at h
    split at h
    · split at h
      · obtain ⟨h1, h2⟩ := aB h
        exact s_try C Sx hT h1 fun W' X' C' Sx' => sSs hT b c _ h2 hc W' X' C' Sx'
      · cases h
    · cases h
  | .fld o f e, c, s, h, hc, W, X, C, Sx => by
    unfold mS at h
    split at h
    · obtain ⟨h2, t2⟩ := aB h
      obtain ⟨h3, h4⟩ := aB t2
      exact s_fld C (optB_ok h2) (sE o c _ h4 hc W X C).1 (sE e c _ h3 hc W X C).1
    · cases h
  | .augF o f op e, c, s, h, hc, W, X, C, Sx => by
    unfold mS at h
    split at h
    · obtain ⟨h1, t1⟩ := aB h
      obtain ⟨h2, t2⟩ := aB t1
      obtain ⟨h3, h4⟩ := aB t2
      have z := of_decide_eq_true h1
      subst z
      exact s_augF C op (optB_ok h2) (sE o c _ h3 hc W X C).1 (sE e c _ h4 hc W X C).1
    · cases h
  | .unp us e, c, s, h, hc, W, X, C, Sx => by
    unfold mS at h
    split at h
    · obtain ⟨h1, t1⟩ := aB h
      obtain ⟨h2, h3⟩ := aB t1
      obtain ⟨r1, r2, r3⟩ := sT2s (T := T) (cf := cf) (p := p) h2 hc C
      exact s_unp C hc r2 r3 h1 r1 (sE e c _ h3 hc W X C).1
    · cases h
  | .del a i, c, s, h, hc, W, X, C, Sx => by
    unfold mS at h
    split at h
    · obtain ⟨h1, h2⟩ := aB h
      exact s_del (sE a c _ h1 hc W X C).1 (sE i c _ h2 hc W X C).1
    · cases h
theorem sSs (hT : T.exs.length = g.exs.length) : ∀ (as : List S) (c : Cc) (l : List Stmt), mSs g as c l = true → c.calm = true → ∀ (W : Wx) (X : Cx), CxOk g T p cf W c X → SxOk g p X → PSs X l (rdM p W (exs T cf as))
  | [], c, l, h, hc, W, X, C, Sx => by
    unfold mSs at h
    cases l with
    | nil => exact ss_nil
    | cons _ _ => cases h
  | a :: as, c, l, h, hc, W, X, C, Sx => by
    unfold mSs at h
    cases l with
    | nil => cases h
    | cons s l =>
      obtain ⟨h1, h2⟩ := aB h
      exact ss_cons (sS hT a c s h1 hc W X C Sx) (sSs hT as c l h2 hc W X C Sx)
end
end
end
end Rk
namespace Rk
noncomputable section
open PySem PySem.Spec PyProof.Rows L2
structure Df where
  name : Str
  qn : Str
  ps : List Str
  N : List Str
  args : Arguments
  body : List Stmt
  sc : Scope
  fd : Fd
def dfC (d : Df) : Cc := { N := d.N, sc := d.sc, fn := fun _ => true, calm := true }
def dfB (g : Gd) (d : Df) : Bool := mSs g d.fd.body (dfC d) d.body && (Nat.beq d.fd.ps d.ps.length && Nat.beq d.fd.ns d.N.length)
structure BdOk (g : Gd) (i : Nat) (ps : List Str) (fd : FuncData) : Prop where
  bind : ∀ (s : Shared) (us : List Value), us.length = ps.length → BindsTo s fd ⟨us, []⟩ (ps.zip us)
  bindk : ∀ n ks, (i, n, ks) ∈ g.kws → ∀ (s : Shared) (us ws : List Value), us.length = n → ws.length = ks.length → ∃ zs : List Value, BindsTo s fd ⟨us, (ks.map fun k => ps.getD k Str.empty).zip ws⟩ (ps.zip zs) ∧
    ∀ (K : Pd) (m : Mp) (H : Hp) (as bs cs : List IV) (vs xs : List V), Vals vs us → Vals xs ws → RVs K m H as vs → RVs K m H bs xs → allK (putK (as.map some ++ ks.map fun _ => none) ks bs) = some cs → ∃ ys, Vals ys zs ∧ RVs K m H cs ys ∧ ys.length = ps.length
structure TpOk (g : Gd) (T : Tab) (p : Pd) (ds : List Df) (P : Program) (w : World) (mg : Str → Option Value) (base : Heap) : Prop where
  dps : g.dps = ds.map Df.ps
  nd : p.nd = ds.length
  fns : ∀ i x ps, at? g.fns i = some (x, ps) → mg x = some (.ref (p.dA i)) ∧ at? g.dps i = some ps
  cls : ∀ k G, at? g.cls k = some G → KcOk g T p mg p.K k G
  nc : p.nc = g.cls.length
  fld : ∀ i f, at? g.flds i = some f → p.fl i = f
  nf : p.nf = g.flds.length
  mf : ∀ m nm, at? g.mids m = some nm → nm ∉ g.flds
  ini : T.ini.length ≤ p.nc
  nex : T.exs.length = g.exs.length
  mt : ∀ d ∈ ds, dfB g d = true ∧ FnScope d.N d.ps d.sc
  dfs : ∀ i d, at? ds i = some d → ∃ fd, FunD p.K d.name d.qn d.args d.body d.sc [] [] (p.dA i) fd ∧ BdOk g i d.ps fd
  free : ∀ x, g.free.contains x = true → mg x = none
  glo : ∀ i x, at? g.glo i = some x → ∃ v V u, at? T.glo i = some v ∧ mg x = some u ∧ RelV V u ∧ ∀ m H, RV p m H v V
  ecs : ∀ i x f, at? g.exs i = some (x, some f) → mg x = some (.ref (p.cA i)) ∧ p.fN i = f ∧ ∃ B nid iid bm fI fd ps, OxC p.K (p.cA i) B nid iid bm ∧ PySem.W.findIn p.K (.ref (p.cA i)) "__init__" = some (some (.ref fI)) ∧ PySem.W.typeIn p.K (.ref fI) = some (.type "function") ∧
    FnOk P w p.K mg base CX0 1 fI fd ps (spI (p.cA i) f) ∧ Binds p.K fd ps []
  en0 : ∀ i x, at? g.exs i = some (x, none) → mg x = some (.ref (p.cA i)) ∧ ∃ B nid iid bm, ExcBaseFacts B nid iid bm ∧ PySem.W.excIn p.K (p.cA i) bm nid = true ∧ PySem.W.keepIn p.K (.ref (p.cA i)) = true ∧ PySem.W.subIn p.K (.ref (p.cA i)) (.type "BaseException") = some true ∧ PySem.W.typeIn p.K (.ref (p.cA i)) = some (.type "type")
  exk : ∀ i x fo, at? g.exs i = some (x, fo) → mg x = some (.ref (p.cA i)) ∧ p.fN i = fo.getD Str.empty ∧ XfC p.K (p.cA i) ∧ PySem.W.findIn p.K (.ref (p.cA i)) (fo.getD Str.empty) = some none ∧ ExcC p.K (p.cA i) ∧
    ∀ Tn b, (i, Tn, b) ∈ g.isis → bootBuiltins (Str.ofString Tn) = some (.type Tn) ∧ Str.ofString Tn ≠ Str.ofString "__name__" ∧ (Str.ofString Tn == Str.ofString "__debug__") = false ∧ PySem.W.kitOne p.K (.ref (p.cA i)) (.type Tn) = some b
  exm : ∀ i j, i < g.exs.length → j < g.exs.length → PySem.W.exmOne p.K (.ref (p.cA i)) (.ref (p.cA j)) = some (Nat.beq i j)
theorem slots_len : ∀ (n : Nat) (vs : List IV), (slots vs n).length = n
  | 0, _ => rfl
  | n + 1, [] => by
    show (slots [] n).length + 1 = n + 1
    rw [slots_len n []]
  | n + 1, v :: vs => by
    show (slots vs n).length + 1 = n + 1
    rw [slots_len n vs]
theorem slots_get : ∀ (n : Nat) (vs : List IV) (i : Nat) (v : IV), get (slots vs n) i = some v → nth vs i = some v
  | 0, _, _, _, e => by cases e
  | n + 1, [], 0, _, e => by cases e
  | n + 1, [], i + 1, v, e => by
    have := slots_get n [] i v e
    cases i <;> cases this
  | n + 1, v :: vs, 0, _, e => by
    cases e
    rfl
  | n + 1, v :: vs, i + 1, w, e => slots_get n vs i w e
theorem start_ok {K : Pd} {m : Mp} {H : Hp} {as : List IV} {vs : List V} {N : List Str} (r : RVs K m H as vs) (hl : vs.length ≤ N.length) : RSl K m H (slots as N.length) (L2.start N vs) := by
  refine ⟨?_, fun i v e => ?_⟩
  · unfold L2.start
    rw [slots_len, List.length_append, List.length_map, List.length_replicate]
    omega
  · obtain ⟨V, h1, h2⟩ := r.at (slots_get _ _ _ _ e)
    refine ⟨V, ?_, h2⟩
    unfold L2.start
    have hi : i < vs.length := (List.getElem?_eq_some_iff.mp h1).1
    rw [List.getElem?_append_left (by simpa using hi), List.getElem?_map, h1]
    rfl
theorem noRefs_cons {v : IV} {vs : List IV} (h : noRefs (v :: vs) = true) : noRef v = true ∧ noRefs vs = true := by
  have h : @Bool.rec (fun _ => Bool) false (noRefs vs) (noRef v) = true := h
  cases e : noRef v with
  | false =>
    rw [e] at h
    cases h
  | true =>
    rw [e] at h
    exact ⟨rfl, h⟩
theorem noRef_tup : ∀ {xs : List IV}, noRef (.tup xs) = true → noRefs xs = true
  | [], _ => rfl
  | x :: xs, h => by
    have h : @Bool.rec (fun _ => Bool) false (noRef (.tup xs)) (noRef x) = true := h
    cases e : noRef x with
    | false =>
      rw [e] at h
      cases h
    | true =>
      rw [e] at h
      have := noRef_tup (xs := xs) h
      show @Bool.rec (fun _ => Bool) false (noRefs xs) (noRef x) = true
      rw [e]
      exact this
mutual
theorem RV.far {K : Pd} {m m' : Mp} {H : Hp} : ∀ {x : IV} {v : V}, RV K m H x v → noRef x = true → RV K m' H x v
  | _, _, .non, _ => .non
  | _, _, .bl b, _ => .bl b
  | _, _, .int i, _ => .int i
  | _, _, .str x, _ => .str x
  | _, _, .tup s r, h => .tup s (RVs.far r (noRef_tup h))
  | _, _, .rng r, _ => .rng r
  | _, _, .ref _, h => by cases h
  | _, _, .exn, h => by cases h
  | _, _, .rol _ _, h => by cases h
  | _, _, .fn hi, _ => .fn hi
theorem RVs.far {K : Pd} {m m' : Mp} {H : Hp} : ∀ {xs : List IV} {vs : List V}, RVs K m H xs vs → noRefs xs = true → RVs K m' H xs vs
  | _, _, .nil, _ => .nil
  | _, _, .cons r s, h => .cons (RV.far r (noRefs_cons h).1) (RVs.far s (noRefs_cons h).2)
end
section
variable {g : Gd} {T : Tab} {p : Pd} {ds : List Df} {P : Program} {w : World} {mg : Str → Option Value} {base : Heap}
def AllOk (g : Gd) (p : Pd) (ds : List Df) (P : Program) (w : World) (mg : Str → Option Value) (base : Heap) (lv : Nat) (cf : Nat → List IV → Hh → R IV) : Prop :=
  ∀ i e, at? ds i = some e → ∃ fd, PySem.W.keepIn p.K (.ref (p.dA i)) = true ∧ BdOk g i e.ps fd ∧ FnOk P w p.K mg base (L2.CX P w) lv (p.dA i) fd e.ps (spF p cf i e.ps.length)
def Cfl (g : Gd) (cf : Nat → List IV → Hh → R IV) : Prop := ∀ i as h ps, at? g.dps i = some ps → cf i as h ≠ .fail → as.length = ps.length
theorem at_map {α β : Type} {f : α → β} : ∀ {l : List α} {i : Nat}, at? (l.map f) i = (at? l i).map f
  | [], _ => rfl
  | _ :: _, 0 => rfl
  | _ :: r, i + 1 => at_map (l := r) (i := i)
theorem dps_at (O : TpOk g T p ds P w mg base) {i : Nat} {ps : List Str} (h : at? g.dps i = some ps) : ∃ d, at? ds i = some d ∧ d.ps = ps := by
  rw [O.dps, at_map] at h
  cases e : at? ds i with
  | none =>
    rw [e] at h
    cases h
  | some d =>
    rw [e] at h
    exact ⟨d, rfl, Option.some.inj h⟩
theorem ds_mem {i : Nat} {d : Df} (hd : at? ds i = some d) : d ∈ ds := by
  rw [at_list] at hd
  exact List.mem_of_getElem? hd
theorem ps_len (O : TpOk g T p ds P w mg base) {i : Nat} {d : Df} (hd : at? ds i = some d) : d.fd.ps = d.ps.length := by
  obtain ⟨mB, _⟩ := O.mt d (ds_mem hd)
  unfold dfB at mB
  obtain ⟨_, t1⟩ := aB mB
  exact Nat.eq_of_beq_eq_true (aB t1).1
theorem cfl_body (O : TpOk g T p ds P w mg base) {cf cf' : Nat → List IV → Hh → R IV} (hc : ∀ i d, at? ds i = some d → ∀ vs h, cf' i vs h = Rk.body T cf d.fd vs h) : Cfl g cf' := by
  intro i as h ps hd hn
  obtain ⟨d, e, rfl⟩ := dps_at O hd
  rw [hc i d e] at hn
  unfold Rk.body at hn
  cases q : Nat.beq as.length d.fd.ps with
  | false =>
    rw [q] at hn
    exact absurd rfl hn
  | true =>
    rw [Nat.eq_of_beq_eq_true q, ps_len O e]
theorem cfl_P {cf : Nat → List IV → Hh → R IV} (h : Cfl g cf) : Cfl g (cfP cf) := by
  intro i as h' ps hd hn
  unfold cfP at hn
  cases q : noRefs as with
  | false =>
    rw [q] at hn
    exact h i as h' ps hd hn
  | true =>
    rw [q] at hn
    dsimp only at hn
    unfold pur at hn
    cases e : cf i as h0 with
    | fail =>
      rw [e] at hn
      exact h i as h' ps hd hn
    | ok v h1 => exact h i as h0 ps hd (by rw [e]; exact fun z => by cases z)
    | exc x h1 => exact h i as h0 ps hd (by rw [e]; exact fun z => by cases z)
theorem body_cx (O : TpOk g T p ds P w mg base) {cf : Nat → List IV → Hh → R IV} {lv : Nat} {d : Df} (S : FnScope d.N d.ps d.sc) (h1 : 1 ≤ lv)
    (ih : AllOk g p ds P w mg base lv cf) (hl : Cfl g cf)
    {f : Addr} {cdv : Value} {A : Around} {outer : List Env} {s : Shared} {H : Hp} {E : XK} {q : Str} (hr : Room (lv + 1) (A.deeper (envOfC q d.sc s.heap.objs.size f cdv))) :
    CxOk g T p cf (fun c d _ H => E c d H) (dfC d) (cxOf (L2.CX P w) P w p.K mg base d.N q d.sc f cdv A outer s H E) ∧ SxOk g p (cxOf (L2.CX P w) P w p.K mg base d.N q d.sc f cdv A outer s H E) := by
  refine ⟨{ n := rfl, nd := S.nd, sc := rfl, fn := fun _ _ => rfl, K := rfl, tk := L2.takes_of (X := cxOf (L2.CX P w) P w p.K mg base d.N q d.sc f cdv A outer s H E) rfl rfl rfl rfl, calm := fun _ => rfl, un := ?_, fns := O.fns, dfs := fun _ i ps e => ?_, cls := O.cls, nc := fun k => by rw [O.nc], fld := O.fld, nf := O.nf, mf := O.mf, ini := fun k i e => ?_, cfl := hl, nds := fun i => ?_, free := O.free, own := L2.passes_of (X := cxOf (L2.CX P w) P w p.K mg base d.N q d.sc f cdv A outer s H E) rfl, glo := O.glo },
    ⟨rfl, rfl, fun i x ff e => ?_, fun i x e => ⟨(O.en0 i x e).1, (O.en0 i x e).2⟩, fun i x fo e => ?_, O.exm⟩⟩
  · have := hr.un
    show (A.deeper (envOfC q d.sc s.heap.objs.size f cdv)).units + 65 < cLine
    omega
  · obtain ⟨d2, e2, rfl⟩ := dps_at O e
    obtain ⟨fd2, h2, h3, h4⟩ := ih i d2 e2
    exact ⟨fd2, lv, ⟨h2, hr.mono (Nat.le_succ _), hr, h4, h3.bind, h3.bindk⟩⟩
  · rw [at_list] at e
    exact Nat.lt_of_lt_of_le (List.getElem?_eq_some_iff.mp e).1 O.ini
  · rw [O.nd, O.dps, List.length_map]
  · obtain ⟨h1, h2, B, nid, iid, bm, fI, fd, ps, h3, h4, h5, h6, h7⟩ := O.ecs i x ff e
    exact ⟨h1, h2, B, nid, iid, bm, fI, 1, fd, ps, h3, h4, h5, h6, hr.mono (by omega), h7⟩
  · obtain ⟨h1, h2, h3, h4, h5, h6⟩ := O.exk i x fo e
    exact ⟨h1, h2, h3, h4, h5, h6⟩
theorem def_okF (O : TpOk g T p ds P w mg base) {cf cf' : Nat → List IV → Hh → R IV} {lv : Nat} (h1 : 1 ≤ lv) (ih : AllOk g p ds P w mg base lv cf) (hl : Cfl g cf)
    {i : Nat} {d : Df} (hd : at? ds i = some d) (hc : ∀ vs h, cf' i vs h = Rk.body T cf d.fd vs h)
    {f : Addr} {fd : FuncData} (F : FunD p.K d.name d.qn d.args d.body d.sc [] [] f fd) : FnOk P w p.K mg base (L2.CX P w) (lv + 2) f fd d.ps (spF p cf' i d.ps.length) := by
  obtain ⟨mB, S⟩ := O.mt d (ds_mem hd)
  unfold dfB at mB
  obtain ⟨m1, t1⟩ := aB mB
  obtain ⟨m2, m3⟩ := aB t1
  have hps : d.fd.ps = d.ps.length := Nat.eq_of_beq_eq_true m2
  have hns : d.fd.ns = d.N.length := Nat.eq_of_beq_eq_true m3
  have hpl : d.ps.length ≤ d.N.length := by
    have := congrArg List.length S.pre
    rw [List.length_take] at this
    omega
  refine F.ok S (fun vs H Q E z => z.1) fun cdv A outer s H vs Q E hr hsp => ?_
  obtain ⟨CC, SS⟩ := body_cx O (cf := cf) (lv := lv) (d := d) S h1 ih hl (f := f) (cdv := cdv) (A := A) (outer := outer) (s := s) (H := H) (E := E) (q := d.qn) hr
  refine ⟨_, sSs O.nex d.fd.body (dfC d) d.body m1 rfl _ _ CC SS, ?_⟩
  obtain ⟨hl, m, h, as, rh, ra, ok⟩ := hsp
  rw [hc] at ok
  unfold Rk.body at ok
  have la : Nat.beq as.length d.fd.ps = true := by
    rw [ra.length, hl, hps]
    exact Nat.beq_refl _
  rw [la] at ok
  dsimp only at ok
  refine ⟨m, slots as d.fd.ns, h, by rw [hns]; exact start_ok ra (by omega), rh, ?_⟩
  cases e : exs T cf d.fd.body (slots as d.fd.ns) h with
  | nx r' h' =>
    rw [e] at ok
    exact fun m' H' σ' x _ rh' => ok m' H' _ x rh' .non
  | ret v h' =>
    rw [e] at ok
    exact ok
  | exc y r' h' =>
    rw [e] at ok
    exact fun m' H' σ' d' x _ rh' fr => ok m' H' d' x rh' fr
  | brk _ _ =>
    rw [e] at ok
    exact ok.elim
  | cont _ _ =>
    rw [e] at ok
    exact ok.elim
  | fail =>
    rw [e] at ok
    exact ok.elim
theorem def_ok (O : TpOk g T p ds P w mg base) {cf cf' : Nat → List IV → Hh → R IV} {lv : Nat} (h1 : 1 ≤ lv) (ih : AllOk g p ds P w mg base lv cf) (hl : Cfl g cf)
    (hc : ∀ i d, at? ds i = some d → ∀ vs h, cf' i vs h = Rk.body T cf d.fd vs h) : AllOk g p ds P w mg base (lv + 2) cf' := fun i d hd => by
  obtain ⟨fd, F, b⟩ := O.dfs i d hd
  exact ⟨fd, F.kp, b, def_okF O h1 ih hl hd (hc i d hd) F⟩
def memo (l : List (Nat × Bool)) (cf : Nat → List IV → Hh → R IV) (i : Nat) (vs : List IV) (h : Hh) : R IV := match look i l with
  | some b => match vs with
    | [] => .ok (.bl b) h
    | _ :: _ => .fail
  | none => cf i vs h
theorem h0_get (n : Nat) : h0.get n = none := by
  unfold Hh.get h0
  rfl
theorem RH.non {K : Pd} {H : Hp} : RH K (fun _ => none) h0 H where
  lo := fun _ _ e => by cases e
  obj := fun n o e => by
    rw [h0_get] at e
    cases e
  un := fun _ _ e => by cases e
  inj := fun _ _ _ e => by cases e
theorem far_xt {K : Pd} {m m2 : Mp} {h : Hh} {H H2 : Hp} (rh : RH K m h H) (x2 : Xt (fun _ => none) H m2 H2) : Xt m H m H2 ∧ RH K m h H2 := by
  have xt : Xt m H m H2 := ⟨fun _ _ z => z, fun _ _ z => .inl z, x2.st, fun a u z _ => x2.kp a u z fun _ n q => by cases q⟩
  refine ⟨xt, rh.lo, fun n o z => ?_, rh.un, rh.inj⟩
  obtain ⟨a, ha, ro⟩ := rh.obj n o z
  obtain ⟨u, hu⟩ := rh.sm ha
  exact ⟨a, ha, ro.mono xt (by rw [hu]; exact x2.kp a u hu fun _ n q => by cases q)⟩
theorem pur_ok {cf : Nat → List IV → Hh → R IV} {i n : Nat} {ps : List Str} {k : Nat} {f : Addr} {fd : FuncData} (F : FnOk P w p.K mg base (L2.CX P w) k f fd ps (spF p cf i n)) : FnOk P w p.K mg base (L2.CX P w) k f fd ps (spF p (cfP cf) i n) := by
  refine F.imp fun vs H Q E z => ?_
  obtain ⟨hv, m, h, as, rh, ra, ok⟩ := z
  unfold cfP at ok
  cases e : noRefs as with
  | false =>
    rw [e] at ok
    exact ⟨hv, m, h, as, rh, ra, ok⟩
  | true =>
    rw [e] at ok
    dsimp only at ok
    unfold pur at ok
    cases e2 : cf i as h0 with
    | fail =>
      rw [e2] at ok
      exact ⟨hv, m, h, as, rh, ra, ok⟩
    | ok v h1 =>
      rw [e2] at ok
      dsimp only at ok
      cases e3 : noRef v with
      | false =>
        rw [e3] at ok
        exact ⟨hv, m, h, as, rh, ra, ok⟩
      | true =>
        rw [e3] at ok
        refine ⟨hv, fun _ => none, h0, as, RH.non, RVs.far ra e, ?_⟩
        rw [e2]
        intro m2 H2 y x2 _ rv
        obtain ⟨xt, rh2⟩ := far_xt rh x2
        exact ok m H2 y xt rh2 (RV.far rv e3)
    | exc x h1 =>
      rw [e2] at ok
      dsimp only at ok
      cases e3 : noRefO x.v with
      | false =>
        rw [e3] at ok
        exact ⟨hv, m, h, as, rh, ra, ok⟩
      | true =>
        rw [e3] at ok
        refine ⟨hv, fun _ => none, h0, as, RH.non, RVs.far ra e, ?_⟩
        rw [e2]
        intro m2 H2 d x2 _ fr
        obtain ⟨xt, rh2⟩ := far_xt rh x2
        refine ok m H2 d xt rh2 ?_
        unfold FR at fr ⊢
        cases e4 : x.v with
        | none =>
          rw [e4] at fr
          exact fr
        | some v =>
          rw [e4] at fr e3
          obtain ⟨dd, V, h1, h2, h3⟩ := fr
          exact ⟨dd, V, h1, h2, RV.far h3 e3⟩
theorem pur_all {lv : Nat} {cf : Nat → List IV → Hh → R IV} (h : AllOk g p ds P w mg base lv cf) : AllOk g p ds P w mg base lv (cfP cf) := fun i e he => by
  obtain ⟨fd, h2, h3, F⟩ := h i e he
  exact ⟨fd, h2, h3, pur_ok F⟩
theorem cfnP_body {n : Nat} {i : Nat} {d : Df} (hd : at? ds i = some d) (vs : List IV) (h : Hh) : cfnP T (ds.map Df.fd) (n + 1) i vs h = Rk.body T (cfP (cfnP T (ds.map Df.fd) n)) d.fd vs h := by
  have e : at? (ds.map Df.fd) i = some d.fd := by
    rw [at_map, hd]
    rfl
  show (match at? (ds.map Df.fd) i with
    | some d => Rk.body T (cfP (cfnP T (ds.map Df.fd) n)) d vs h
    | none => .fail) = _
  rw [e]
theorem cfl_cfnP (O : TpOk g T p ds P w mg base) : ∀ n, Cfl g (cfnP T (ds.map Df.fd) n)
  | 0 => fun _ _ _ _ _ h => absurd rfl h
  | _ + 1 => cfl_body O fun _ _ hd vs h => cfnP_body hd vs h
theorem all_okP (O : TpOk g T p ds P w mg base) : ∀ n, AllOk g p ds P w mg base (2 * n + 2) (cfnP T (ds.map Df.fd) n)
  | 0 => fun i d hd => by
    obtain ⟨fd, F, b⟩ := O.dfs i d hd
    refine ⟨fd, F.kp, b, fun vs H Q E z => z.1, fun A outer s H args us vs Q E hr he hb hv hs => ?_⟩
    obtain ⟨_, m, h, as, _, _, ok⟩ := hs
    exact ok.elim
  | n + 1 => def_ok O (by omega) (pur_all (all_okP O n)) (cfl_P (cfl_cfnP O n)) fun _ _ hd vs h => cfnP_body hd vs h
theorem cfl_memo {l : List (Nat × Bool)} {cf : Nat → List IV → Hh → R IV} (hl : ∀ i b ps, at? g.dps i = some ps → look i l = some b → ps.length = 0) (h : Cfl g cf) : Cfl g (memo l cf) := by
  intro i as h' ps hd hn
  unfold memo at hn
  cases e : look i l with
  | none =>
    rw [e] at hn
    exact h i as h' ps hd hn
  | some b =>
    rw [e] at hn
    cases as with
    | nil => rw [hl i b ps hd e]; rfl
    | cons _ _ => exact absurd rfl hn
theorem memo_ok {l : List (Nat × Bool)} {cf : Nat → List IV → Hh → R IV} {i : Nat} {ps : List Str} {k : Nat} {f : Addr} {fd : FuncData} (hl : ∀ b, look i l = some b → ps.length = 0 ∧ ∃ h', cf i [] h0 = .ok (.bl b) h')
    (F : FnOk P w p.K mg base (L2.CX P w) k f fd ps (spF p cf i ps.length)) : FnOk P w p.K mg base (L2.CX P w) k f fd ps (spF p (memo l cf) i ps.length) := by
  refine F.imp fun vs H Q E z => ?_
  obtain ⟨hv, m, h, as, rh, ra, ok⟩ := z
  unfold memo at ok
  cases e : look i l with
  | none =>
    rw [e] at ok
    exact ⟨hv, m, h, as, rh, ra, ok⟩
  | some b =>
    rw [e] at ok
    obtain ⟨hp, h', e2⟩ := hl b e
    have ea : as = [] := List.length_eq_zero_iff.mp (by rw [ra.length, hv, hp])
    subst ea
    refine ⟨hv, fun _ => none, h0, [], RH.non, ?_, ?_⟩
    · have : vs = [] := List.length_eq_zero_iff.mp (by rw [hv, hp])
      rw [this]
      exact .nil
    · rw [e2]
      intro m2 H2 y x2 rh2 rv
      cases rv
      have xt : Xt m H m H2 := ⟨fun _ _ z => z, fun _ _ z => .inl z, x2.st, fun a u z _ => x2.kp a u z fun _ n q => by cases q⟩
      refine ok m H2 _ xt ⟨rh.lo, fun n o z => ?_, rh.un, rh.inj⟩ (.bl b)
      obtain ⟨a, ha, ro⟩ := rh.obj n o z
      obtain ⟨u, hu⟩ := rh.sm ha
      exact ⟨a, ha, ro.mono xt (by rw [hu]; exact x2.kp a u hu fun _ n q => by cases q)⟩
end
end
end Rk
namespace Rk
noncomputable section
open PySem PySem.Spec PyProof.Rows L2
abbrev leTail : List Value := [.type "LookupError", .type "Exception", .type "BaseException", .type "object"]
abbrev vTail : List Value := [.type "ValueError", .type "Exception", .type "BaseException", .type "object"]
def oxB (K : PySem.W.Frag) (C : Addr) (bm : List Value) (nid : String) : Bool := (match K.lookup C with
  | some ⟨.type "type", _, .cls cd, sl⟩ => (match cd.mro, sl.toList with
    | .ref D :: tl, [_, _, _, _, some (.builtin n), _] => D == C && (n == nid && (!cd.hasDel && (decide (tl = bm) && cd.hasDict)))
    | _, _ => false)
  | _ => false) && (decide (PySem.W.findIn K (.ref C) "__setattr__" = some (some (.builtin "object.__setattr__"))) && (decide (PySem.W.subIn K (.ref C) (.type "BaseException") = some true) && (decide (PySem.W.typeIn K (.ref C) = some (.type "type")) && PySem.W.keepIn K (.ref C))))
theorem oxB_ok {K : PySem.W.Frag} {C : Addr} {B nid iid : String} {bm : List Value} (F : ExcBaseFacts B nid iid bm) (hp : ∀ self, refuseLoop self "__setattr__" bm = pure ()) (ho : bm.contains (.type "object") = true) (h : oxB K C bm nid = true) : OxC K C B nid iid bm := by
  unfold oxB at h
  obtain ⟨h1, t1⟩ := aB h
  obtain ⟨h2, t2⟩ := aB t1
  obtain ⟨h3, t3⟩ := aB t2
  obtain ⟨h4, h5⟩ := aB t3
  refine ⟨F, hp, ho, ?_, of_decide_eq_true h2, of_decide_eq_true h3, of_decide_eq_true h4, h5⟩
  split at h1
  · rename_i dd cd sl hl
    split at h1
    · rename_i D tl k0 k1 k2 k3 n k5 hm hs
      obtain ⟨e1, t1⟩ := aB h1
      obtain ⟨e2, t2⟩ := aB t1
      obtain ⟨e3, t3⟩ := aB t2
      obtain ⟨e4, e5⟩ := aB t3
      have q1 := beq_iff_eq.mp e1
      have q2 := beq_iff_eq.mp e2
      have q3 := nB e3
      have q4 := of_decide_eq_true e4
      clear e1 e2 e3 e4 h1 t1 t2 t3
      subst q1 q2 q4
      obtain ⟨nm, bs, mro, ns, qn, hd, sn, sub, ab, col, del⟩ := cd
      dsimp only at hm q3 e5
      subst hm q3 e5
      have hsl : sl = #[k0, k1, k2, k3, some (.builtin n), k5] := by
        obtain ⟨l⟩ := sl
        simp only at hs
        rw [hs]
      subst hsl
      exact ⟨nm, qn, ns, bs, sn, sub, ab, col, dd, k0, k1, k2, k3, k5, hl⟩
    · cases h1
  · cases h1
theorem le_ok {K : PySem.W.Frag} {C : Addr} (h : oxB K C leTail "LookupError.__new__" = true) : OxC K C "LookupError" "LookupError.__new__" "LookupError.__init__" leTail :=
  oxB_ok PySem.F.excBase_LookupError PySem.F.store_LookupError.passes (by decide +kernel) h
theorem ve_ok {K : PySem.W.Frag} {C : Addr} (h : oxB K C vTail "ValueError.__new__" = true) : OxC K C "ValueError" "ValueError.__new__" "ValueError.__init__" vTail :=
  oxB_ok PySem.F.excBase_ValueError PySem.F.store_ValueError.passes (by decide +kernel) h
def excB (K : PySem.W.Frag) (C : Addr) : Bool := xfB K C && (decide (PySem.W.findIn K (.ref C) "__class__" = some (some (.builtin "object.__class__"))) && (decide (PySem.W.specialIn K (.builtin "object.__class__") "__get__" = some (some (.builtin "getset_descriptor.__get__"))) &&
  (decide (PySem.W.takesIn K (.builtin "object.__class__") = some true) && decide (PySem.W.mroIn K C (.type "object") = some true))))
theorem excB_ok {K : PySem.W.Frag} {C : Addr} (h : excB K C = true) : XfC K C ∧ ExcC K C := by
  unfold excB at h
  obtain ⟨h1, t1⟩ := aB h
  obtain ⟨h2, t2⟩ := aB t1
  obtain ⟨h3, t3⟩ := aB t2
  obtain ⟨h4, h5⟩ := aB t3
  have x := xfB_ok h1
  exact ⟨x, ⟨x.ga, x.gg, x.exC, x.hdC, of_decide_eq_true h2, of_decide_eq_true h3, of_decide_eq_true h4, of_decide_eq_true h5⟩⟩
section
variable {P : Program} {w : World} {K : PySem.W.Frag} {mg : Str → Option Value} {base : Heap}
theorem init_ok {C0 f0 : Addr} {fd : FuncData} {qual fI : Str} {params : Arguments} {body : List Stmt} {sc : Scope} {x1 x2 : Str} {p1 p2 p3 p4 : Pos} {B nid iid : String} {bm : List Value} (T : OxC K C0 B nid iid bm) (F : FunD K "__init__" qual params body sc [] [] f0 fd) (S : FnScope [x1, x2] [x1, x2] sc)
    (hb : body = [.Assign [.Attribute (.Name x1 p1) fI p2] (.Name x2 p3) p4]) (hno : PySem.W.findIn K (.ref C0) fI = some none) (h1 : visB sc x1 = true) (h2 : visB sc x2 = true) (n1 : nmB x1 = true) (n2 : nmB x2 = true) :
    FnOk P w K mg base CX0 1 f0 fd [x1, x2] (spI C0 fI) := by
  refine F.ok S (fun vs H Q E z => ?_) fun cdv A outer s H vs Q E hr hsp => ?_
  · obtain ⟨a, y, rfl, _⟩ := z
    rfl
  · obtain ⟨a, y, rfl, ha, k⟩ := hsp
    refine ⟨tOx1 K C0 fI (tVar 0) (tVar 1), ?_, ?_⟩
    · rw [hb]
      exact pss_one (ps_ox1 (X := cxOf CX0 P w K mg base [x1, x2] qual sc f0 cdv A outer s H E) T hno (pe_var (i := 0) rfl (visB_ok h1) (nmB_ok n1).1 (nmB_ok n1).2.1) (pe_var (i := 1) rfl (visB_ok h2) (nmB_ok n2).1 (nmB_ok n2).2.1) rfl)
    · exact ⟨y, rfl, .ref a, rfl, a, rfl, ha, fun dx e1 e2 => k dx e1 e2⟩
end
end
end Rk
namespace Rk
open PySem
theorem mul_r {i j : Int} {h : Hh} (q : smallI j = true) : opr .mul (.int i) (.int j) h = .ok (.int (Int.mul i j)) h := by
  show (match smallI i with
    | true => R.ok (IV.int (Int.mul i j)) h
    | false => match smallI j with
      | true => R.ok (IV.int (Int.mul i j)) h
      | false => R.fail) = _
  rw [q]
  cases smallI i <;> rfl
def cellsB : List S := [.set 5 (.bin .mod (.bi .int [.var 3]) (.var 1)), .sub (.var 2) (.var 5) (.bin .add (.idx (.var 2) (.var 5)) (.bin .mul (.var 4) (.bin .add (.var 3) (.cst (.int 2)))))]
def hC (o0 o2 : IO) (z : Int) : Hh := ⟨3, .nd (.nd .nil (.lst [.int z]) .nil) o0 (.nd .nil o2 .nil)⟩
theorem cells_turn {T : Tab} {cf : Nat → List IV → Hh → R IV} {o0 o2 : IO} {u0 : IV} {z c : Int} {i : Nat} {x5 : Option IV} (hi : i < 1000) :
    exs T cf cellsB [some u0, some (.int 1), some (.ref 1), some (.int (.ofNat i)), some (.int c), x5] (hC o0 o2 z) =
      .nx [some u0, some (.int 1), some (.ref 1), some (.int (.ofNat i)), some (.int c), some (.int 0)] (hC o0 o2 (Int.add z (Int.mul c (Int.add (.ofNat i) 2)))) := by
  have e1 : Int.emod (Int.ofNat i) 1 = 0 := Int.emod_one _
  have e2 : smallI (Int.add (.ofNat i) 2) = true := by
    show Nat.ble (Int.natAbs (Int.ofNat i + 2) + 1) big = true
    rw [Nat.ble_eq]
    have : Int.natAbs (Int.ofNat i + 2) = i + 2 := by
      show Int.natAbs ((i : Int) + 2) = i + 2
      omega
    rw [this]
    show i + 2 + 1 ≤ 18446744073709551616
    omega
  have s1 : ex T cf (.set 5 (.bin .mod (.bi .int [.var 3]) (.var 1))) [some u0, some (.int 1), some (.ref 1), some (.int (.ofNat i)), some (.int c), x5] (hC o0 o2 z) =
      .nx [some u0, some (.int 1), some (.ref 1), some (.int (.ofNat i)), some (.int c), some (.int (Int.emod (Int.ofNat i) 1))] (hC o0 o2 z) := rfl
  rw [e1] at s1
  have s2 : ev T cf (.bin .add (.idx (.var 2) (.var 5)) (.bin .mul (.var 4) (.bin .add (.var 3) (.cst (.int 2))))) [some u0, some (.int 1), some (.ref 1), some (.int (.ofNat i)), some (.int c), some (.int 0)] (hC o0 o2 z) =
      .ok (.int (Int.add z (Int.mul c (Int.add (.ofNat i) 2)))) (hC o0 o2 z) := by
    show ((opr .mul (.int c) (.int (Int.add (.ofNat i) 2)) (hC o0 o2 z)).bd fun y h => opr .add (.int z) y h) = _
    rw [mul_r e2]
    rfl
  have s3 : ex T cf (.sub (.var 2) (.var 5) (.bin .add (.idx (.var 2) (.var 5)) (.bin .mul (.var 4) (.bin .add (.var 3) (.cst (.int 2)))))) [some u0, some (.int 1), some (.ref 1), some (.int (.ofNat i)), some (.int c), some (.int 0)] (hC o0 o2 z) =
      .nx [some u0, some (.int 1), some (.ref 1), some (.int (.ofNat i)), some (.int c), some (.int 0)] (hC o0 o2 (Int.add z (Int.mul c (Int.add (.ofNat i) 2)))) := by
    unfold ex
    rw [s2]
    rfl
  show (match ex T cf (.set 5 (.bin .mod (.bi .int [.var 3]) (.var 1))) [some u0, some (.int 1), some (.ref 1), some (.int (.ofNat i)), some (.int c), x5] (hC o0 o2 z) with
    | .nx r h => exs T cf [.sub (.var 2) (.var 5) (.bin .add (.idx (.var 2) (.var 5)) (.bin .mul (.var 4) (.bin .add (.var 3) (.cst (.int 2)))))] r h
    | z => z) = _
  rw [s1]
  show (match ex T cf (.sub (.var 2) (.var 5) (.bin .add (.idx (.var 2) (.var 5)) (.bin .mul (.var 4) (.bin .add (.var 3) (.cst (.int 2)))))) [some u0, some (.int 1), some (.ref 1), some (.int (.ofNat i)), some (.int c), some (.int 0)] (hC o0 o2 z) with
    | .nx r h => exs T cf [] r h
    | z => z) = _
  rw [s3]
  rfl
theorem nth_map {ws : List Int} : ∀ {i : Nat}, nth (ws.map IV.int) i = (ws[i]?).map IV.int := by
  induction ws with
  | nil =>
    intro i
    rfl
  | cons w ws ih =>
    intro i
    cases i with
    | zero => rfl
    | succ j => exact ih (i := j)
theorem cells_loop {T : Tab} {cf : Nat → List IV → Hh → R IV} {o0 : IO} {u0 : IV} {ws : List Int} : ∀ (k i f : Nat) (z : Int) (x3 x4 x5 : Option IV), ws.length - i = k → i ≤ ws.length → ws.length < 1000 → k < f →
    ∃ z' y3 y4 y5, forL (.tp [.nm 3, .nm 4]) (exs T cf cellsB) f (.en i (.lst 2 i)) [some u0, some (.int 1), some (.ref 1), x3, x4, x5] (hC o0 (.lst (revR (ws.map .int))) z) =
      .nx [some u0, some (.int 1), some (.ref 1), y3, y4, y5] (hC o0 (.lst (revR (ws.map .int))) z') := by
  intro k
  induction k with
  | zero =>
    intro i f z x3 x4 x5 hk hi hw hf
    cases f with
    | zero => omega
    | succ f =>
      refine ⟨z, x3, x4, x5, ?_⟩
      have e : nxt (.en i (.lst 2 i)) (hC o0 (.lst (revR (ws.map .int))) z) = .stop := by
        have il : i = ws.length := by omega
        have n1 : nthQ (revR (ws.map IV.int)) i = none := by
          rw [nthQ_eq, revR_revR, nth_map, il, List.getElem?_eq_none (Nat.le_refl _)]
          rfl
        have n2 : Nat.beq (lenR (revR (ws.map IV.int))) i = true := by
          rw [lenR_eq, revR_len, List.length_map, il]
          exact Nat.beq_refl _
        show (match (match nthQ (revR (ws.map IV.int)) i with
          | some x => Nx.yld x (Sc.lst 2 (Nat.succ i))
          | none => match Nat.beq (lenR (revR (ws.map IV.int))) i with
            | true => Nx.stop
            | false => Nx.fail) with
          | .stop => Nx.stop
          | .yld v s => Nx.yld (.tup [.int (.ofNat i), v]) (Ir.en (Nat.succ i) s)
          | .fail => Nx.fail) = _
        rw [n1, n2]
      unfold forL
      rw [e]
  | succ k ih =>
    intro i f z x3 x4 x5 hk hi hw hf
    cases f with
    | zero => omega
    | succ f =>
      have lt : i < ws.length := by omega
      have e : nxt (.en i (.lst 2 i)) (hC o0 (.lst (revR (ws.map .int))) z) = .yld (.tup [.int (.ofNat i), .int ws[i]]) (.en (i + 1) (.lst 2 (i + 1))) := by
        have n1 : nthQ (revR (ws.map IV.int)) i = some (.int ws[i]) := by
          rw [nthQ_eq, revR_revR, nth_map, List.getElem?_eq_getElem lt]
          rfl
        show (match (match nthQ (revR (ws.map IV.int)) i with
          | some x => Nx.yld x (Sc.lst 2 (Nat.succ i))
          | none => match Nat.beq (lenR (revR (ws.map IV.int))) i with
            | true => Nx.stop
            | false => Nx.fail) with
          | .stop => Nx.stop
          | .yld v s => Nx.yld (.tup [.int (.ofNat i), v]) (Ir.en (Nat.succ i) s)
          | .fail => Nx.fail) = _
        rw [n1]
      obtain ⟨z', y3, y4, y5, q⟩ := ih (i + 1) f (Int.add z (Int.mul ws[i] (Int.add (.ofNat i) 2))) (some (.int (.ofNat i))) (some (.int ws[i])) (some (.int 0)) (by omega) lt hw (by omega)
      refine ⟨z', y3, y4, y5, ?_⟩
      unfold forL
      rw [e]
      show (match exs T cf cellsB [some u0, some (.int 1), some (.ref 1), some (.int (.ofNat i)), some (.int ws[i]), x5] (hC o0 (.lst (revR (ws.map .int))) z) with
        | .nx r h => forL (.tp [.nm 3, .nm 4]) (exs T cf cellsB) f (.en (i + 1) (.lst 2 (i + 1))) r h
        | .cont r h => forL (.tp [.nm 3, .nm 4]) (exs T cf cellsB) f (.en (i + 1) (.lst 2 (i + 1))) r h
        | .brk r h => .nx r h
        | .ret v h => .ret v h
        | .exc x r h => .exc x r h
        | .fail => .fail) = _
      rw [cells_turn (by omega)]
      exact q
def fCells : Fd := ⟨2, 6, [.set 2 (.or (.bi .list [.sl (.var 0) none (some (.var 1))]) (.lst [.cst (.int 0)])), .fors (.tp [.nm 3, .nm 4]) (.enum (.sl (.var 0) (some (.var 1)) (some (.cst (.int 63))))) cellsB, .ret (.var 2)]⟩
def uS (ns : List Int) : IV := .rol (ns.map .int)
def hE : Hh := ⟨4, .nd (.nd (.nd .nil (.lst []) .nil) (.lst []) .nil) (.lst []) (.nd .nil (.lst [.int 0]) .nil)⟩
theorem cut_ws (n : Int) (rest : List Int) : cut ((n :: rest).map IV.int) (some 1) (some 63) = (rest.take 62).map IV.int := by
  unfold cut
  have b1 : bnd ((n :: rest).map IV.int).length 0 (some 1) = 1 := by
    show (match Nat.ble 1 ((n :: rest).map IV.int).length with
      | true => 1
      | false => ((n :: rest).map IV.int).length) = 1
    have : Nat.ble 1 ((n :: rest).map IV.int).length = true := by
      rw [Nat.ble_eq, List.length_map, List.length_cons]
      omega
    rw [this]
  have b2 : bnd ((n :: rest).map IV.int).length ((n :: rest).map IV.int).length (some 63) = min 63 (rest.length + 1) := by
    show (match Nat.ble 63 ((n :: rest).map IV.int).length with
      | true => 63
      | false => ((n :: rest).map IV.int).length) = _
    cases q : Nat.ble 63 ((n :: rest).map IV.int).length with
    | true =>
      rw [Nat.ble_eq, List.length_map, List.length_cons] at q
      show 63 = _
      omega
    | false =>
      have : ¬ 63 ≤ ((n :: rest).map IV.int).length := fun z => by
        rw [← Nat.ble_eq, q] at z
        cases z
      rw [List.length_map, List.length_cons] at this
      show ((n :: rest).map IV.int).length = _
      rw [List.length_map, List.length_cons]
      omega
  rw [b1, b2]
  show (rest.map IV.int).take (min 63 (rest.length + 1) - 1) = _
  rw [List.map_take]
  have e : min 63 (rest.length + 1) - 1 = min 62 rest.length := by omega
  rw [e]
  apply List.ext_getElem?
  intro j
  rw [List.getElem?_take, List.getElem?_take]
  by_cases h1 : j < min 62 rest.length
  · rw [if_pos h1, if_pos (by omega)]
  · rw [if_neg h1]
    by_cases h2 : j < 62
    · rw [if_pos h2, List.getElem?_eq_none (by rw [List.length_map]; omega)]
    · rw [if_neg h2]
theorem cells_ok {T : Tab} {cf : Nat → List IV → Hh → R IV} (ns : List Int) : (∃ o0 o2 z, body T cf fCells [uS ns, .int 1] h0 = .ok (.ref 1) (hC o0 o2 z)) ∨ body T cf fCells [uS ns, .int 1] h0 = .ok (.ref 2) hE := by
  cases ns with
  | nil => exact .inr (by kernel_rfl)
  | cons n rest =>
    left
    have c1 : cut ((n :: rest).map IV.int) none (some 1) = [.int n] := by
      unfold cut
      have b2 : bnd ((n :: rest).map IV.int).length ((n :: rest).map IV.int).length (some 1) = 1 := by
        show (match Nat.ble 1 ((n :: rest).map IV.int).length with
          | true => 1
          | false => ((n :: rest).map IV.int).length) = 1
        have : Nat.ble 1 ((n :: rest).map IV.int).length = true := by
          rw [Nat.ble_eq, List.length_map, List.length_cons]
          omega
        rw [this]
      rw [b2]
      rfl
    have sl : ev T cf (.sl (.var 0) none (some (.var 1))) [some (uS (n :: rest)), some (.int 1), none, none, none, none] h0 = newL (cut ((n :: rest).map IV.int) none (some 1)) h0 := rfl
    rw [c1] at sl
    have s1 : ex T cf (.set 2 (.or (.bi .list [.sl (.var 0) none (some (.var 1))]) (.lst [.cst (.int 0)]))) [some (uS (n :: rest)), some (.int 1), none, none, none, none] h0 =
        .nx [some (uS (n :: rest)), some (.int 1), some (.ref 1), none, none, none] ⟨2, .nd (.nd .nil (.lst [.int n]) .nil) (.lst [.int n]) .nil⟩ := by
      show (((((ev T cf (.sl (.var 0) none (some (.var 1))) [some (uS (n :: rest)), some (.int 1), none, none, none, none] h0).bd fun x h => R.ok [x] h).bd fun vs h => match vs with
        | [x] => bi1 .list x h
        | [x, y] => bi2 .list x y h
        | _ => .fail).bd fun x h => match tru h x with
        | some true => R.ok x h
        | some false => ev T cf (.lst [.cst (.int 0)]) [some (uS (n :: rest)), some (.int 1), none, none, none, none] h
        | none => .fail).st [some (uS (n :: rest)), some (.int 1), none, none, none, none] fun v h => RS.nx (put [some (uS (n :: rest)), some (.int 1), none, none, none, none] 2 (some v)) h) = _
      rw [sl]
      kernel_rfl
    have s2 : evi T cf (.enum (.sl (.var 0) (some (.var 1)) (some (.cst (.int 63))))) [some (uS (n :: rest)), some (.int 1), some (.ref 1), none, none, none] ⟨2, .nd (.nd .nil (.lst [.int n]) .nil) (.lst [.int n]) .nil⟩ =
        .ok (.en 0 (.lst 2 0)) (hC (.lst [.int n]) (.lst (revR (cut ((n :: rest).map IV.int) (some 1) (some 63)))) n) := by kernel_rfl
    rw [cut_ws] at s2
    have l62 : (rest.take 62).length ≤ 62 := by rw [List.length_take]; omega
    obtain ⟨z', y3, y4, y5, q⟩ := cells_loop (T := T) (cf := cf) (o0 := .lst [.int n]) (u0 := uS (n :: rest)) (ws := rest.take 62) ((rest.take 62).length - 0) 0 turns n none none none rfl (Nat.zero_le _) (by omega) (by show _ < 1000000; omega)
    refine ⟨.lst [.int n], .lst (revR ((rest.take 62).map .int)), z', ?_⟩
    show (match (match ex T cf (.set 2 (.or (.bi .list [.sl (.var 0) none (some (.var 1))]) (.lst [.cst (.int 0)]))) [some (uS (n :: rest)), some (.int 1), none, none, none, none] h0 with
      | .nx r h => exs T cf [.fors (.tp [.nm 3, .nm 4]) (.enum (.sl (.var 0) (some (.var 1)) (some (.cst (.int 63))))) cellsB, .ret (.var 2)] r h
      | z => z) with
      | .nx _ h => (R.ok IV.non h : R IV)
      | .ret v h => .ok v h
      | .exc x _ h => .exc x h
      | _ => .fail) = _
    rw [s1]
    show (match (match ((evi T cf (.enum (.sl (.var 0) (some (.var 1)) (some (.cst (.int 63))))) [some (uS (n :: rest)), some (.int 1), some (.ref 1), none, none, none] ⟨2, .nd (.nd .nil (.lst [.int n]) .nil) (.lst [.int n]) .nil⟩).st [some (uS (n :: rest)), some (.int 1), some (.ref 1), none, none, none] fun k h => forL (.tp [.nm 3, .nm 4]) (exs T cf cellsB) turns k [some (uS (n :: rest)), some (.int 1), some (.ref 1), none, none, none] h) with
      | .nx r h => exs T cf [.ret (.var 2)] r h
      | z => z) with
      | .nx _ h => (R.ok IV.non h : R IV)
      | .ret v h => .ok v h
      | .exc x _ h => .exc x h
      | _ => .fail) = _
    rw [s2]
    show (match (match forL (.tp [.nm 3, .nm 4]) (exs T cf cellsB) turns (.en 0 (.lst 2 0)) [some (uS (n :: rest)), some (.int 1), some (.ref 1), none, none, none] (hC (.lst [.int n]) (.lst (revR ((rest.take 62).map .int))) n) with
      | .nx r h => exs T cf [.ret (.var 2)] r h
      | z => z) with
      | .nx _ h => (R.ok IV.non h : R IV)
      | .ret v h => .ok v h
      | .exc x _ h => .exc x h
      | _ => .fail) = _
    rw [q]
    rfl
theorem mod_r {i j : Int} {h : Hh} (q : ilt 0 j = true) : opr .mod (.int i) (.int j) h = .ok (.int (Int.emod i j)) h := by
  show (match ilt 0 j with
    | true => R.ok (IV.int (Int.emod i j)) h
    | false => R.fail) = _
  rw [q]
theorem fdiv_r {i j : Int} {h : Hh} (q : ilt 0 j = true) (q2 : ilt j 1073741824 = true) : opr .fdiv (.int i) (.int j) h = .ok (.int (Int.ediv i j)) h := by
  show (match ilt 0 j with
    | true => match ilt j 1073741824 with
      | true => R.ok (IV.int (Int.ediv i j)) h
      | false => R.fail
    | false => R.fail) = _
  rw [q, q2]
def fBox : Fd := ⟨2, 3, [(.set 2 (.ite (.cmp .lt (.var 1) (.bi .len [(.var 0)])) (.idx (.var 0) (.var 1)) (.cst (.int 0)))), (.ret (.lst [(.bin .mul (.bi .abs [(.var 2)]) (.bi .int [(.cmp .ge (.bi .abs [(.var 2)]) (.bin .pow (.cst (.int 10)) (.cst (.int 18))))])), (.bin .add (.bin .add (.bin .mod (.bi .int [(.var 2)]) (.cst (.int 2305843009213693951))) (.bin .mul (.cst (.int 39373)) (.var 1))) (.cst (.int 3163036))), (.cst (.int 0))]))]⟩
def hB (o0 o1 o2 : IO) (A B : Int) : Hh := ⟨4, .nd (.nd (.nd .nil (.lst [.int 0, .int B, .int A]) .nil) o1 .nil) o0 (.nd .nil o2 .nil)⟩
theorem box_ok {T : Tab} {cf : Nat → List IV → Hh → R IV} {o0 o2 : IO} {z : Int} : ∃ A B, body T cf fBox [.ref 1, .int 0] (hC o0 o2 z) = .ok (.ref 3) (hB o0 (.lst [.int z]) o2 A B) := by
  have sb : ∀ b, smallI (b2i b) = true := fun b => by cases b <;> rfl
  have s1 : ex T cf (.set 2 (.ite (.cmp .lt (.var 1) (.bi .len [(.var 0)])) (.idx (.var 0) (.var 1)) (.cst (.int 0)))) [some (.ref 1), some (.int 0), none] (hC o0 o2 z) = .nx [some (.ref 1), some (.int 0), some (.int z)] (hC o0 o2 z) := by kernel_rfl
  have ea : ev T cf (.bin .mul (.bi .abs [(.var 2)]) (.bi .int [(.cmp .ge (.bi .abs [(.var 2)]) (.bin .pow (.cst (.int 10)) (.cst (.int 18))))])) [some (.ref 1), some (.int 0), some (.int z)] (hC o0 o2 z) =
      opr .mul (.int (.ofNat (Int.natAbs z))) (.int (b2i (ile (.ofNat 1000000000000000000) (.ofNat (Int.natAbs z))))) (hC o0 o2 z) := by
    cases z <;> kernel_rfl
  rw [mul_r (sb _)] at ea
  have eb : ∃ B, ev T cf (.bin .add (.bin .add (.bin .mod (.bi .int [(.var 2)]) (.cst (.int 2305843009213693951))) (.bin .mul (.cst (.int 39373)) (.var 1))) (.cst (.int 3163036))) [some (.ref 1), some (.int 0), some (.int z)] (hC o0 o2 z) = .ok (.int B) (hC o0 o2 z) := ⟨Int.add (Int.add (Int.emod z 2305843009213693951) 0) 3163036, by kernel_rfl⟩
  obtain ⟨B, eb⟩ := eb
  refine ⟨Int.mul (.ofNat (Int.natAbs z)) (b2i (ile (.ofNat 1000000000000000000) (.ofNat (Int.natAbs z)))), B, ?_⟩
  show (match (match ex T cf (.set 2 (.ite (.cmp .lt (.var 1) (.bi .len [(.var 0)])) (.idx (.var 0) (.var 1)) (.cst (.int 0)))) [some (.ref 1), some (.int 0), none] (hC o0 o2 z) with
    | .nx r h => exs T cf [(.ret (.lst [(.bin .mul (.bi .abs [(.var 2)]) (.bi .int [(.cmp .ge (.bi .abs [(.var 2)]) (.bin .pow (.cst (.int 10)) (.cst (.int 18))))])), (.bin .add (.bin .add (.bin .mod (.bi .int [(.var 2)]) (.cst (.int 2305843009213693951))) (.bin .mul (.cst (.int 39373)) (.var 1))) (.cst (.int 3163036))), (.cst (.int 0))]))] r h
    | z => z) with
    | .nx _ h => (R.ok IV.non h : R IV)
    | .ret v h => .ok v h
    | .exc x _ h => .exc x h
    | _ => .fail) = _
  rw [s1]
  show (match (match ((((ev T cf (.bin .mul (.bi .abs [(.var 2)]) (.bi .int [(.cmp .ge (.bi .abs [(.var 2)]) (.bin .pow (.cst (.int 10)) (.cst (.int 18))))])) [some (.ref 1), some (.int 0), some (.int z)] (hC o0 o2 z)).bd fun x h => (((ev T cf (.bin .add (.bin .add (.bin .mod (.bi .int [(.var 2)]) (.cst (.int 2305843009213693951))) (.bin .mul (.cst (.int 39373)) (.var 1))) (.cst (.int 3163036))) [some (.ref 1), some (.int 0), some (.int z)] h).bd fun x h => (evs T cf [(.cst (.int 0))] [some (.ref 1), some (.int 0), some (.int z)] h).bd fun xs h => R.ok (x :: xs) h).bd fun xs h => R.ok (x :: xs) h)).bd newL).st [some (.ref 1), some (.int 0), some (.int z)] fun v h => RS.ret v h) with
    | .nx r h => exs T cf [] r h
    | z => z) with
    | .nx _ h => (R.ok IV.non h : R IV)
    | .ret v h => .ok v h
    | .exc x _ h => .exc x h
    | _ => .fail) = _
  rw [ea]
  show (match (match (((((ev T cf (.bin .add (.bin .add (.bin .mod (.bi .int [(.var 2)]) (.cst (.int 2305843009213693951))) (.bin .mul (.cst (.int 39373)) (.var 1))) (.cst (.int 3163036))) [some (.ref 1), some (.int 0), some (.int z)] (hC o0 o2 z)).bd fun x h => (evs T cf [(.cst (.int 0))] [some (.ref 1), some (.int 0), some (.int z)] h).bd fun xs h => R.ok (x :: xs) h).bd fun xs h => R.ok (_ :: xs) h).bd newL).st [some (.ref 1), some (.int 0), some (.int z)] fun v h => RS.ret v h) with
    | .nx r h => exs T cf [] r h
    | z => z) with
    | .nx _ h => (R.ok IV.non h : R IV)
    | .ret v h => .ok v h
    | .exc x _ h => .exc x h
    | _ => .fail) = _
  rw [eb]
  kernel_rfl
def fTake : Fd := ⟨2, 6, [(.ifs (.cmp .gt (.idx (.var 0) (.cst (.int 0))) (.cst (.int 0))) [(.set 2 (.bin .mod (.bi .int [(.idx (.var 0) (.cst (.int 0)))]) (.var 1))), (.sub (.var 0) (.cst (.int 0)) (.bin .fdiv (.idx (.var 0) (.cst (.int 0))) (.var 1))), (.ret (.var 2))] []), (.sub (.var 0) (.cst (.int 2)) (.bin .add (.idx (.var 0) (.cst (.int 2))) (.cst (.int 1)))), (.set 3 (.bin .mod (.bi .int [(.bin .mul (.bin .add (.idx (.var 0) (.cst (.int 1))) (.bin .mul (.cst (.int 48271)) (.idx (.var 0) (.cst (.int 2))))) (.bin .add (.cst (.int 39373)) (.idx (.var 0) (.cst (.int 2)))))]) (.cst (.int 2147483647)))), (.set 4 (.bin .add (.bin .mod (.bi .int [(.var 3)]) (.cst (.int 40009))) (.cst (.int 7)))), (.set 5 (.bin .mod (.bi .int [(.bin .mul (.bin .add (.bin .add (.var 3) (.idx (.var 0) (.cst (.int 2)))) (.bin .fdiv (.idx (.var 0) (.cst (.int 1))) (.cst (.int 1000003)))) (.var 4))]) (.cst (.int 2147483629)))), (.ret (.bin .mod (.bi .int [(.bin .fdiv (.bin .mod (.bi .int [(.bin .add (.bin .mul (.var 5) (.cst (.int 48271))) (.var 3))]) (.cst (.int 2147483587))) (.cst (.int 64)))]) (.var 1)))]⟩
theorem take_pos {T : Tab} {cf : Nat → List IV → Hh → R IV} {o0 o1 o2 : IO} {A B m : Int} (m0 : ilt 0 m = true) (m1 : ilt m 1073741824 = true) (q : ilt 0 A = true) :
    body T cf fTake [.ref 3, .int m] (hB o0 o1 o2 A B) = .ok (.int (Int.emod A m)) ⟨4, .nd (.nd (.nd .nil (.lst [.int 0, .int B, .int (Int.ediv A m)]) .nil) o1 .nil) o0 (.nd .nil o2 .nil)⟩ := by
  show (match (match (match ilt 0 A with
    | true => exs T cf [(.set 2 (.bin .mod (.bi .int [(.idx (.var 0) (.cst (.int 0)))]) (.var 1))), (.sub (.var 0) (.cst (.int 0)) (.bin .fdiv (.idx (.var 0) (.cst (.int 0))) (.var 1))), (.ret (.var 2))] [some (.ref 3), some (.int m), none, none, none, none] (hB o0 o1 o2 A B)
    | false => exs T cf [] [some (.ref 3), some (.int m), none, none, none, none] (hB o0 o1 o2 A B)) with
    | .nx r h => exs T cf _ r h
    | z => z) with
    | .nx _ h => (R.ok IV.non h : R IV)
    | .ret v h => .ok v h
    | .exc x _ h => .exc x h
    | _ => .fail) = _
  rw [q]
  dsimp only
  have s1 : ex T cf (.set 2 (.bin .mod (.bi .int [(.idx (.var 0) (.cst (.int 0)))]) (.var 1))) [some (.ref 3), some (.int m), none, none, none, none] (hB o0 o1 o2 A B) =
      (opr .mod (.int A) (.int m) (hB o0 o1 o2 A B)).st [some (.ref 3), some (.int m), none, none, none, none] fun v h => RS.nx (put [some (.ref 3), some (.int m), none, none, none, none] 2 (some v)) h := by kernel_rfl
  rw [mod_r m0] at s1
  have s2 : ex T cf (.sub (.var 0) (.cst (.int 0)) (.bin .fdiv (.idx (.var 0) (.cst (.int 0))) (.var 1))) [some (.ref 3), some (.int m), some (.int (Int.emod A m)), none, none, none] (hB o0 o1 o2 A B) =
      ((opr .fdiv (.int A) (.int m) (hB o0 o1 o2 A B)).st [some (.ref 3), some (.int m), some (.int (Int.emod A m)), none, none, none] fun v h => RS.nx [some (.ref 3), some (.int m), some (.int (Int.emod A m)), none, none, none] ⟨4, .nd (.nd (.nd .nil (.lst [.int 0, .int B, v]) .nil) o1 .nil) o0 (.nd .nil o2 .nil)⟩) := by
    have e : ev T cf (.bin .fdiv (.idx (.var 0) (.cst (.int 0))) (.var 1)) [some (.ref 3), some (.int m), some (.int (Int.emod A m)), none, none, none] (hB o0 o1 o2 A B) = opr .fdiv (.int A) (.int m) (hB o0 o1 o2 A B) := by kernel_rfl
    unfold ex
    rw [e, fdiv_r m0 m1]
    kernel_rfl
  rw [fdiv_r m0 m1] at s2
  show (match (match (match ex T cf (.set 2 (.bin .mod (.bi .int [(.idx (.var 0) (.cst (.int 0)))]) (.var 1))) [some (.ref 3), some (.int m), none, none, none, none] (hB o0 o1 o2 A B) with
    | .nx r h => exs T cf [(.sub (.var 0) (.cst (.int 0)) (.bin .fdiv (.idx (.var 0) (.cst (.int 0))) (.var 1))), (.ret (.var 2))] r h
    | z => z) with
    | .nx r h => exs T cf _ r h
    | z => z) with
    | .nx _ h => (R.ok IV.non h : R IV)
    | .ret v h => .ok v h
    | .exc x _ h => .exc x h
    | _ => .fail) = _
  rw [s1]
  show (match (match (match ex T cf (.sub (.var 0) (.cst (.int 0)) (.bin .fdiv (.idx (.var 0) (.cst (.int 0))) (.var 1))) [some (.ref 3), some (.int m), some (.int (Int.emod A m)), none, none, none] (hB o0 o1 o2 A B) with
    | .nx r h => exs T cf [(.ret (.var 2))] r h
    | z => z) with
    | .nx r h => exs T cf _ r h
    | z => z) with
    | .nx _ h => (R.ok IV.non h : R IV)
    | .ret v h => .ok v h
    | .exc x _ h => .exc x h
    | _ => .fail) = _
  rw [s2]
  rfl
def hB' (o0 o1 o2 : IO) (A B : Int) : Hh := ⟨4, .nd (.nd (.nd .nil (.lst [.int 1, .int B, .int A]) .nil) o1 .nil) o0 (.nd .nil o2 .nil)⟩
theorem small_mod (x : Int) : smallI (Int.add (Int.emod x 40009) 7) = true := by
  show Nat.ble (Int.natAbs (x % 40009 + 7) + 1) big = true
  rw [Nat.ble_eq]
  have h1 : 0 ≤ x % 40009 := Int.emod_nonneg _ (by decide)
  have h2 : x % 40009 < 40009 := Int.emod_lt_of_pos _ (by decide)
  show Int.natAbs (x % 40009 + 7) + 1 ≤ 18446744073709551616
  omega
theorem ev_bin {T : Tab} {cf : Nat → List IV → Hh → R IV} {o : Op} {a b : E} {x y : IV} {r : Rho} {h h1 h2 : Hh} (e1 : ev T cf a r h = .ok x h1) (e2 : ev T cf b r h1 = .ok y h2) : ev T cf (.bin o a b) r h = opr o x y h2 := by
  show ((ev T cf a r h).bd fun x h => (ev T cf b r h).bd fun y h => opr o x y h) = _
  rw [e1]
  show ((ev T cf b r h1).bd fun y h => opr o x y h) = _
  rw [e2]
  rfl
theorem ev_int {T : Tab} {cf : Nat → List IV → Hh → R IV} {a : E} {i : Int} {r : Rho} {h h1 : Hh} (e1 : ev T cf a r h = .ok (.int i) h1) : ev T cf (.bi .int [a]) r h = .ok (.int i) h1 := by
  show ((((ev T cf a r h).bd fun x h => R.ok [x] h).bd fun vs h => match vs with
    | [x] => bi1 .int x h
    | [x, y] => bi2 .int x y h
    | _ => R.fail)) = _
  rw [e1]
  rfl
theorem ex_set {T : Tab} {cf : Nat → List IV → Hh → R IV} {i : Nat} {e : E} {v : IV} {r : Rho} {h h1 : Hh} (e1 : ev T cf e r h = .ok v h1) : ex T cf (.set i e) r h = .nx (put r i (some v)) h1 := by
  show ((ev T cf e r h).st r fun v h => RS.nx (put r i (some v)) h) = _
  rw [e1]
  rfl
def takeT : List S := [(.set 3 (.bin .mod (.bi .int [(.bin .mul (.bin .add (.idx (.var 0) (.cst (.int 1))) (.bin .mul (.cst (.int 48271)) (.idx (.var 0) (.cst (.int 2))))) (.bin .add (.cst (.int 39373)) (.idx (.var 0) (.cst (.int 2)))))]) (.cst (.int 2147483647)))), (.set 4 (.bin .add (.bin .mod (.bi .int [(.var 3)]) (.cst (.int 40009))) (.cst (.int 7)))), (.set 5 (.bin .mod (.bi .int [(.bin .mul (.bin .add (.bin .add (.var 3) (.idx (.var 0) (.cst (.int 2)))) (.bin .fdiv (.idx (.var 0) (.cst (.int 1))) (.cst (.int 1000003)))) (.var 4))]) (.cst (.int 2147483629)))), (.ret (.bin .mod (.bi .int [(.bin .fdiv (.bin .mod (.bi .int [(.bin .add (.bin .mul (.var 5) (.cst (.int 48271))) (.var 3))]) (.cst (.int 2147483587))) (.cst (.int 64)))]) (.var 1)))]
theorem exs_nx {T : Tab} {cf : Nat → List IV → Hh → R IV} {s : S} {ss : List S} {r r' : Rho} {h h' : Hh} (e : ex T cf s r h = .nx r' h') : exs T cf (s :: ss) r h = exs T cf ss r' h' := by
  show (match ex T cf s r h with
    | .nx r h => exs T cf ss r h
    | z => z) = _
  rw [e]
theorem exs_ret {T : Tab} {cf : Nat → List IV → Hh → R IV} {s : S} {ss : List S} {r : Rho} {v : IV} {h h' : Hh} (e : ex T cf s r h = .ret v h') : exs T cf (s :: ss) r h = .ret v h' := by
  show (match ex T cf s r h with
    | .nx r h => exs T cf ss r h
    | z => z) = _
  rw [e]
theorem take_tail {T : Tab} {cf : Nat → List IV → Hh → R IV} {o0 o1 o2 : IO} {A B m : Int} (m0 : ilt 0 m = true) :
    ∃ q, exs T cf takeT [some (.ref 3), some (.int m), none, none, none, none] (hB' o0 o1 o2 A B) = .ret (.int (Int.emod q m)) (hB' o0 o1 o2 A B) := by
  have a1 : ev T cf (.bin .add (.idx (.var 0) (.cst (.int 1))) (.bin .mul (.cst (.int 48271)) (.idx (.var 0) (.cst (.int 2))))) [some (.ref 3), some (.int m), none, none, none, none] (hB' o0 o1 o2 A B) = .ok (.int (Int.add B 48271)) (hB' o0 o1 o2 A B) := by kernel_rfl
  have a2 : ev T cf (.bin .add (.cst (.int 39373)) (.idx (.var 0) (.cst (.int 2)))) [some (.ref 3), some (.int m), none, none, none, none] (hB' o0 o1 o2 A B) = .ok (.int 39374) (hB' o0 o1 o2 A B) := by kernel_rfl
  have s1 : ∃ x, ex T cf (.set 3 (.bin .mod (.bi .int [(.bin .mul (.bin .add (.idx (.var 0) (.cst (.int 1))) (.bin .mul (.cst (.int 48271)) (.idx (.var 0) (.cst (.int 2))))) (.bin .add (.cst (.int 39373)) (.idx (.var 0) (.cst (.int 2)))))]) (.cst (.int 2147483647)))) [some (.ref 3), some (.int m), none, none, none, none] (hB' o0 o1 o2 A B) = .nx [some (.ref 3), some (.int m), none, some (.int x), none, none] (hB' o0 o1 o2 A B) := ⟨Int.emod (Int.mul (Int.add B 48271) 39374) 2147483647, ex_set ((ev_bin (ev_int ((ev_bin a1 a2).trans (mul_r (by rfl)))) (y := .int 2147483647) (h2 := (hB' o0 o1 o2 A B)) rfl).trans (mod_r (by rfl)))⟩
  obtain ⟨x, s1⟩ := s1
  have s2 : ex T cf (.set 4 (.bin .add (.bin .mod (.bi .int [(.var 3)]) (.cst (.int 40009))) (.cst (.int 7)))) [some (.ref 3), some (.int m), none, some (.int x), none, none] (hB' o0 o1 o2 A B) = .nx [some (.ref 3), some (.int m), none, some (.int x), some (.int (Int.add (Int.emod x 40009) 7)), none] (hB' o0 o1 o2 A B) := by kernel_rfl
  have a3 : ev T cf (.bin .add (.bin .add (.var 3) (.idx (.var 0) (.cst (.int 2)))) (.bin .fdiv (.idx (.var 0) (.cst (.int 1))) (.cst (.int 1000003)))) [some (.ref 3), some (.int m), none, some (.int x), some (.int (Int.add (Int.emod x 40009) 7)), none] (hB' o0 o1 o2 A B) = .ok (.int (Int.add (Int.add x 1) (Int.ediv B 1000003))) (hB' o0 o1 o2 A B) := by kernel_rfl
  have s3 : ∃ y, ex T cf (.set 5 (.bin .mod (.bi .int [(.bin .mul (.bin .add (.bin .add (.var 3) (.idx (.var 0) (.cst (.int 2)))) (.bin .fdiv (.idx (.var 0) (.cst (.int 1))) (.cst (.int 1000003)))) (.var 4))]) (.cst (.int 2147483629)))) [some (.ref 3), some (.int m), none, some (.int x), some (.int (Int.add (Int.emod x 40009) 7)), none] (hB' o0 o1 o2 A B) = .nx [some (.ref 3), some (.int m), none, some (.int x), some (.int (Int.add (Int.emod x 40009) 7)), some (.int y)] (hB' o0 o1 o2 A B) := ⟨Int.emod (Int.mul (Int.add (Int.add x 1) (Int.ediv B 1000003)) (Int.add (Int.emod x 40009) 7)) 2147483629, ex_set ((ev_bin (ev_int ((ev_bin a3 (y := .int (Int.add (Int.emod x 40009) 7)) (h2 := (hB' o0 o1 o2 A B)) rfl).trans (mul_r (small_mod x)))) (y := .int 2147483629) (h2 := (hB' o0 o1 o2 A B)) rfl).trans (mod_r (by rfl)))⟩
  obtain ⟨y, s3⟩ := s3
  have e4 : ev T cf (.bin .mul (.var 5) (.cst (.int 48271))) [some (.ref 3), some (.int m), none, some (.int x), some (.int (Int.add (Int.emod x 40009) 7)), some (.int y)] (hB' o0 o1 o2 A B) = .ok (.int (Int.mul y 48271)) (hB' o0 o1 o2 A B) := by
    show opr .mul (.int y) (.int 48271) (hB' o0 o1 o2 A B) = _
    exact mul_r (by rfl)
  refine ⟨Int.ediv (Int.emod (Int.add (Int.mul y 48271) x) 2147483587) 64, ?_⟩
  unfold takeT
  rw [exs_nx s1, exs_nx s2, exs_nx s3]
  refine exs_ret ?_
  show (ev T cf (.bin .mod (.bi .int [(.bin .fdiv (.bin .mod (.bi .int [(.bin .add (.bin .mul (.var 5) (.cst (.int 48271))) (.var 3))]) (.cst (.int 2147483587))) (.cst (.int 64)))]) (.var 1)) [some (.ref 3), some (.int m), none, some (.int x), some (.int (Int.add (Int.emod x 40009) 7)), some (.int y)] (hB' o0 o1 o2 A B)).st [some (.ref 3), some (.int m), none, some (.int x), some (.int (Int.add (Int.emod x 40009) 7)), some (.int y)] (fun v h => RS.ret v h) = _
  rw [ev_bin (ev_int ((ev_bin ((ev_bin (ev_int ((ev_bin e4 (y := .int x) (h2 := hB' o0 o1 o2 A B) rfl).trans (c := .ok (.int (Int.add (Int.mul y 48271) x)) (hB' o0 o1 o2 A B)) rfl)) (y := .int 2147483587) (h2 := hB' o0 o1 o2 A B) rfl).trans (mod_r (by rfl))) (y := .int 64) (h2 := hB' o0 o1 o2 A B) rfl).trans (fdiv_r (by rfl) (by rfl)))) (y := .int m) (h2 := hB' o0 o1 o2 A B) rfl, mod_r m0]
  rfl
theorem take_neg {T : Tab} {cf : Nat → List IV → Hh → R IV} {o0 o1 o2 : IO} {A B m : Int} (m0 : ilt 0 m = true) (q : ilt 0 A = false) :
    ∃ q, body T cf fTake [.ref 3, .int m] (hB o0 o1 o2 A B) = .ok (.int (Int.emod q m)) (hB' o0 o1 o2 A B) := by
  obtain ⟨x, e⟩ := take_tail (T := T) (cf := cf) (o0 := o0) (o1 := o1) (o2 := o2) (A := A) (B := B) m0
  refine ⟨x, ?_⟩
  show (match (match (match ilt 0 A with
    | true => exs T cf [(.set 2 (.bin .mod (.bi .int [(.idx (.var 0) (.cst (.int 0)))]) (.var 1))), (.sub (.var 0) (.cst (.int 0)) (.bin .fdiv (.idx (.var 0) (.cst (.int 0))) (.var 1))), (.ret (.var 2))] [some (.ref 3), some (.int m), none, none, none, none] (hB o0 o1 o2 A B)
    | false => exs T cf [] [some (.ref 3), some (.int m), none, none, none, none] (hB o0 o1 o2 A B)) with
    | .nx r h => exs T cf ((.sub (.var 0) (.cst (.int 2)) (.bin .add (.idx (.var 0) (.cst (.int 2))) (.cst (.int 1)))) :: takeT) r h
    | z => z) with
    | .nx _ h => (R.ok IV.non h : R IV)
    | .ret v h => .ok v h
    | .exc x _ h => .exc x h
    | _ => .fail) = _
  rw [q]
  have s1 : ex T cf (.sub (.var 0) (.cst (.int 2)) (.bin .add (.idx (.var 0) (.cst (.int 2))) (.cst (.int 1)))) [some (.ref 3), some (.int m), none, none, none, none] (hB o0 o1 o2 A B) = .nx [some (.ref 3), some (.int m), none, none, none, none] (hB' o0 o1 o2 A B) := by kernel_rfl
  show (match exs T cf ((.sub (.var 0) (.cst (.int 2)) (.bin .add (.idx (.var 0) (.cst (.int 2))) (.cst (.int 1)))) :: takeT) [some (.ref 3), some (.int m), none, none, none, none] (hB o0 o1 o2 A B) with
    | .nx _ h => (R.ok IV.non h : R IV)
    | .ret v h => .ok v h
    | .exc x _ h => .exc x h
    | _ => .fail) = _
  rw [exs_nx s1, e]
theorem take_ok {T : Tab} {cf : Nat → List IV → Hh → R IV} {o0 o1 o2 : IO} {A B m : Int} (m0 : ilt 0 m = true) (m1 : ilt m 1073741824 = true) :
    ∃ q h, body T cf fTake [.ref 3, .int m] (hB o0 o1 o2 A B) = .ok (.int (Int.emod q m)) h := by
  cases q : ilt 0 A with
  | true => exact ⟨_, _, take_pos m0 m1 q⟩
  | false =>
    obtain ⟨x, e⟩ := take_neg (T := T) (cf := cf) (o0 := o0) (o1 := o1) (o2 := o2) (A := A) (B := B) m0 q
    exact ⟨_, _, e⟩
def hF : Hh := ⟨5, .nd (.nd (.nd .nil (.lst []) .nil) (.lst []) .nil) (.lst []) (.nd (.nd .nil (.lst [.int 0, .int 3163036, .int 0]) .nil) (.lst [.int 0]) .nil)⟩
theorem boxE {T : Tab} {cf : Nat → List IV → Hh → R IV} : body T cf fBox [.ref 2, .int 0] hE = .ok (.ref 4) hF := by kernel_rfl
theorem takeE {T : Tab} {cf : Nat → List IV → Hh → R IV} {m : Int} (m0 : ilt 0 m = true) : ∃ q h, body T cf fTake [.ref 4, .int m] hF = .ok (.int (Int.emod q m)) h := by
  have s0 : ex T cf (.ifs (.cmp .gt (.idx (.var 0) (.cst (.int 0))) (.cst (.int 0))) [(.set 2 (.bin .mod (.bi .int [(.idx (.var 0) (.cst (.int 0)))]) (.var 1))), (.sub (.var 0) (.cst (.int 0)) (.bin .fdiv (.idx (.var 0) (.cst (.int 0))) (.var 1))), (.ret (.var 2))] []) [some (.ref 4), some (.int m), none, none, none, none] hF = .nx [some (.ref 4), some (.int m), none, none, none, none] hF := by kernel_rfl
  have s1 : ex T cf (.sub (.var 0) (.cst (.int 2)) (.bin .add (.idx (.var 0) (.cst (.int 2))) (.cst (.int 1)))) [some (.ref 4), some (.int m), none, none, none, none] hF = .nx [some (.ref 4), some (.int m), none, none, none, none] ⟨5, .nd (.nd (.nd .nil (.lst []) .nil) (.lst []) .nil) (.lst []) (.nd (.nd .nil (.lst [.int 1, .int 3163036, .int 0]) .nil) (.lst [.int 0]) .nil)⟩ := by kernel_rfl
  have s2 : ex T cf (.set 3 (.bin .mod (.bi .int [(.bin .mul (.bin .add (.idx (.var 0) (.cst (.int 1))) (.bin .mul (.cst (.int 48271)) (.idx (.var 0) (.cst (.int 2))))) (.bin .add (.cst (.int 39373)) (.idx (.var 0) (.cst (.int 2)))))]) (.cst (.int 2147483647)))) [some (.ref 4), some (.int m), none, none, none, none] ⟨5, .nd (.nd (.nd .nil (.lst []) .nil) (.lst []) .nil) (.lst []) (.nd (.nd .nil (.lst [.int 1, .int 3163036, .int 0]) .nil) (.lst [.int 0]) .nil)⟩ = .nx [some (.ref 4), some (.int m), none, some (.int 1887950292), none, none] ⟨5, .nd (.nd (.nd .nil (.lst []) .nil) (.lst []) .nil) (.lst []) (.nd (.nd .nil (.lst [.int 1, .int 3163036, .int 0]) .nil) (.lst [.int 0]) .nil)⟩ := by kernel_rfl
  have s3 : ex T cf (.set 4 (.bin .add (.bin .mod (.bi .int [(.var 3)]) (.cst (.int 40009))) (.cst (.int 7)))) [some (.ref 4), some (.int m), none, some (.int 1887950292), none, none] ⟨5, .nd (.nd (.nd .nil (.lst []) .nil) (.lst []) .nil) (.lst []) (.nd (.nd .nil (.lst [.int 1, .int 3163036, .int 0]) .nil) (.lst [.int 0]) .nil)⟩ = .nx [some (.ref 4), some (.int m), none, some (.int 1887950292), some (.int 5607), none] ⟨5, .nd (.nd (.nd .nil (.lst []) .nil) (.lst []) .nil) (.lst []) (.nd (.nd .nil (.lst [.int 1, .int 3163036, .int 0]) .nil) (.lst [.int 0]) .nil)⟩ := by kernel_rfl
  have s4 : ex T cf (.set 5 (.bin .mod (.bi .int [(.bin .mul (.bin .add (.bin .add (.var 3) (.idx (.var 0) (.cst (.int 2)))) (.bin .fdiv (.idx (.var 0) (.cst (.int 1))) (.cst (.int 1000003)))) (.var 4))]) (.cst (.int 2147483629)))) [some (.ref 4), some (.int m), none, some (.int 1887950292), some (.int 5607), none] ⟨5, .nd (.nd (.nd .nil (.lst []) .nil) (.lst []) .nil) (.lst []) (.nd (.nd .nil (.lst [.int 1, .int 3163036, .int 0]) .nil) (.lst [.int 0]) .nil)⟩ = .nx [some (.ref 4), some (.int m), none, some (.int 1887950292), some (.int 5607), some (.int 790502331)] ⟨5, .nd (.nd (.nd .nil (.lst []) .nil) (.lst []) .nil) (.lst []) (.nd (.nd .nil (.lst [.int 1, .int 3163036, .int 0]) .nil) (.lst [.int 0]) .nil)⟩ := by kernel_rfl
  have s5 : ev T cf (.bi .int [(.bin .fdiv (.bin .mod (.bi .int [(.bin .add (.bin .mul (.var 5) (.cst (.int 48271))) (.var 3))]) (.cst (.int 2147483587))) (.cst (.int 64)))]) [some (.ref 4), some (.int m), none, some (.int 1887950292), some (.int 5607), some (.int 790502331)] ⟨5, .nd (.nd (.nd .nil (.lst []) .nil) (.lst []) .nil) (.lst []) (.nd (.nd .nil (.lst [.int 1, .int 3163036, .int 0]) .nil) (.lst [.int 0]) .nil)⟩ = .ok (.int 24845509) ⟨5, .nd (.nd (.nd .nil (.lst []) .nil) (.lst []) .nil) (.lst []) (.nd (.nd .nil (.lst [.int 1, .int 3163036, .int 0]) .nil) (.lst [.int 0]) .nil)⟩ := by kernel_rfl
  have s6 : ex T cf (.ret (.bin .mod (.bi .int [(.bin .fdiv (.bin .mod (.bi .int [(.bin .add (.bin .mul (.var 5) (.cst (.int 48271))) (.var 3))]) (.cst (.int 2147483587))) (.cst (.int 64)))]) (.var 1))) [some (.ref 4), some (.int m), none, some (.int 1887950292), some (.int 5607), some (.int 790502331)] ⟨5, .nd (.nd (.nd .nil (.lst []) .nil) (.lst []) .nil) (.lst []) (.nd (.nd .nil (.lst [.int 1, .int 3163036, .int 0]) .nil) (.lst [.int 0]) .nil)⟩ = .ret (.int (Int.emod 24845509 m)) ⟨5, .nd (.nd (.nd .nil (.lst []) .nil) (.lst []) .nil) (.lst []) (.nd (.nd .nil (.lst [.int 1, .int 3163036, .int 0]) .nil) (.lst [.int 0]) .nil)⟩ := by
    show (ev T cf (.bin .mod (.bi .int [(.bin .fdiv (.bin .mod (.bi .int [(.bin .add (.bin .mul (.var 5) (.cst (.int 48271))) (.var 3))]) (.cst (.int 2147483587))) (.cst (.int 64)))]) (.var 1)) [some (.ref 4), some (.int m), none, some (.int 1887950292), some (.int 5607), some (.int 790502331)] ⟨5, .nd (.nd (.nd .nil (.lst []) .nil) (.lst []) .nil) (.lst []) (.nd (.nd .nil (.lst [.int 1, .int 3163036, .int 0]) .nil) (.lst [.int 0]) .nil)⟩).st [some (.ref 4), some (.int m), none, some (.int 1887950292), some (.int 5607), some (.int 790502331)] (fun v h => RS.ret v h) = _
    rw [ev_bin s5 (y := .int m) (h2 := ⟨5, .nd (.nd (.nd .nil (.lst []) .nil) (.lst []) .nil) (.lst []) (.nd (.nd .nil (.lst [.int 1, .int 3163036, .int 0]) .nil) (.lst [.int 0]) .nil)⟩) rfl, mod_r m0]
    rfl
  refine ⟨24845509, ⟨5, .nd (.nd (.nd .nil (.lst []) .nil) (.lst []) .nil) (.lst []) (.nd (.nd .nil (.lst [.int 1, .int 3163036, .int 0]) .nil) (.lst [.int 0]) .nil)⟩, ?_⟩
  show (match exs T cf (_ :: _ :: takeT) [some (.ref 4), some (.int m), none, none, none, none] hF with
    | .nx _ h => (R.ok IV.non h : R IV)
    | .ret v h => .ok v h
    | .exc x _ h => .exc x h
    | _ => .fail) = _
  unfold takeT
  rw [exs_nx s0, exs_nx s1, exs_nx s2, exs_nx s3, exs_nx s4, exs_ret s6]
theorem draw_ok {T : Tab} {cf cc cb ct : Nat → List IV → Hh → R IV} {ic ib it : Nat} (hc : ∀ vs h, cf ic vs h = body T cc fCells vs h) (hb : ∀ vs h, cf ib vs h = body T cb fBox vs h) (ht : ∀ vs h, cf it vs h = body T ct fTake vs h)
    {m : Int} (m0 : ilt 0 m = true) (m1 : ilt m 1073741824 = true) {r : Rho} (ns : List Int) (g0 : get r 0 = some (uS ns)) :
    ∃ q h, ev T cf (.call it [.call ib [.call ic [.var 0, .cst (.int 1)], .cst (.int 0)], .cst (.int m)]) r h0 = .ok (.int (Int.emod q m)) h := by
  have g1 : ∀ h, ev T cf (.var 0) r h = (.ok (uS ns) h : R IV) := fun h => by
    show ofO (get r 0) h = _
    rw [g0]
    rfl
  have c1 : ∀ {v h}, body T cc fCells [uS ns, .int 1] h0 = .ok v h → ev T cf (.call ic [.var 0, .cst (.int 1)]) r h0 = .ok v h := fun {v h} e => by
    show (((ev T cf (.var 0) r h0).bd fun x h => (evs T cf [.cst (.int 1)] r h).bd fun xs h => R.ok (x :: xs) h).bd fun vs h => cf ic vs h) = _
    rw [g1]
    show cf ic [uS ns, .int 1] h0 = _
    rw [hc, e]
  have c2 : ∀ {f k} {a : E} {x v : IV} {h h2 h3}, ev T cf a r h = .ok x h2 → cf f [x, k] h2 = .ok v h3 → ev T cf (.call f [a, .cst k]) r h = .ok v h3 := fun {f k a x v h h2 h3} e e2 => by
    show (((ev T cf a r h).bd fun x h => (evs T cf [.cst k] r h).bd fun xs h => R.ok (x :: xs) h).bd fun vs h => cf f vs h) = _
    rw [e]
    exact e2
  rcases cells_ok (T := T) (cf := cc) ns with ⟨o0, o2, z, e⟩ | e
  · obtain ⟨A, B, e2⟩ := box_ok (T := T) (cf := cb) (o0 := o0) (o2 := o2) (z := z)
    obtain ⟨q, h, e3⟩ := take_ok (T := T) (cf := ct) (o0 := o0) (o1 := .lst [.int z]) (o2 := o2) (A := A) (B := B) m0 m1
    exact ⟨q, h, c2 (c2 (c1 e) ((hb _ _).trans e2)) ((ht _ _).trans e3)⟩
  · obtain ⟨q, h, e3⟩ := takeE (T := T) (cf := ct) m0
    exact ⟨q, h, c2 (c2 (c1 e) ((hb _ _).trans boxE)) ((ht _ _).trans e3)⟩
end Rk
namespace Rk
noncomputable section
open PySem PySem.Spec PyProof.Rows L2
section
variable {g : Gd} {T : Tab} {p : Pd} {ds : List Df} {P : Program} {w : World} {mg : Str → Option Value} {base : Heap}
theorem memo_all (O : TpOk g T p ds P w mg base) {l : List (Nat × Bool)} {n : Nat} (hl : ∀ i e b, at? ds i = some e → look i l = some b → e.ps.length = 0 ∧ ∃ h', cfnP T (ds.map Df.fd) n i [] h0 = .ok (.bl b) h') :
    AllOk g p ds P w mg base (2 * n + 2) (memo l (cfnP T (ds.map Df.fd) n)) ∧ Cfl g (memo l (cfnP T (ds.map Df.fd) n)) := by
  refine ⟨fun i d hd => ?_, cfl_memo (fun i b ps hd hb => ?_) (cfl_cfnP O n)⟩
  · obtain ⟨fd, h2, h3, F⟩ := all_okP O n i d hd
    exact ⟨fd, h2, h3, memo_ok (fun b e => hl i d b hd e) F⟩
  · obtain ⟨d, e, rfl⟩ := dps_at O hd
    exact (hl i d b e hb).1
theorem script_rv {K : Pd} {H : Hp} {a : Addr} {ns : List Int} (h : SqL K H a (ns.map V.int)) : RV K (fun _ => none) H (uS ns) (.ref a) := by
  have r : ∀ ns : List Int, RVs K (fun _ => none) H (ns.map IV.int) (ns.map V.int) := fun ns => by
    induction ns with
    | nil => exact .nil
    | cons n ns ih => exact .cons (.int n) ih
  refine .rol ?_ (r ns)
  rcases h with (h | h) | h
  · exact .inl ⟨h, fun _ z => by cases z⟩
  · exact .inr (.inl h)
  · exact .inr (.inr h)
theorem cx_false (H : Hp) (s : Shared) (e : Value) (s' : Shared) : L2.CX P w [] H s (fun _ _ _ => False) e s' → False := fun ⟨_, _, _, _, _, _, _, _, _, _, _, _, z⟩ => z
theorem law_at {l : PySem.W.OpenLaw} {n most : Nat} {mm : List (Nat × Bool)} (O : ∀ base, TpOk g T p ds l.prog w mg base) (hl : ∀ i e b, at? ds i = some e → look i mm = some b → e.ps.length = 0 ∧ ∃ h', cfnP T (ds.map Df.fd) n i [] h0 = .ok (.bl b) h')
    {i : Nat} {d : Df} (hd : at? ds i = some d) {x : Str} (hx : d.ps = [x]) (hfn : at? g.fns i = some (d.name, d.ps)) {fa : Addr} (hf : mg d.name = some (.ref fa)) {h : Heap}
    (ans : ∀ ns : List Int, ns.length ≤ most → ∃ h', Rk.body T (memo mm (cfnP T (ds.map Df.fd) n)) d.fd [uS ns] h0 = .ok (.bl true) h') : LamX.LawAtS l w p.K (L2.CX l.prog w) (2 * n + 4) most x mg fa h := by
  obtain ⟨fd, F, b⟩ := (O h).dfs i d hd
  have h1 := ((O h).fns i _ _ hfn).1
  have e : p.dA i = fa := by
    rw [h1] at hf
    cases hf
    rfl
  subst e
  have hb : ∀ (s : Shared) (u : Value), BindsTo s fd ⟨[u], []⟩ [(x, u)] := fun s u => by
    have := b.bind s [u] (by rw [hx]; rfl)
    rw [hx] at this
    exact this
  refine ⟨fd, [], spF p (fun _ vs h => Rk.body T (memo mm (cfnP T (ds.map Df.fd) n)) d.fd vs h) i d.ps.length, fun _ z => (by cases z), fun _ z => (by cases z), fun _ z => (by cases z), hb, fun H a ns hn _ _ sq => ?_, fun base _ _ _ => ?_⟩
  · obtain ⟨h', ea⟩ := ans ns hn
    refine ⟨by rw [hx]; rfl, fun _ => none, h0, [uS ns], RH.non, .cons (script_rv sq) .nil, ?_⟩
    show Ok (RV p) p (fun _ => none) H _ (Rk.body T (memo mm (cfnP T (ds.map Df.fd) n)) d.fd [uS ns] h0) _
    rw [ea]
    intro m2 H2 y _ _ rv
    cases rv
    rfl
  · obtain ⟨m1, m2⟩ := memo_all (O base) (n := n) hl
    have := def_okF (O base) (cf := memo mm (cfnP T (ds.map Df.fd) n)) (cf' := fun _ vs h => Rk.body T (memo mm (cfnP T (ds.map Df.fd) n)) d.fd vs h) (lv := 2 * n + 2) (by omega) m1 m2 hd (fun _ _ => rfl) F
    rw [hx] at this ⊢
    exact this
end
theorem look_all {α : Type} {Q : Nat → α → Prop} {i : Nat} {b : α} : ∀ {l : List (Nat × α)}, (∀ q ∈ l, Q q.1 q.2) → look i l = some b → Q i b
  | [], _, e => by cases e
  | q :: l, h, e => by
    unfold look at e
    cases z : Nat.beq q.1 i with
    | true =>
      rw [z] at e
      cases e
      have := h q (List.mem_cons_self ..)
      rw [Nat.eq_of_beq_eq_true z] at this
      exact this
    | false =>
      rw [z] at e
      exact look_all (fun t ht => h t (List.mem_cons_of_mem _ ht)) e
theorem isT_ok {r : R IV} (h : isT r = true) : ∃ h', r = .ok (.bl true) h' := by
  cases r with
  | ok v h' =>
    cases v <;> try (cases h; done)
    rename_i b
    have : b = true := h
    rw [this]
    exact ⟨h', rfl⟩
  | exc _ _ => cases h
  | fail => cases h
theorem memo_hl {T : Tab} {ds : List Df} {F : List Fd} {n : Nat} {l : List Nat} (hF : ds.map Df.fd = F) (q : ∀ i ∈ l, isT (cfnP T F n i [] h0) = true ∧ ∀ e, at? ds i = some e → e.ps.length = 0) :
    ∀ i e b, at? ds i = some e → look i (l.map fun i => (i, true)) = some b → e.ps.length = 0 ∧ ∃ h', cfnP T (ds.map Df.fd) n i [] h0 = .ok (.bl b) h' := fun i e b he hb => by
  have key : b = true ∧ isT (cfnP T F n i [] h0) = true ∧ ∀ e, at? ds i = some e → e.ps.length = 0 := by
    refine look_all (Q := fun i b => b = true ∧ isT (cfnP T F n i [] h0) = true ∧ ∀ e, at? ds i = some e → e.ps.length = 0) (fun t ht => ?_) hb
    obtain ⟨j, hj, rfl⟩ := List.mem_map.mp ht
    exact ⟨rfl, q j hj⟩
  obtain ⟨rfl, h1, h2⟩ := key
  rw [hF]
  exact ⟨h2 e he, isT_ok h1⟩
section
variable {T : Tab} {cf : Nat → List IV → Hh → R IV} {r : Rho} {h : Hh}
theorem tru_bl (b : Bool) : tru h (.bl b) = some b := by cases b <;> rfl
theorem evb_bl {e : E} {b : Bool} {h1 : Hh} (q : ev T cf e r h = .ok (.bl b) h1) : evb T cf e r h = .ok b h1 := by
  show ((ev T cf e r h).bd fun x h => match tru h x with
    | some b => R.ok b h
    | none => R.fail) = _
  rw [q]
  show (match tru h1 (.bl b) with
    | some b => R.ok b h1
    | none => R.fail) = _
  rw [tru_bl]
theorem ex_ifs {c : E} {a b : List S} {z : Bool} {h1 : Hh} (q : ev T cf c r h = .ok (.bl z) h1) : ex T cf (.ifs c a b) r h = match (generalizing := false) z with
    | true => exs T cf a r h1
    | false => exs T cf b r h1 := by
  show ((evb T cf c r h).st r fun z h => match z with
    | true => exs T cf a r h
    | false => exs T cf b r h) = _
  rw [evb_bl q]
  rfl
theorem ev_ite {c a b : E} {z : Bool} {h1 : Hh} (q : ev T cf c r h = .ok (.bl z) h1) : ev T cf (.ite c a b) r h = match (generalizing := false) z with
    | true => ev T cf a r h1
    | false => ev T cf b r h1 := by
  show ((ev T cf c r h).bd fun x h => match tru h x with
    | some true => ev T cf a r h
    | some false => ev T cf b r h
    | none => R.fail) = _
  rw [q]
  show (match tru h1 (.bl z) with
    | some true => ev T cf a r h1
    | some false => ev T cf b r h1
    | none => R.fail) = _
  rw [tru_bl]
  cases z <;> rfl
theorem ev_eqi {i : Nat} {x k : Int} (g : get r i = some (.int x)) : ev T cf (.cmp .eq (.var i) (.cst (.int k))) r h = .ok (.bl (ieq x k)) h := by
  show ((ofO (get r i) h).bd fun x h => cmp .eq x (.int k) h) = _
  rw [g]
  rfl
theorem ex_ret {e : E} {v : IV} {h1 : Hh} (q : ev T cf e r h = .ok v h1) : ex T cf (.ret e) r h = .ret v h1 := by
  show ((ev T cf e r h).st r fun v h => RS.ret v h) = _
  rw [q]
  rfl
theorem body_ret {d : Fd} {vs : List IV} {v : IV} {h1 : Hh} (hp : Nat.beq vs.length d.ps = true) (q : exs T cf d.body (slots vs d.ns) h = .ret v h1) : body T cf d vs h = .ok v h1 := by
  unfold body
  rw [hp]
  show (match exs T cf d.body (slots vs d.ns) h with
    | .nx _ h => (R.ok IV.non h : R IV)
    | .ret v h => .ok v h
    | .exc x _ h => .exc x h
    | _ => .fail) = _
  rw [q]
end
end
end Rk
namespace Rk
open PySem
noncomputable section
abbrev M1 := Rho → Hh → R IV
abbrev M2 := Rho → Hh → R Ir
abbrev M3 := (Rho → Hh → R (List IV)) × (Rho → Hh → R Bool)
abbrev M4 := Rho → Hh → R (Option Int)
abbrev MS := Rho → Hh → RS
abbrev MU := Nat × (List IV → Rho → Hh → RS)
abbrev CF := Nat → List IV → Hh → R IV
def iadd (x y : Int) : Int := @Int.rec (fun _ => Int) (fun a => @Int.rec (fun _ => Int) (fun b => .ofNat (Nat.add a b)) (fun _ => Int.add x y) y) (fun _ => Int.add x y) x
theorem iadd_eq (x y : Int) : iadd x y = Int.add x y := by
  cases x <;> cases y <;> rfl
def isub (x y : Int) : Int := @Int.rec (fun _ => Int) (fun a => @Int.rec (fun _ => Int) (fun b => @Bool.rec (fun _ => Int) (Int.sub x y) (.ofNat (Nat.sub a b)) (Nat.ble b a)) (fun _ => Int.sub x y) y) (fun _ => Int.sub x y) x
theorem isub_eq (x y : Int) : isub x y = Int.sub x y := by
  cases x with
  | negSucc _ => rfl
  | ofNat a =>
    cases y with
    | negSucc _ => rfl
    | ofNat b =>
      show @Bool.rec (fun _ => Int) (Int.sub (.ofNat a) (.ofNat b)) (.ofNat (Nat.sub a b)) (Nat.ble b a) = _
      cases q : Nat.ble b a with
      | false => rfl
      | true =>
        rw [Nat.ble_eq] at q
        show ((Nat.sub a b : Nat) : Int) = (a : Int) - (b : Int)
        have : Nat.sub a b = a - b := rfl
        rw [this]
        omega
def imod (x y : Int) : Int := @Int.rec (fun _ => Int) (fun a => @Int.rec (fun _ => Int) (fun b => .ofNat (Nat.mod a b)) (fun _ => Int.emod x y) y) (fun _ => Int.emod x y) x
theorem imod_eq (x y : Int) : imod x y = Int.emod x y := by
  cases x <;> cases y <;> rfl
def iltR (x y : Int) : Bool := @Int.rec (fun _ => Bool) (fun a => @Int.rec (fun _ => Bool) (fun b => Nat.blt a b) (fun _ => false) y) (fun a => @Int.rec (fun _ => Bool) (fun _ => true) (fun b => Nat.blt b a) y) x
theorem iltR_eq (x y : Int) : iltR x y = ilt x y := by
  cases x <;> cases y <;> rfl
def ileR (x y : Int) : Bool := @Int.rec (fun _ => Bool) (fun a => @Int.rec (fun _ => Bool) (fun b => Nat.ble a b) (fun _ => false) y) (fun a => @Int.rec (fun _ => Bool) (fun _ => true) (fun b => Nat.ble b a) y) x
theorem ileR_eq (x y : Int) : ileR x y = ile x y := by
  cases x <;> cases y <;> rfl
def ieqR (x y : Int) : Bool := @Int.rec (fun _ => Bool) (fun a => @Int.rec (fun _ => Bool) (fun b => Nat.beq a b) (fun _ => false) y) (fun a => @Int.rec (fun _ => Bool) (fun _ => false) (fun b => Nat.beq a b) y) x
theorem ieqR_eq (x y : Int) : ieqR x y = ieq x y := by
  cases x <;> cases y <;> rfl
def iAdd (i : Int) (b : IV) (h : Hh) : R IV := match b with
  | .int j => .ok (.int (iadd i j)) h
  | _ => .fail
def iSub (i : Int) (b : IV) (h : Hh) : R IV := match b with
  | .int j => .ok (.int (isub i j)) h
  | _ => .fail
def iMod (i : Int) (b : IV) (h : Hh) : R IV := match b with
  | .int j => match iltR 0 j with
    | true => .ok (.int (imod i j)) h
    | false => .fail
  | _ => .fail
theorem iAdd_eq (i : Int) (b : IV) (h : Hh) : iAdd i b h = opr .add (.int i) b h := by
  cases b with
  | int j => exact congrArg (fun z => R.ok (IV.int z) h) (iadd_eq i j)
  | _ => rfl
theorem iSub_eq (i : Int) (b : IV) (h : Hh) : iSub i b h = opr .sub (.int i) b h := by
  cases b with
  | int j => exact congrArg (fun z => R.ok (IV.int z) h) (isub_eq i j)
  | _ => rfl
theorem iMod_eq (i : Int) (b : IV) (h : Hh) : iMod i b h = opr .mod (.int i) b h := by
  cases b with
  | int j =>
    show (match iltR 0 j with
      | true => R.ok (IV.int (imod i j)) h
      | false => .fail) = _
    rw [iltR_eq, imod_eq]
    rfl
  | _ => rfl
def oAdd (a b : IV) (h : Hh) : R IV := match a with
  | .int i => iAdd i b h
  | _ => opr .add a b h
def oSub (a b : IV) (h : Hh) : R IV := match a with
  | .int i => iSub i b h
  | _ => .fail
def oMod (a b : IV) (h : Hh) : R IV := match a with
  | .int i => iMod i b h
  | _ => .fail
def oprF (o : Op) (a b : IV) (h : Hh) : R IV := match o with
  | .add => oAdd a b h
  | .sub => oSub a b h
  | .mod => oMod a b h
  | .mul => opr .mul a b h
  | .fdiv => opr .fdiv a b h
  | .pow => opr .pow a b h
theorem opr_ref {o : Op} {n : Nat} {b : IV} {h : Hh} (ho : o = .sub ∨ o = .mod) : opr o (.ref n) b h = .fail := by
  unfold opr
  dsimp only
  cases h.get n with
  | none => rfl
  | some u =>
    cases u with
    | dict _ => rfl
    | inst _ _ => rfl
    | lst xs =>
      cases b with
      | ref m =>
        dsimp only
        cases h.get m with
        | none => rfl
        | some w => cases w <;> first | rfl | (rcases ho with rfl | rfl <;> rfl)
      | int k => rcases ho with rfl | rfl <;> rfl
      | _ => rfl
theorem oprF_eq (o : Op) (a b : IV) (h : Hh) : oprF o a b h = opr o a b h := by
  cases o with
  | add =>
    cases a with
    | int i => exact iAdd_eq i b h
    | _ => rfl
  | sub =>
    cases a with
    | int i => exact iSub_eq i b h
    | tup xs => cases b <;> rfl
    | ref n => exact (opr_ref (.inl rfl)).symm
    | _ => rfl
  | mod =>
    cases a with
    | int i => exact iMod_eq i b h
    | tup xs => cases b <;> rfl
    | ref n => exact (opr_ref (.inr rfl)).symm
    | _ => rfl
  | _ => rfl
def cLtI (i : Int) (b : IV) (h : Hh) : R IV := match b with
  | .int j => .ok (.bl (iltR i j)) h
  | _ => .fail
def cLeI (i : Int) (b : IV) (h : Hh) : R IV := match b with
  | .int j => .ok (.bl (ileR i j)) h
  | _ => .fail
def cGtI (i : Int) (b : IV) (h : Hh) : R IV := match b with
  | .int j => .ok (.bl (iltR j i)) h
  | _ => .fail
def cGeI (i : Int) (b : IV) (h : Hh) : R IV := match b with
  | .int j => .ok (.bl (ileR j i)) h
  | _ => .fail
def cLt (a b : IV) (h : Hh) : R IV := match a with
  | .int i => cLtI i b h
  | _ => .fail
def cLe (a b : IV) (h : Hh) : R IV := match a with
  | .int i => cLeI i b h
  | _ => .fail
def cGt (a b : IV) (h : Hh) : R IV := match a with
  | .int i => cGtI i b h
  | _ => .fail
def cGe (a b : IV) (h : Hh) : R IV := match a with
  | .int i => cGeI i b h
  | _ => .fail
def ceqI (h : Hh) (i : Int) (b : IV) : Option Bool := match b with
  | .int j => some (ieqR i j)
  | _ => ceqD h (.int i) b
def ceqF (h : Hh) (a b : IV) : Option Bool := match a with
  | .int i => ceqI h i b
  | _ => ceq h a b
theorem ceqF_eq (h : Hh) (a b : IV) : ceqF h a b = ceq h a b := by
  cases a with
  | int i =>
    cases b with
    | int j => exact congrArg some (ieqR_eq i j)
    | _ => rfl
  | _ => rfl
def cIs (b a : IV) (h : Hh) : R IV := match b with
    | .non => match a with
      | .non => .ok (.bl true) h
      | .exn _ _ => .fail
      | .rol _ => .fail
      | .fn _ => .fail
      | _ => .ok (.bl false) h
    | _ => cmp .is a b h
def cNot (b a : IV) (h : Hh) : R IV := match b with
    | .non => match a with
      | .non => .ok (.bl false) h
      | .exn _ _ => .fail
      | .rol _ => .fail
      | .fn _ => .fail
      | _ => .ok (.bl true) h
    | _ => cmp .isnt a b h
def cinE (h : Hh) (i : Int) (y : IV) (o : Option (List IV)) : Option Bool := match o with
  | some [] => some false
  | _ => cin h (.int i) y
def cinF (h : Hh) (x y : IV) : Option Bool := match x with
  | .int i => cinE h i y (items y h)
  | _ => cin h x y
theorem cinS_nil {h : Hh} {i : Int} {y : IV} (e : items y h = some []) : cinS h (.int i) y = some false := by
  show (match items y h with
    | some xs => match mapO (toD h 60) xs with
      | some ds => some (anyD (.int i) ds)
      | none => none
    | none => none) = _
  rw [e]
  rfl
theorem cin_nil {h : Hh} {i : Int} {y : IV} (e : items y h = some []) : cin h (.int i) y = some false := by
  cases y with
  | ref n =>
    have e2 := cinS_nil (i := i) e
    unfold items at e
    dsimp only at e
    show (match h.get n with
      | some (.dict d) => cinD (.int i) d
      | _ => cinS h (.int i) (.ref n)) = _
    cases g : h.get n with
    | none =>
      rw [g] at e
      cases e
    | some u =>
      rw [g] at e
      cases u with
      | lst q => exact e2
      | dict _ => cases e
      | inst _ _ => cases e
  | tup xs => exact cinS_nil e
  | _ => cases e
theorem cinF_eq (h : Hh) (x y : IV) : cinF h x y = cin h x y := by
  cases x with
  | int i =>
    show cinE h i y (items y h) = cin h (.int i) y
    cases e : items y h with
    | none => rfl
    | some xs =>
      cases xs with
      | cons _ _ => rfl
      | nil => exact (cin_nil e).symm
  | _ => rfl
def cmpF (o : Cp) (a b : IV) (h : Hh) : R IV := match o with
  | .eq => obl (ceqF h a b) h
  | .ne => obl (onot (ceqF h a b)) h
  | .is => cIs b a h
  | .isnt => cNot b a h
  | .inn => obl (cinF h a b) h
  | .nin => obl (onot (cinF h a b)) h
  | .lt => cLt a b h
  | .le => cLe a b h
  | .gt => cGt a b h
  | .ge => cGe a b h
theorem cmpF_eq (o : Cp) (a b : IV) (h : Hh) : cmpF o a b h = Rk.cmp o a b h := by
  cases o with
  | eq =>
    show obl (ceqF h a b) h = _
    rw [ceqF_eq]
    rfl
  | ne =>
    show obl (onot (ceqF h a b)) h = _
    rw [ceqF_eq]
    rfl
  | inn =>
    show obl (cinF h a b) h = _
    rw [cinF_eq]
    rfl
  | nin =>
    show obl (onot (cinF h a b)) h = _
    rw [cinF_eq]
    rfl
  | is => cases b <;> rfl
  | isnt => cases b <;> rfl
  | lt =>
    cases a with
    | int i =>
      cases b with
      | int j => exact congrArg (fun z => R.ok (IV.bl z) h) (iltR_eq i j)
      | _ => rfl
    | _ => rfl
  | le =>
    cases a with
    | int i =>
      cases b with
      | int j => exact congrArg (fun z => R.ok (IV.bl z) h) (ileR_eq i j)
      | _ => rfl
    | _ => rfl
  | gt =>
    cases a with
    | int i =>
      cases b with
      | int j => exact congrArg (fun z => R.ok (IV.bl z) h) (iltR_eq j i)
      | _ => rfl
    | _ => rfl
  | ge =>
    cases a with
    | int i =>
      cases b with
      | int j => exact congrArg (fun z => R.ok (IV.bl z) h) (ileR_eq j i)
      | _ => rfl
    | _ => rfl
def bLenO (h : Hh) (o : Option IO) : R IV := match o with
  | some u => match u with
    | .lst q => .ok (.int (.ofNat (lenR q))) h
    | .dict d => lenD d h
    | _ => .fail
  | none => .fail
def bLen (a : IV) (h : Hh) : R IV := match a with
  | .ref n => bLenO h (h.get n)
  | _ => Rk.bi1 .len a h
theorem bLen_eq (a : IV) (h : Hh) : bLen a h = Rk.bi1 .len a h := by
  cases a with
  | ref n =>
    show bLenO h (h.get n) = (match items (.ref n) h with
      | some xs => R.ok (.int (.ofNat xs.length)) h
      | none => match dOf (.ref n) h with
        | some d => lenD d h
        | none => .fail)
    unfold items dOf
    dsimp only
    cases h.get n with
    | none => rfl
    | some u =>
      cases u with
      | lst q =>
        show R.ok (IV.int (.ofNat (lenR q))) h = R.ok (IV.int (.ofNat (revR q).length)) h
        rw [lenR_rev]
      | dict _ => rfl
      | inst _ _ => rfl
  | _ => rfl
def bInt (a : IV) (h : Hh) : R IV := match a with
    | .int _ => .ok a h
    | .bl b => .ok (.int (b2i b)) h
    | _ => .fail
def bTup (a : IV) (h : Hh) : R IV := match a with
  | .ref n => match items a h with
    | some xs => .ok (.tup xs) h
    | none => .fail
  | _ => Rk.bi1 .tuple a h
def bLst (a : IV) (h : Hh) : R IV := match a with
  | .ref n => match items a h with
    | some xs => newL xs h
    | none => .fail
  | _ => Rk.bi1 .list a h
def bAll (a : IV) (h : Hh) : R IV := match lstOf a h with
    | some xs => obl (allB xs) h
    | none => .fail
def bi1F (b : Bi) (a : IV) (h : Hh) : R IV := match b with
  | .len => bLen a h
  | .int => bInt a h
  | .tuple => bTup a h
  | .list => bLst a h
  | .all => bAll a h
  | _ => Rk.bi1 b a h
theorem bi1F_eq (b : Bi) (a : IV) (h : Hh) : bi1F b a h = Rk.bi1 b a h := by
  cases b with
  | len => exact bLen_eq a h
  | int => cases a <;> rfl
  | tuple => cases a <;> rfl
  | list => cases a <;> rfl
  | _ => rfl
def mMinI (i : Int) (x y : IV) (h : Hh) : R IV := match y with
  | .int j => match iltR j i with
    | true => .ok y h
    | false => .ok x h
  | _ => .fail
def mMaxI (i : Int) (x y : IV) (h : Hh) : R IV := match y with
  | .int j => match iltR i j with
    | true => .ok y h
    | false => .ok x h
  | _ => .fail
def mMin (x y : IV) (h : Hh) : R IV := match x with
  | .int i => mMinI i x y h
  | _ => .fail
def mMax (x y : IV) (h : Hh) : R IV := match x with
  | .int i => mMaxI i x y h
  | _ => .fail
def bi2F (b : Bi) (x y : IV) (h : Hh) : R IV := match b with
  | .min => mMin x y h
  | .max => mMax x y h
  | _ => Rk.bi2 b x y h
theorem bi2F_eq (b : Bi) (x y : IV) (h : Hh) : bi2F b x y h = Rk.bi2 b x y h := by
  cases b with
  | min =>
    cases x with
    | int i =>
      cases y with
      | int j =>
        show (match iltR j i with
          | true => R.ok (IV.int j) h
          | false => R.ok (IV.int i) h) = _
        rw [iltR_eq]
        rfl
      | _ => rfl
    | _ => rfl
  | max =>
    cases x with
    | int i =>
      cases y with
      | int j =>
        show (match iltR i j with
          | true => R.ok (IV.int j) h
          | false => R.ok (IV.int i) h) = _
        rw [iltR_eq]
        rfl
      | _ => rfl
    | _ => rfl
  | _ => rfl
def biF (b : Bi) (vs : List IV) (h : Hh) : R IV := match vs with
  | [] => .fail
  | x :: t => match t with
    | [] => bi1F b x h
    | y :: u => match u with
      | [] => bi2F b x y h
      | _ :: _ => .fail
theorem biF_eq (b : Bi) (vs : List IV) (h : Hh) : biF b vs h = match vs with
    | [x] => Rk.bi1 b x h
    | [x, y] => Rk.bi2 b x y h
    | _ => .fail := by
  cases vs with
  | nil => rfl
  | cons x t =>
    cases t with
    | nil => exact bi1F_eq b x h
    | cons y u =>
      cases u with
      | nil => exact bi2F_eq b x y h
      | cons _ _ => rfl
def okN (o : Option Hh) : R IV := match o with
  | some h' => .ok .non h'
  | none => .fail
def app4 (n : Nat) (y : IV) (h : Hh) (q : List IV) : R IV := match Nat.blt (lenR q) fewL with
  | true => okN (h.set n (.lst (y :: q)))
  | false => .fail
def app3 (n : Nat) (y : IV) (h : Hh) (o : Option IO) : R IV := match o with
  | some u => match u with
    | .lst xs => app4 n y h xs
    | _ => .fail
  | none => .fail
def app2 (x y : IV) (h : Hh) : R IV := match x with
  | .ref n => app3 n y h (h.get n)
  | _ => .fail
def appF (x : IV) (vs : List IV) (h : Hh) : R IV := match vs with
  | [] => .fail
  | y :: t => match t with
    | [] => app2 x y h
    | _ :: _ => .fail
theorem app2_eq (x y : IV) (h : Hh) : app2 x y h = bmt .append x [y] h := by
  cases x with
  | ref n =>
    show app3 n y h (h.get n) = (match h.get n with
        | some (.lst q) => match Nat.blt (lenR q) fewL with
          | true => match h.set n (.lst (y :: q)) with
            | some h' => .ok .non h'
            | none => .fail
          | false => .fail
        | _ => .fail)
    cases h.get n with
    | none => rfl
    | some u =>
      cases u with
      | lst xs => cases Nat.blt (lenR xs) fewL <;> rfl
      | _ => rfl
  | _ => rfl
theorem appF_eq (x : IV) (vs : List IV) (h : Hh) : appF x vs h = bmt .append x vs h := by
  cases vs with
  | nil => rfl
  | cons y t =>
    cases t with
    | nil => exact app2_eq x y h
    | cons _ _ => rfl
def bmF (m : Bm) (x : IV) (vs : List IV) (h : Hh) : R IV := match m with
  | .append => appF x vs h
  | _ => bmt m x vs h
theorem bmF_eq (m : Bm) (x : IV) (vs : List IV) (h : Hh) : bmF m x vs h = bmt m x vs h := by
  cases m with
  | append => exact appF_eq x vs h
  | _ => rfl
def opiI (o : Op) (i : Int) (y : IV) (h : Hh) : R IV := match y with
    | .int j => match o with
      | .add => .ok (.int (Int.add i j)) h
      | .sub => .ok (.int (Int.sub i j)) h
      | _ => .fail
    | _ => .fail
def asgF (t : Tg) : IV → Rho → Hh → Option Rho := @Tg.rec (fun _ => IV → Rho → Hh → Option Rho) (fun _ => List IV → Rho → Hh → Option Rho) (fun i v r _ => some (put r i (some v))) (fun _ go v r h => match items v h with
    | some xs => go xs r h
    | none => none) (fun xs r _ => match xs with
    | [] => some r
    | _ :: _ => none) (fun _ _ go gos xs r h => match xs with
    | [] => none
    | x :: xs => match go x r h with
      | some r' => gos xs r' h
      | none => none) t
theorem asgF_eq (t : Tg) : asgF t = asg t := @Tg.rec (fun t => asgF t = asg t) (fun ts => (@Tg.rec_1 (fun _ => IV → Rho → Hh → Option Rho) (fun _ => List IV → Rho → Hh → Option Rho) (fun i v r _ => some (put r i (some v))) (fun _ go v r h => match items v h with
    | some xs => go xs r h
    | none => none) (fun xs r _ => match xs with
    | [] => some r
    | _ :: _ => none) (fun _ _ go gos xs r h => match xs with
    | [] => none
    | x :: xs => match go x r h with
      | some r' => gos xs r' h
      | none => none) ts) = asgs ts) (fun _ => rfl) (fun ts q => by
    funext v r h
    show (match items v h with
      | some xs => (@Tg.rec_1 (fun _ => IV → Rho → Hh → Option Rho) (fun _ => List IV → Rho → Hh → Option Rho) (fun i v r _ => some (put r i (some v))) (fun _ go v r h => match items v h with
    | some xs => go xs r h
    | none => none) (fun xs r _ => match xs with
    | [] => some r
    | _ :: _ => none) (fun _ _ go gos xs r h => match xs with
    | [] => none
    | x :: xs => match go x r h with
      | some r' => gos xs r' h
      | none => none) ts) xs r h
      | none => none) = _
    rw [q]
    rfl) (by
    funext xs r h
    cases xs <;> rfl) (fun t ts q qs => by
    funext xs r h
    cases xs with
    | nil => rfl
    | cons x xs =>
      show (match asgF t x r h with
        | some r' => (@Tg.rec_1 (fun _ => IV → Rho → Hh → Option Rho) (fun _ => List IV → Rho → Hh → Option Rho) (fun i v r _ => some (put r i (some v))) (fun _ go v r h => match items v h with
    | some xs => go xs r h
    | none => none) (fun xs r _ => match xs with
    | [] => some r
    | _ :: _ => none) (fun _ _ go gos xs r h => match xs with
    | [] => none
    | x :: xs => match go x r h with
      | some r' => gos xs r' h
      | none => none) ts) xs r' h
        | none => none) = _
      rw [q, qs]
      rfl) t
def lcS2 (go : Ir → Hh → R Unit) (k : Ir) (z : R IV) : R Unit := match z with
  | .ok _ h => go k h
  | _ => .fail
def lcS1 (go : Ir → Hh → R Unit) (d : Nat) (k : Ir) (z : R IV) : R Unit := match z with
  | .ok y h => lcS2 go k (app2 (.ref d) y h)
  | _ => .fail
def lcS0 (e : Rho → Hh → R IV) (d : Nat) (go : Ir → Hh → R Unit) (r : Rho) (k : Ir) (z : R Bool) : R Unit := match z with
  | .ok b h => match b with
    | true => lcS1 go d k (e r h)
    | false => go k h
  | _ => .fail
def lcSa (c : Rho → Hh → R Bool) (e : Rho → Hh → R IV) (d : Nat) (go : Ir → Hh → R Unit) (h : Hh) (k : Ir) (o : Option Rho) : R Unit := match o with
  | some r => lcS0 e d go r k (c r h)
  | none => .fail
def nx1 (n : Nx Sc) : Nx Ir := match n with
    | .stop => .stop
    | .yld v s => .yld v (.one s)
    | .fail => .fail
def nxR (lo st : Int) (n : Nat) : Nx Ir := match n with
    | 0 => .stop
    | m + 1 => .yld (.int lo) (.rng (iadd lo st) st m)
def nxE (i : Nat) (n : Nx Sc) : Nx Ir := match n with
    | .stop => .stop
    | .yld v s => .yld (.tup [.int (.ofNat i), v]) (.en (Nat.succ i) s)
    | .fail => .fail
def nxtF (k : Ir) (h : Hh) : Nx Ir := match k with
  | .one s => nx1 (nxs s h)
  | .rng lo st n => nxR lo st n
  | .en i s => nxE i (nxs s h)
  | _ => nxt k h
theorem nxtF_eq (k : Ir) (h : Hh) : nxtF k h = nxt k h := by
  cases k with
  | rng lo st n =>
    cases n with
    | zero => rfl
    | succ m => exact congrArg (fun z => Nx.yld (IV.int lo) (Ir.rng z st m)) (iadd_eq lo st)
  | _ => rfl
def lcSn (t : Tg) (r : Rho) (c : Rho → Hh → R Bool) (e : Rho → Hh → R IV) (d : Nat) (go : Ir → Hh → R Unit) (h : Hh) (n : Nx Ir) : R Unit := match n with
    | .stop => .ok () h
    | .fail => .fail
    | .yld v k' => lcSa c e d go h k' (asgF t v r h)
def lcLF (t : Tg) (r : Rho) (c : Rho → Hh → R Bool) (e : Rho → Hh → R IV) (d : Nat) (f : Nat) : Ir → Hh → R Unit := @Nat.rec (fun _ => Ir → Hh → R Unit) (fun _ _ => .fail) (fun _ go k h => lcSn t r c e d go h (nxtF k h)) f
theorem lcLF_eq (t : Tg) (r : Rho) (c : Rho → Hh → R Bool) (e : Rho → Hh → R IV) (d : Nat) : ∀ f k h, lcLF t r c e d f k h = lcL t r c e d f k h := by
  intro f
  induction f with
  | zero => exact fun _ _ => rfl
  | succ f ih =>
    intro k h
    have e1 : lcLF t r c e d f = lcL t r c e d f := funext fun k => funext fun h => ih k h
    show lcSn t r c e d (lcLF t r c e d f) h (nxtF k h) = _
    rw [e1, nxtF_eq]
    unfold lcL lcSn
    cases nxt k h with
    | stop => rfl
    | fail => rfl
    | yld v k' =>
      show lcSa c e d (lcL t r c e d f) h k' (asgF t v r h) = _
      rw [asgF_eq]
      dsimp only
      cases asg t v r h with
      | none => rfl
      | some r' =>
        show lcS0 e d (lcL t r c e d f) r' k' (c r' h) = _
        dsimp only
        cases c r' h with
        | ok b h2 =>
          cases b with
          | false => rfl
          | true =>
            show lcS1 (lcL t r c e d f) d k' (e r' h2) = _
            dsimp only
            cases e r' h2 with
            | ok y h3 =>
              show lcS2 (lcL t r c e d f) k' (app2 (.ref d) y h3) = _
              rw [app2_eq]
              dsimp only
              cases bmt .append (.ref d) [y] h3 <;> rfl
            | exc _ _ => rfl
            | fail => rfl
        | exc _ _ => rfl
        | fail => rfl
def forS2 (go : Ir → Rho → Hh → RS) (k : Ir) (z : RS) : RS := match z with
        | .nx r h => go k r h
        | .cont r h => go k r h
        | .brk r h => .nx r h
        | .ret v h => .ret v h
        | .exc x r h => .exc x r h
        | .fail => .fail
def forS1 (body : Rho → Hh → RS) (go : Ir → Rho → Hh → RS) (h : Hh) (k : Ir) (o : Option Rho) : RS := match o with
      | some r' => forS2 go k (body r' h)
      | none => .fail
def forSn (t : Tg) (body : Rho → Hh → RS) (go : Ir → Rho → Hh → RS) (r : Rho) (h : Hh) (n : Nx Ir) : RS := match n with
    | .stop => .nx r h
    | .fail => .fail
    | .yld v k' => forS1 body go h k' (asgF t v r h)
def forLF (t : Tg) (body : Rho → Hh → RS) (f : Nat) : Ir → Rho → Hh → RS := @Nat.rec (fun _ => Ir → Rho → Hh → RS) (fun _ _ _ => .fail) (fun _ go k r h => forSn t body go r h (nxtF k h)) f
theorem forLF_eq (t : Tg) (body : Rho → Hh → RS) : ∀ f k r h, forLF t body f k r h = forL t body f k r h := by
  intro f
  induction f with
  | zero => exact fun _ _ _ => rfl
  | succ f ih =>
    intro k r h
    have e1 : forLF t body f = forL t body f := funext fun k => funext fun r => funext fun h => ih k r h
    show forSn t body (forLF t body f) r h (nxtF k h) = _
    rw [e1, nxtF_eq]
    unfold forL forSn
    cases nxt k h with
    | stop => rfl
    | fail => rfl
    | yld v k' =>
      show forS1 body (forL t body f) h k' (asgF t v r h) = _
      rw [asgF_eq]
      dsimp only
      cases asg t v r h with
      | none => rfl
      | some r' =>
        show forS2 (forL t body f) k' (body r' h) = _
        dsimp only
        cases body r' h <;> rfl
def whlS2 (go : Rho → Hh → RS) (z : RS) : RS := match z with
        | .nx r h => go r h
        | .cont r h => go r h
        | .brk r h => .nx r h
        | .ret v h => .ret v h
        | .exc x r h => .exc x r h
        | .fail => .fail
def whlS1 (body : Rho → Hh → RS) (go : Rho → Hh → RS) (r : Rho) (z : R Bool) : RS := match z with
    | .ok b h => match b with
      | true => whlS2 go (body r h)
      | false => .nx r h
    | .exc x h => .exc x r h
    | .fail => .fail
def whlLF (c : Rho → Hh → R Bool) (body : Rho → Hh → RS) (f : Nat) : Rho → Hh → RS := @Nat.rec (fun _ => Rho → Hh → RS) (fun _ _ => .fail) (fun _ go r h => whlS1 body go r (c r h)) f
theorem whlLF_eq (c : Rho → Hh → R Bool) (body : Rho → Hh → RS) : ∀ f r h, whlLF c body f r h = whlL c body f r h := by
  intro f
  induction f with
  | zero => exact fun _ _ => rfl
  | succ f ih =>
    intro r h
    have e1 : whlLF c body f = whlL c body f := funext fun r => funext fun h => ih r h
    show whlS1 body (whlLF c body f) r (c r h) = _
    rw [e1]
    unfold whlL whlS1
    cases c r h with
    | ok b h2 =>
      cases b with
      | false => rfl
      | true =>
        show whlS2 (whlL c body f) (body r h2) = _
        dsimp only
        cases body r h2 <;> rfl
    | exc _ _ => rfl
    | fail => rfl
def evbF (e : M1) : Rho → Hh → R Bool := fun r h => (e r h).bd fun x h => match tru h x with
  | some b => .ok b h
  | none => .fail
def augZ (i_e : M1) (o : Op) (x y : IV) (r : Rho) (z : R IV) : RS := z.st r fun z h => (i_e r h).st r fun w h => (opi o z w h).st r fun u h => nxO r (setAt x y u h)
def kx_var (i : Nat) : M1 := fun r h => ofO (get r i) h
def kx_cst (v : IV) : M1 := fun r h => .ok v h
def kx_glo (T : Tab) (g : Nat) : M1 := fun r h => ofO (at? T.glo g) h
def kx_tup (i_es : M3) : M1 := fun r h => (i_es.1 r h).bd fun vs h => .ok (.tup vs) h
def kx_lst (i_es : M3) : M1 := fun r h => (i_es.1 r h).bd newL
def kx_tupS (i_es : M3) (i_e : M1) : M1 := fun r h => (i_es.1 r h).bd fun vs h => (i_e r h).bd fun w h => match items w h with
    | some ws => .ok (.tup (vs ++ ws)) h
    | none => .fail
def kx_bin (o : Op) (i_a : M1) (i_b : M1) : M1 := fun r h => (i_a r h).bd fun x h => (i_b r h).bd fun y h => oprF o x y h
def kx_neg (i_a : M1) : M1 := fun r h => (i_a r h).bd fun x h => match x with
    | .int i => .ok (.int (Int.neg i)) h
    | _ => .fail
def kx_not (i_a : M1) : M1 := fun r h => (i_a r h).bd fun x h => obl (onot (tru h x)) h
def kx_and (i_a : M1) (i_b : M1) : M1 := fun r h => (i_a r h).bd fun x h => match tru h x with
    | some true => i_b r h
    | some false => .ok x h
    | none => .fail
def kx_or (i_a : M1) (i_b : M1) : M1 := fun r h => (i_a r h).bd fun x h => match tru h x with
    | some true => .ok x h
    | some false => i_b r h
    | none => .fail
def kx_cmp (o : Cp) (i_a : M1) (i_b : M1) : M1 := fun r h => (i_a r h).bd fun x h => (i_b r h).bd fun y h => cmpF o x y h
def kx_chain (o : Cp) (p : Cp) (i_a : M1) (i_b : M1) (i_c : M1) : M1 := fun r h => (i_a r h).bd fun x h => (i_b r h).bd fun y h => (Rk.cmp o x y h).bd fun z h => match z with
    | .bl true => (i_c r h).bd fun w h => Rk.cmp p y w h
    | .bl false => .ok z h
    | _ => .fail
def kx_ite (i_c : M1) (i_a : M1) (i_b : M1) : M1 := fun r h => (i_c r h).bd fun x h => match tru h x with
    | some true => i_a r h
    | some false => i_b r h
    | none => .fail
def kx_call (cf : CF) (f : Nat) (i_as : M3) : M1 := fun r h => (i_as.1 r h).bd fun vs h => cf f vs h
def kx_callk (cf : CF) (f : Nat) (i_as : M3) (ks : List Nat) (i_ws : M3) : M1 := fun r h => (i_as.1 r h).bd fun vs h => (i_ws.1 r h).bd fun us h =>
    match allK (putK (vs.map some ++ ks.map fun _ => none) ks us) with
    | some vs => cf f vs h
    | none => .fail
def kx_bi (b : Bi) (i_as : M3) : M1 := fun r h => (i_as.1 r h).bd fun vs h => biF b vs h
def kx_bid (b : Bi) (i_a : M1) (i_d : M1) : M1 := fun r h => (i_a r h).bd fun x h => (i_d r h).bd fun y h => bidK b x y h
def kx_bi2 (b : Bi) (i_x : M1) (i_y : M1) : M1 := fun r h => (i_x r h).bd fun x h => (i_y r h).bd fun y h => bi2F b x y h
def kx_mth (T : Tab) (cf : CF) (m : Nat) (i_o : M1) (i_as : M3) : M1 := fun r h => (i_o r h).bd fun x h => match mfind T.mth x m h with
    | some f => (i_as.1 r h).bd fun vs h => cf f (x :: vs) h
    | none => .fail
def kx_mk (T : Tab) (cf : CF) (c : Nat) (i_as : M3) : M1 := fun r h => (i_as.1 r h).bd fun vs h => mkK T.ini cf c vs h
def kx_att (i_o : M1) (f : Nat) : M1 := fun r h => (i_o r h).bd fun x h => fget x f h
def kx_idx (i_a : M1) (i_b : M1) : M1 := fun r h => (i_a r h).bd fun x h => (i_b r h).bd fun y h => Rk.idx x y h
def kx_sl (i_a : M1) (i_lo : M4) (i_hi : M4) : M1 := fun r h => (i_a r h).bd fun x h => (i_lo r h).bd fun l h => (i_hi r h).bd fun u h => slc x l u h
def kx_slr (i_a : M1) : M1 := fun r h => (i_a r h).bd slcR
def kx_bm (m : Bm) (i_o : M1) (i_as : M3) : M1 := fun r h => (i_o r h).bd fun x h => match recv m x h with
    | true => (i_as.1 r h).bd fun vs h => bmF m x vs h
    | false => .fail
def kx_lc (own : List Nat) (i_elt : M1) (t : Tg) (i_it : M2) (i_cs : M3) : M1 := fun r h => (i_it r h).bd fun k h => (newL [] h).bd fun d h => match d with
    | .ref n => (lcLF t (wip r own) i_cs.2 i_elt n turns k h).bd fun _ h => .ok d h
    | _ => .fail
def kx_lc2 (own : List Nat) (i_elt : M1) (t : Tg) (i_it : M2) (i_cs : M3) (t2 : Tg) (i_it2 : M2) (i_cs2 : M3) : M1 := fun r h => (i_it r h).bd fun k h => (newL [] h).bd fun d h => match d with
    | .ref n => (lcO t (wip r own) i_cs.2 (fun r h => (i_it2 r h).bd fun k2 h => lcL t2 (wip r (nmsT t2)) i_cs2.2 i_elt n turns k2 h) turns k h).bd fun _ h => .ok d h
    | _ => .fail
def kx_dc (kt : Bool) (own : List Nat) (i_k : M1) (i_v : M1) (t : Tg) (i_it : M2) (i_cs : M3) : M1 := fun r h => .fail
def kx_fnv (i : Nat) : M1 := fun r h => .ok (.fn i) h
def kx_callv (cf : CF) (i_e : M1) (i_as : M3) : M1 := fun r h => (i_e r h).bd fun x h => match x with
    | .fn i => (i_as.1 r h).bd fun vs h => cf i vs h
    | _ => .fail
def kx_pack (l : Bool) (i_a : M1) : M1 := fun r h => (i_a r h).bd fun y h => packK l y h
def kx_pn : M1 := fun r h => .ok (.tup []) h
def kx_pc (s : Bool) (i_a : M1) (i_b : M1) : M1 := fun r h => (i_a r h).bd fun x h => match spr s x h with
    | some xs => (i_b r h).bd fun y h => pcK xs y h
    | none => .fail
def kx_dnew (kt : Bool) : M1 := fun r h => newD kt h
def kx_min3 (b : Bi) (i_x : M1) (i_y : M1) (i_z : M1) : M1 := fun r h => (i_x r h).bd fun u h => (i_y r h).bd fun v h => (i_z r h).bd fun w h => min3K b u v w h
def kx_chain3 (o : Cp) (p : Cp) (q : Cp) (i_a : M1) (i_b : M1) (i_c : M1) (i_d : M1) : M1 := fun r h => (i_a r h).bd fun x h => (i_b r h).bd fun y h => (Rk.cmp o x y h).bd fun z h => match z with
    | .bl true => (i_c r h).bd fun w h => (Rk.cmp p y w h).bd fun z h => match z with
      | .bl true => (i_d r h).bd fun u h => Rk.cmp q w u h
      | .bl false => .ok z h
      | _ => .fail
    | .bl false => .ok z h
    | _ => .fail
def kx_isi (T : Tab) (i_a : M1) (ts : List Ty) : M1 := fun r h => (i_a r h).bd fun x h => obl (tyAny T.exs x h ts) h
def kx_lit (i_it : M2) : M1 := fun r h => (i_it r h).bd litK
def tx_ex (i_e : M1) : M2 := fun r h => (i_e r h).bd fun x h => match x with
    | .rng lo n => .ok (.rng lo 1 n) h
    | _ => match scOf x h with
      | some s => .ok (.one s) h
      | none => .fail
def tx_rng1 (i_a : M1) : M2 := fun r h => (i_a r h).bd fun x h => match x with
    | .int j => match within62 j with
      | true => .ok (.rng 0 1 (Int.toNat j)) h
      | false => .fail
    | _ => .fail
def tx_rng2 (i_a : M1) (i_b : M1) : M2 := fun r h => (i_a r h).bd fun x h => (i_b r h).bd fun y h => match x with
    | .int i => match y with
      | .int j => match within62 i with
        | true => match within62 j with
          | true => .ok (.rng i 1 (Int.toNat (Int.sub j i))) h
          | false => .fail
        | false => .fail
      | _ => .fail
    | _ => .fail
def tx_rng3 (i_a : M1) (i_b : M1) : M2 := fun r h => (i_a r h).bd fun x h => (i_b r h).bd fun y h => match x with
    | .int i => match y with
      | .int j => match within62 i with
        | true => match within62 j with
          | true => .ok (.rng i (-1) (Int.toNat (Int.sub i j))) h
          | false => .fail
        | false => .fail
      | _ => .fail
    | _ => .fail
def tx_enum (i_e : M1) : M2 := fun r h => (i_e r h).bd fun x h => match scOf x h with
    | some s => .ok (.en 0 s) h
    | none => .fail
def tx_zip (i_a : M1) (i_b : M1) : M2 := fun r h => (i_a r h).bd fun x h => (i_b r h).bd fun y h => match scOf x h with
    | some s => match scOf y h with
      | some t => .ok (.zi s t) h
      | none => .fail
    | none => .fail
def tx_rev (i_e : M1) : M2 := fun r h => (i_e r h).bd fun x h => revK x h
def tx_items (i_e : M1) : M2 := fun r h => .fail
def tx_values (i_e : M1) : M2 := fun r h => .fail
def tx_revR1 (i_a : M1) : M2 := fun r h => (i_a r h).bd fun y h => rvR (.int 0) y h
def tx_revR (i_a : M1) (i_b : M1) : M2 := fun r h => (i_a r h).bd fun x h => (i_b r h).bd fun y h => rvR x y h
def tx_zip3 (i_a : M1) (i_b : M1) (i_c : M1) : M2 := fun r h => (i_a r h).bd fun x h => (i_b r h).bd fun y h => (i_c r h).bd fun z h => match scOf x h with
    | some s => match scOf y h with
      | some t => match scOf z h with
        | some u => .ok (.z3 s t u) h
        | none => .fail
      | none => .fail
    | none => .fail
def sx_set (i : Nat) (i_e : M1) : MS := fun r h => (i_e r h).st r fun v h => .nx (put r i (some v)) h
def sx_asg (t : Tg) (i_e : M1) : MS := fun r h => (i_e r h).st r fun v h => match asgF t v r h with
    | some r => .nx r h
    | none => .fail
def sx_swap (is : List Nat) (i_es : M3) : MS := fun r h => (i_es.1 r h).st r fun vs h => match asgs (is.map .nm) vs r h with
    | some r => .nx r h
    | none => .fail
def sx_sub (i_o : M1) (i_i : M1) (i_e : M1) : MS := fun r h => (i_e r h).st r fun v h => (i_o r h).st r fun x h => (i_i r h).st r fun y h => nxO r (setAt x y v h)
def sx_fld (i_o : M1) (f : Nat) (i_e : M1) : MS := fun r h => (i_e r h).st r fun v h => (i_o r h).st r fun x h => nxO r (fset x f v h)
def sx_aug (i : Nat) (o : Op) (i_e : M1) : MS := fun r h => match get r i with
    | some x => (i_e r h).st r fun y h => (opi o x y h).st r fun z h => .nx (put r i (some z)) h
    | none => .fail
def sx_augS (i_a : M1) (i_i : M1) (o : Op) (i_e : M1) : MS := fun r h => (i_a r h).st r fun x h => (i_i r h).st r fun y h => augZ i_e o x y r (idxL x y h)
def sx_augF (i_a : M1) (f : Nat) (o : Op) (i_e : M1) : MS := fun r h => (i_a r h).st r fun x h => (fget x f h).st r fun z h1 => (i_e r h1).st r fun w h2 => (opi o z w h2).st r fun u h3 => nxO r (fsetK h x f u h3)
def sx_exp (i_e : M1) : MS := fun r h => (i_e r h).st r fun _ h => .nx r h
def sx_ret (i_e : M1) : MS := fun r h => (i_e r h).st r fun v h => .ret v h
def sx_pass : MS := fun r h => .nx r h
def sx_brk : MS := fun r h => .brk r h
def sx_cont : MS := fun r h => .cont r h
def sx_ifs (i_c : M1) (i_a : MS) (i_b : MS) : MS := fun r h => (evbF i_c r h).st r fun z h => match z with
    | true => i_a r h
    | false => i_b r h
def sx_whl (i_c : M1) (i_b : MS) : MS := fun r h => whlLF (evbF i_c) i_b turns r h
def sx_fors (t : Tg) (i_it : M2) (i_b : MS) : MS := fun r h => (i_it r h).st r fun k h => forLF t i_b turns k r h
def sx_rais (c : Nat) (i_as : M3) : MS := fun r h => (i_as.1 r h).st r fun vs h => match vs with
    | [] => .exc ⟨c, none⟩ r h
    | v :: _ => .exc ⟨c, some v⟩ r h
def sx_tryx (T : Tab) (i_b : MS) (hs : List Hc) : MS := fun r h => match i_b r h with
    | .exc x r h => clause T.exs.length x hs r h
    | z => z
def sx_del (i_a : M1) (i_i : M1) : MS := fun r h => (i_a r h).st r fun x h => (i_i r h).st r fun y h => nxO r (delAt x y h)
def sx_unp (i_ts : MU) (i_e : M1) : MS := fun r h => (i_e r h).st r (unpK i_ts.1 i_ts.2 r)
def lx_nil : M3 := (fun _ h => .ok [] h, fun _ h => .ok true h)
def lx_cons (i_e : M1) (i_es : M3) : M3 := (fun r h => (i_e r h).bd fun x h => (i_es.1 r h).bd fun xs h => .ok (x :: xs) h, fun r h => (i_e r h).bd fun x h => match tru h x with
      | some b => .ok b h
      | none => .fail)
def ux_nm (i : Nat) : IV → MS := fun v r h => .nx (put r i (some v)) h
def ux_fld (i_o : M1) (f : Nat) : IV → MS := fun v r h => (i_o r h).st r fun x h => nxO r (fset x f v h)
def ux_sub (i_o i_i : M1) : IV → MS := fun v r h => (i_o r h).st r fun x h => (i_i r h).st r fun y h => nxO r (setAt x y v h)
def ux_nil : MU := (0, fun xs r h => match xs with
  | [] => .nx r h
  | _ :: _ => .fail)
def ux_cons (t : IV → MS) (ts : MU) : MU := (Nat.succ ts.1, fun xs r h => match xs with
  | [] => .fail
  | x :: xs => sq (t x r h) fun r h => ts.2 xs r h)
def wx_none : M4 := fun _ h => .ok none h
def wx_some (i_e : M1) : M4 := fun r h => (i_e r h).bd fun x h => match x with
    | .int i => .ok (some i) h
    | _ => .fail
def sx_nil : MS := fun r h => .nx r h
def sx_cons (i_s i_ss : MS) : MS := fun r h => match i_s r h with
    | .nx r h => i_ss r h
    | z => z
section
variable (T : Tab) (cf : CF)
def evF (e : E) : M1 := @E.rec (fun _ => M1) (fun _ => M2) (fun _ => M3) (fun _ => M4)
    (fun i => kx_var i)
    (fun v => kx_cst v)
    (fun g => kx_glo T g)
    (fun es i_es => kx_tup i_es)
    (fun es i_es => kx_lst i_es)
    (fun es e i_es i_e => kx_tupS i_es i_e)
    (fun o a b i_a i_b => kx_bin o i_a i_b)
    (fun a i_a => kx_neg i_a)
    (fun a i_a => kx_not i_a)
    (fun a b i_a i_b => kx_and i_a i_b)
    (fun a b i_a i_b => kx_or i_a i_b)
    (fun o a b i_a i_b => kx_cmp o i_a i_b)
    (fun o p a b c i_a i_b i_c => kx_chain o p i_a i_b i_c)
    (fun c a b i_c i_a i_b => kx_ite i_c i_a i_b)
    (fun f as i_as => kx_call cf f i_as)
    (fun f as ks ws i_as i_ws => kx_callk cf f i_as ks i_ws)
    (fun b as i_as => kx_bi b i_as)
    (fun b a d i_a i_d => kx_bid b i_a i_d)
    (fun b x y i_x i_y => kx_bi2 b i_x i_y)
    (fun m o as i_o i_as => kx_mth T cf m i_o i_as)
    (fun c as i_as => kx_mk T cf c i_as)
    (fun o f i_o => kx_att i_o f)
    (fun a b i_a i_b => kx_idx i_a i_b)
    (fun a lo hi i_a i_lo i_hi => kx_sl i_a i_lo i_hi)
    (fun a i_a => kx_slr i_a)
    (fun m o as i_o i_as => kx_bm m i_o i_as)
    (fun own elt t it cs i_elt i_it i_cs => kx_lc own i_elt t i_it i_cs)
    (fun own elt t it cs t2 it2 cs2 i_elt i_it i_cs i_it2 i_cs2 => kx_lc2 own i_elt t i_it i_cs t2 i_it2 i_cs2)
    (fun kt own k v t it cs i_k i_v i_it i_cs => kx_dc kt own i_k i_v t i_it i_cs)
    (fun i => kx_fnv i)
    (fun e as i_e i_as => kx_callv cf i_e i_as)
    (fun l a i_a => kx_pack l i_a)
    (kx_pn)
    (fun s a b i_a i_b => kx_pc s i_a i_b)
    (fun kt => kx_dnew kt)
    (fun b x y z i_x i_y i_z => kx_min3 b i_x i_y i_z)
    (fun o p q a b c d i_a i_b i_c i_d => kx_chain3 o p q i_a i_b i_c i_d)
    (fun a ts i_a => kx_isi T i_a ts)
    (fun it i_it => kx_lit i_it)
    (fun e i_e => tx_ex i_e)
    (fun a i_a => tx_rng1 i_a)
    (fun a b i_a i_b => tx_rng2 i_a i_b)
    (fun a b i_a i_b => tx_rng3 i_a i_b)
    (fun e i_e => tx_enum i_e)
    (fun a b i_a i_b => tx_zip i_a i_b)
    (fun e i_e => tx_rev i_e)
    (fun e i_e => tx_items i_e)
    (fun e i_e => tx_values i_e)
    (fun a i_a => tx_revR1 i_a)
    (fun a b i_a i_b => tx_revR i_a i_b)
    (fun a b c i_a i_b i_c => tx_zip3 i_a i_b i_c)
    (lx_nil)
    (fun e es i_e i_es => lx_cons i_e i_es)
    (wx_none)
    (fun e i_e => wx_some i_e) e
def eviF (e : It) : M2 := @It.rec (fun _ => M1) (fun _ => M2) (fun _ => M3) (fun _ => M4)
    (fun i => kx_var i)
    (fun v => kx_cst v)
    (fun g => kx_glo T g)
    (fun es i_es => kx_tup i_es)
    (fun es i_es => kx_lst i_es)
    (fun es e i_es i_e => kx_tupS i_es i_e)
    (fun o a b i_a i_b => kx_bin o i_a i_b)
    (fun a i_a => kx_neg i_a)
    (fun a i_a => kx_not i_a)
    (fun a b i_a i_b => kx_and i_a i_b)
    (fun a b i_a i_b => kx_or i_a i_b)
    (fun o a b i_a i_b => kx_cmp o i_a i_b)
    (fun o p a b c i_a i_b i_c => kx_chain o p i_a i_b i_c)
    (fun c a b i_c i_a i_b => kx_ite i_c i_a i_b)
    (fun f as i_as => kx_call cf f i_as)
    (fun f as ks ws i_as i_ws => kx_callk cf f i_as ks i_ws)
    (fun b as i_as => kx_bi b i_as)
    (fun b a d i_a i_d => kx_bid b i_a i_d)
    (fun b x y i_x i_y => kx_bi2 b i_x i_y)
    (fun m o as i_o i_as => kx_mth T cf m i_o i_as)
    (fun c as i_as => kx_mk T cf c i_as)
    (fun o f i_o => kx_att i_o f)
    (fun a b i_a i_b => kx_idx i_a i_b)
    (fun a lo hi i_a i_lo i_hi => kx_sl i_a i_lo i_hi)
    (fun a i_a => kx_slr i_a)
    (fun m o as i_o i_as => kx_bm m i_o i_as)
    (fun own elt t it cs i_elt i_it i_cs => kx_lc own i_elt t i_it i_cs)
    (fun own elt t it cs t2 it2 cs2 i_elt i_it i_cs i_it2 i_cs2 => kx_lc2 own i_elt t i_it i_cs t2 i_it2 i_cs2)
    (fun kt own k v t it cs i_k i_v i_it i_cs => kx_dc kt own i_k i_v t i_it i_cs)
    (fun i => kx_fnv i)
    (fun e as i_e i_as => kx_callv cf i_e i_as)
    (fun l a i_a => kx_pack l i_a)
    (kx_pn)
    (fun s a b i_a i_b => kx_pc s i_a i_b)
    (fun kt => kx_dnew kt)
    (fun b x y z i_x i_y i_z => kx_min3 b i_x i_y i_z)
    (fun o p q a b c d i_a i_b i_c i_d => kx_chain3 o p q i_a i_b i_c i_d)
    (fun a ts i_a => kx_isi T i_a ts)
    (fun it i_it => kx_lit i_it)
    (fun e i_e => tx_ex i_e)
    (fun a i_a => tx_rng1 i_a)
    (fun a b i_a i_b => tx_rng2 i_a i_b)
    (fun a b i_a i_b => tx_rng3 i_a i_b)
    (fun e i_e => tx_enum i_e)
    (fun a b i_a i_b => tx_zip i_a i_b)
    (fun e i_e => tx_rev i_e)
    (fun e i_e => tx_items i_e)
    (fun e i_e => tx_values i_e)
    (fun a i_a => tx_revR1 i_a)
    (fun a b i_a i_b => tx_revR i_a i_b)
    (fun a b c i_a i_b i_c => tx_zip3 i_a i_b i_c)
    (lx_nil)
    (fun e es i_e i_es => lx_cons i_e i_es)
    (wx_none)
    (fun e i_e => wx_some i_e) e
def evsF (e : List E) : M3 := @E.rec_1 (fun _ => M1) (fun _ => M2) (fun _ => M3) (fun _ => M4)
    (fun i => kx_var i)
    (fun v => kx_cst v)
    (fun g => kx_glo T g)
    (fun es i_es => kx_tup i_es)
    (fun es i_es => kx_lst i_es)
    (fun es e i_es i_e => kx_tupS i_es i_e)
    (fun o a b i_a i_b => kx_bin o i_a i_b)
    (fun a i_a => kx_neg i_a)
    (fun a i_a => kx_not i_a)
    (fun a b i_a i_b => kx_and i_a i_b)
    (fun a b i_a i_b => kx_or i_a i_b)
    (fun o a b i_a i_b => kx_cmp o i_a i_b)
    (fun o p a b c i_a i_b i_c => kx_chain o p i_a i_b i_c)
    (fun c a b i_c i_a i_b => kx_ite i_c i_a i_b)
    (fun f as i_as => kx_call cf f i_as)
    (fun f as ks ws i_as i_ws => kx_callk cf f i_as ks i_ws)
    (fun b as i_as => kx_bi b i_as)
    (fun b a d i_a i_d => kx_bid b i_a i_d)
    (fun b x y i_x i_y => kx_bi2 b i_x i_y)
    (fun m o as i_o i_as => kx_mth T cf m i_o i_as)
    (fun c as i_as => kx_mk T cf c i_as)
    (fun o f i_o => kx_att i_o f)
    (fun a b i_a i_b => kx_idx i_a i_b)
    (fun a lo hi i_a i_lo i_hi => kx_sl i_a i_lo i_hi)
    (fun a i_a => kx_slr i_a)
    (fun m o as i_o i_as => kx_bm m i_o i_as)
    (fun own elt t it cs i_elt i_it i_cs => kx_lc own i_elt t i_it i_cs)
    (fun own elt t it cs t2 it2 cs2 i_elt i_it i_cs i_it2 i_cs2 => kx_lc2 own i_elt t i_it i_cs t2 i_it2 i_cs2)
    (fun kt own k v t it cs i_k i_v i_it i_cs => kx_dc kt own i_k i_v t i_it i_cs)
    (fun i => kx_fnv i)
    (fun e as i_e i_as => kx_callv cf i_e i_as)
    (fun l a i_a => kx_pack l i_a)
    (kx_pn)
    (fun s a b i_a i_b => kx_pc s i_a i_b)
    (fun kt => kx_dnew kt)
    (fun b x y z i_x i_y i_z => kx_min3 b i_x i_y i_z)
    (fun o p q a b c d i_a i_b i_c i_d => kx_chain3 o p q i_a i_b i_c i_d)
    (fun a ts i_a => kx_isi T i_a ts)
    (fun it i_it => kx_lit i_it)
    (fun e i_e => tx_ex i_e)
    (fun a i_a => tx_rng1 i_a)
    (fun a b i_a i_b => tx_rng2 i_a i_b)
    (fun a b i_a i_b => tx_rng3 i_a i_b)
    (fun e i_e => tx_enum i_e)
    (fun a b i_a i_b => tx_zip i_a i_b)
    (fun e i_e => tx_rev i_e)
    (fun e i_e => tx_items i_e)
    (fun e i_e => tx_values i_e)
    (fun a i_a => tx_revR1 i_a)
    (fun a b i_a i_b => tx_revR i_a i_b)
    (fun a b c i_a i_b i_c => tx_zip3 i_a i_b i_c)
    (lx_nil)
    (fun e es i_e i_es => lx_cons i_e i_es)
    (wx_none)
    (fun e i_e => wx_some i_e) e
def evoF (e : Option E) : M4 := @E.rec_2 (fun _ => M1) (fun _ => M2) (fun _ => M3) (fun _ => M4)
    (fun i => kx_var i)
    (fun v => kx_cst v)
    (fun g => kx_glo T g)
    (fun es i_es => kx_tup i_es)
    (fun es i_es => kx_lst i_es)
    (fun es e i_es i_e => kx_tupS i_es i_e)
    (fun o a b i_a i_b => kx_bin o i_a i_b)
    (fun a i_a => kx_neg i_a)
    (fun a i_a => kx_not i_a)
    (fun a b i_a i_b => kx_and i_a i_b)
    (fun a b i_a i_b => kx_or i_a i_b)
    (fun o a b i_a i_b => kx_cmp o i_a i_b)
    (fun o p a b c i_a i_b i_c => kx_chain o p i_a i_b i_c)
    (fun c a b i_c i_a i_b => kx_ite i_c i_a i_b)
    (fun f as i_as => kx_call cf f i_as)
    (fun f as ks ws i_as i_ws => kx_callk cf f i_as ks i_ws)
    (fun b as i_as => kx_bi b i_as)
    (fun b a d i_a i_d => kx_bid b i_a i_d)
    (fun b x y i_x i_y => kx_bi2 b i_x i_y)
    (fun m o as i_o i_as => kx_mth T cf m i_o i_as)
    (fun c as i_as => kx_mk T cf c i_as)
    (fun o f i_o => kx_att i_o f)
    (fun a b i_a i_b => kx_idx i_a i_b)
    (fun a lo hi i_a i_lo i_hi => kx_sl i_a i_lo i_hi)
    (fun a i_a => kx_slr i_a)
    (fun m o as i_o i_as => kx_bm m i_o i_as)
    (fun own elt t it cs i_elt i_it i_cs => kx_lc own i_elt t i_it i_cs)
    (fun own elt t it cs t2 it2 cs2 i_elt i_it i_cs i_it2 i_cs2 => kx_lc2 own i_elt t i_it i_cs t2 i_it2 i_cs2)
    (fun kt own k v t it cs i_k i_v i_it i_cs => kx_dc kt own i_k i_v t i_it i_cs)
    (fun i => kx_fnv i)
    (fun e as i_e i_as => kx_callv cf i_e i_as)
    (fun l a i_a => kx_pack l i_a)
    (kx_pn)
    (fun s a b i_a i_b => kx_pc s i_a i_b)
    (fun kt => kx_dnew kt)
    (fun b x y z i_x i_y i_z => kx_min3 b i_x i_y i_z)
    (fun o p q a b c d i_a i_b i_c i_d => kx_chain3 o p q i_a i_b i_c i_d)
    (fun a ts i_a => kx_isi T i_a ts)
    (fun it i_it => kx_lit i_it)
    (fun e i_e => tx_ex i_e)
    (fun a i_a => tx_rng1 i_a)
    (fun a b i_a i_b => tx_rng2 i_a i_b)
    (fun a b i_a i_b => tx_rng3 i_a i_b)
    (fun e i_e => tx_enum i_e)
    (fun a b i_a i_b => tx_zip i_a i_b)
    (fun e i_e => tx_rev i_e)
    (fun e i_e => tx_items i_e)
    (fun e i_e => tx_values i_e)
    (fun a i_a => tx_revR1 i_a)
    (fun a b i_a i_b => tx_revR i_a i_b)
    (fun a b c i_a i_b i_c => tx_zip3 i_a i_b i_c)
    (lx_nil)
    (fun e es i_e i_es => lx_cons i_e i_es)
    (wx_none)
    (fun e i_e => wx_some i_e) e
theorem evF_all (e : E) : evF T cf e = ev T cf e := @E.rec (fun e => evF T cf e = ev T cf e) (fun i => eviF T cf i = evi T cf i) (fun es => evsF T cf es = (evs T cf es, evt T cf es)) (fun x => evoF T cf x = evo T cf x)
    (fun i => by
      show kx_var i = _
      rfl)
    (fun v => by
      show kx_cst v = _
      rfl)
    (fun g => by
      show kx_glo T g = _
      rfl)
    (fun es q_es => by
      show kx_tup (evsF T cf es) = _
      rw [q_es]
      rfl)
    (fun es q_es => by
      show kx_lst (evsF T cf es) = _
      rw [q_es]
      rfl)
    (fun es e q_es q_e => by
      show kx_tupS (evsF T cf es) (evF T cf e) = _
      rw [q_es]
      rw [q_e]
      rfl)
    (fun o a b q_a q_b => by
      show kx_bin o (evF T cf a) (evF T cf b) = _
      rw [q_a]
      rw [q_b]
      have e1 : ∀ x y h, oprF o x y h = opr o x y h := oprF_eq o
      show (fun r h => (ev T cf a r h).bd fun x h => (ev T cf b r h).bd fun y h => oprF o x y h) = _
      simp only [e1]
      rfl)
    (fun a q_a => by
      show kx_neg (evF T cf a) = _
      rw [q_a]
      rfl)
    (fun a q_a => by
      show kx_not (evF T cf a) = _
      rw [q_a]
      rfl)
    (fun a b q_a q_b => by
      show kx_and (evF T cf a) (evF T cf b) = _
      rw [q_a]
      rw [q_b]
      rfl)
    (fun a b q_a q_b => by
      show kx_or (evF T cf a) (evF T cf b) = _
      rw [q_a]
      rw [q_b]
      rfl)
    (fun o a b q_a q_b => by
      show kx_cmp o (evF T cf a) (evF T cf b) = _
      rw [q_a]
      rw [q_b]
      have e1 : ∀ x y h, cmpF o x y h = Rk.cmp o x y h := cmpF_eq o
      show (fun r h => (ev T cf a r h).bd fun x h => (ev T cf b r h).bd fun y h => cmpF o x y h) = _
      simp only [e1]
      rfl)
    (fun o p a b c q_a q_b q_c => by
      show kx_chain o p (evF T cf a) (evF T cf b) (evF T cf c) = _
      rw [q_a]
      rw [q_b]
      rw [q_c]
      rfl)
    (fun c a b q_c q_a q_b => by
      show kx_ite (evF T cf c) (evF T cf a) (evF T cf b) = _
      rw [q_c]
      rw [q_a]
      rw [q_b]
      rfl)
    (fun f as q_as => by
      show kx_call cf f (evsF T cf as) = _
      rw [q_as]
      rfl)
    (fun f as ks ws q_as q_ws => by
      show kx_callk cf f (evsF T cf as) ks (evsF T cf ws) = _
      rw [q_as]
      rw [q_ws]
      rfl)
    (fun b as q_as => by
      show kx_bi b (evsF T cf as) = _
      rw [q_as]
      have e1 : biF b = fun vs h => match vs with
        | [x] => Rk.bi1 b x h
        | [x, y] => Rk.bi2 b x y h
        | _ => .fail := funext fun vs => funext fun h => biF_eq b vs h
      show (fun r h => (evs T cf as r h).bd fun vs h => biF b vs h) = _
      rw [e1]
      rfl)
    (fun b a d q_a q_d => by
      show kx_bid b (evF T cf a) (evF T cf d) = _
      rw [q_a]
      rw [q_d]
      rfl)
    (fun b x y q_x q_y => by
      show kx_bi2 b (evF T cf x) (evF T cf y) = _
      rw [q_x]
      rw [q_y]
      have e1 : ∀ x y h, bi2F b x y h = Rk.bi2 b x y h := bi2F_eq b
      show (fun r h => (ev T cf x r h).bd fun x h => (ev T cf y r h).bd fun y h => bi2F b x y h) = _
      simp only [e1]
      rfl)
    (fun m o as q_o q_as => by
      show kx_mth T cf m (evF T cf o) (evsF T cf as) = _
      rw [q_o]
      rw [q_as]
      rfl)
    (fun c as q_as => by
      show kx_mk T cf c (evsF T cf as) = _
      rw [q_as]
      rfl)
    (fun o f q_o => by
      show kx_att (evF T cf o) f = _
      rw [q_o]
      rfl)
    (fun a b q_a q_b => by
      show kx_idx (evF T cf a) (evF T cf b) = _
      rw [q_a]
      rw [q_b]
      rfl)
    (fun a lo hi q_a q_lo q_hi => by
      show kx_sl (evF T cf a) (evoF T cf lo) (evoF T cf hi) = _
      rw [q_a]
      rw [q_lo]
      rw [q_hi]
      rfl)
    (fun a q_a => by
      show kx_slr (evF T cf a) = _
      rw [q_a]
      rfl)
    (fun m o as q_o q_as => by
      show kx_bm m (evF T cf o) (evsF T cf as) = _
      rw [q_o]
      rw [q_as]
      have e1 : bmF m = bmt m := funext fun x => funext fun vs => funext fun h => bmF_eq m x vs h
      show (fun r h => (ev T cf o r h).bd fun x h => match recv m x h with
        | true => (evs T cf as r h).bd fun vs h => bmF m x vs h
        | false => .fail) = _
      rw [e1]
      rfl)
    (fun own elt t it cs q_elt q_it q_cs => by
      show kx_lc own (evF T cf elt) t (eviF T cf it) (evsF T cf cs) = _
      rw [q_elt]
      rw [q_it]
      rw [q_cs]
      funext r h
      show ((evi T cf it r h).bd fun k h => (newL [] h).bd fun d h => match d with
        | .ref n => (lcLF t (wip r own) (evt T cf cs) (ev T cf elt) n turns k h).bd fun _ h => .ok d h
        | _ => .fail) = _
      have e1 : ∀ n, lcLF t (wip r own) (evt T cf cs) (ev T cf elt) n turns = lcL t (wip r own) (evt T cf cs) (ev T cf elt) n turns := fun n => funext fun k => funext fun h => lcLF_eq _ _ _ _ _ _ _ _
      simp only [e1]
      rfl)
    (fun own elt t it cs t2 it2 cs2 q_elt q_it q_cs q_it2 q_cs2 => by
      show kx_lc2 own (evF T cf elt) t (eviF T cf it) (evsF T cf cs) t2 (eviF T cf it2) (evsF T cf cs2) = _
      rw [q_elt]
      rw [q_it]
      rw [q_cs]
      rw [q_it2]
      rw [q_cs2]
      rfl)
    (fun kt own k v t it cs q_k q_v q_it q_cs => by
      show kx_dc kt own (evF T cf k) (evF T cf v) t (eviF T cf it) (evsF T cf cs) = _
      rw [q_k]
      rw [q_v]
      rw [q_it]
      rw [q_cs]
      rfl)
    (fun i => by
      show kx_fnv i = _
      rfl)
    (fun e as q_e q_as => by
      show kx_callv cf (evF T cf e) (evsF T cf as) = _
      rw [q_e]
      rw [q_as]
      rfl)
    (fun l a q_a => by
      show kx_pack l (evF T cf a) = _
      rw [q_a]
      rfl)
    (by
      show kx_pn  = _
      rfl)
    (fun s a b q_a q_b => by
      show kx_pc s (evF T cf a) (evF T cf b) = _
      rw [q_a]
      rw [q_b]
      rfl)
    (fun kt => by
      show kx_dnew kt = _
      rfl)
    (fun b x y z q_x q_y q_z => by
      show kx_min3 b (evF T cf x) (evF T cf y) (evF T cf z) = _
      rw [q_x]
      rw [q_y]
      rw [q_z]
      rfl)
    (fun o p q a b c d q_a q_b q_c q_d => by
      show kx_chain3 o p q (evF T cf a) (evF T cf b) (evF T cf c) (evF T cf d) = _
      rw [q_a]
      rw [q_b]
      rw [q_c]
      rw [q_d]
      rfl)
    (fun a ts q_a => by
      show kx_isi T (evF T cf a) ts = _
      rw [q_a]
      rfl)
    (fun it q_it => by
      show kx_lit (eviF T cf it) = _
      rw [q_it]
      rfl)
    (fun e q_e => by
      show tx_ex (evF T cf e) = _
      rw [q_e]
      rfl)
    (fun a q_a => by
      show tx_rng1 (evF T cf a) = _
      rw [q_a]
      rfl)
    (fun a b q_a q_b => by
      show tx_rng2 (evF T cf a) (evF T cf b) = _
      rw [q_a]
      rw [q_b]
      rfl)
    (fun a b q_a q_b => by
      show tx_rng3 (evF T cf a) (evF T cf b) = _
      rw [q_a]
      rw [q_b]
      rfl)
    (fun e q_e => by
      show tx_enum (evF T cf e) = _
      rw [q_e]
      rfl)
    (fun a b q_a q_b => by
      show tx_zip (evF T cf a) (evF T cf b) = _
      rw [q_a]
      rw [q_b]
      rfl)
    (fun e q_e => by
      show tx_rev (evF T cf e) = _
      rw [q_e]
      rfl)
    (fun e q_e => by
      show tx_items (evF T cf e) = _
      rw [q_e]
      rfl)
    (fun e q_e => by
      show tx_values (evF T cf e) = _
      rw [q_e]
      rfl)
    (fun a q_a => by
      show tx_revR1 (evF T cf a) = _
      rw [q_a]
      rfl)
    (fun a b q_a q_b => by
      show tx_revR (evF T cf a) (evF T cf b) = _
      rw [q_a]
      rw [q_b]
      rfl)
    (fun a b c q_a q_b q_c => by
      show tx_zip3 (evF T cf a) (evF T cf b) (evF T cf c) = _
      rw [q_a]
      rw [q_b]
      rw [q_c]
      rfl)
    (by rfl)
    (fun e es q_e q_es => by
      show lx_cons (evF T cf e) (evsF T cf es) = _
      rw [q_e, q_es]
      rfl)
    (by rfl)
    (fun e q_e => by
      show wx_some (evF T cf e) = _
      rw [q_e]
      rfl)
    e
theorem evsF_all : ∀ es : List E, evsF T cf es = (evs T cf es, evt T cf es)
  | [] => rfl
  | e :: es => by
    show lx_cons (evF T cf e) (evsF T cf es) = _
    rw [evF_all, evsF_all es]
    rfl
theorem evoF_all : ∀ x : Option E, evoF T cf x = evo T cf x
  | none => rfl
  | some e => by
    show wx_some (evF T cf e) = _
    rw [evF_all]
    rfl
theorem eviF_all (i : It) : eviF T cf i = evi T cf i := by
  cases i with
  | ex e =>
    show tx_ex (evF T cf e) = _
    rw [evF_all]
    rfl
  | rng1 a =>
    show tx_rng1 (evF T cf a) = _
    rw [evF_all]
    rfl
  | rng2 a b =>
    show tx_rng2 (evF T cf a) (evF T cf b) = _
    rw [evF_all, evF_all]
    rfl
  | rng3 a b =>
    show tx_rng3 (evF T cf a) (evF T cf b) = _
    rw [evF_all, evF_all]
    rfl
  | enum e =>
    show tx_enum (evF T cf e) = _
    rw [evF_all]
    rfl
  | zip a b =>
    show tx_zip (evF T cf a) (evF T cf b) = _
    rw [evF_all, evF_all]
    rfl
  | rev e =>
    show tx_rev (evF T cf e) = _
    rw [evF_all]
    rfl
  | items e =>
    show tx_items (evF T cf e) = _
    
    rfl
  | values e =>
    show tx_values (evF T cf e) = _
    
    rfl
  | revR1 a =>
    show tx_revR1 (evF T cf a) = _
    rw [evF_all]
    rfl
  | revR a b =>
    show tx_revR (evF T cf a) (evF T cf b) = _
    rw [evF_all, evF_all]
    rfl
  | zip3 a b c =>
    show tx_zip3 (evF T cf a) (evF T cf b) (evF T cf c) = _
    rw [evF_all, evF_all, evF_all]
    rfl
def uF1 (t : T2) : IV → MS := @T2.rec (fun _ => IV → MS) (fun i => ux_nm i) (fun x f => ux_fld (evF T cf x) f) (fun x i => ux_sub (evF T cf x) (evF T cf i)) t
def uF (ts : List T2) : MU := @List.rec T2 (fun _ => MU) ux_nil (fun t _ r => ux_cons (uF1 T cf t) r) ts
theorem uF1_eq (t : T2) : uF1 T cf t = st2 T cf t := by
  cases t with
  | nm i => rfl
  | fld x f =>
    show ux_fld (evF T cf x) f = _
    rw [evF_all]
    rfl
  | sub x i =>
    show ux_sub (evF T cf x) (evF T cf i) = _
    rw [evF_all, evF_all]
    rfl
theorem uF_eq : ∀ ts : List T2, uF T cf ts = (ts.length, st2s T cf ts)
  | [] => rfl
  | t :: ts => by
    show ux_cons (uF1 T cf t) (uF T cf ts) = _
    rw [uF1_eq, uF_eq ts]
    rfl
def exF (s : S) : MS := @S.rec (fun _ => MS) (fun _ => MS)
    (fun i e => sx_set i (evF T cf e))
    (fun t e => sx_asg t (evF T cf e))
    (fun is es => sx_swap is (evsF T cf es))
    (fun o i e => sx_sub (evF T cf o) (evF T cf i) (evF T cf e))
    (fun o f e => sx_fld (evF T cf o) f (evF T cf e))
    (fun i o e => sx_aug i o (evF T cf e))
    (fun a i o e => sx_augS (evF T cf a) (evF T cf i) o (evF T cf e))
    (fun a f o e => sx_augF (evF T cf a) f o (evF T cf e))
    (fun e => sx_exp (evF T cf e))
    (fun e => sx_ret (evF T cf e))
    (sx_pass)
    (sx_brk)
    (sx_cont)
    (fun c a b i_a i_b => sx_ifs (evF T cf c) i_a i_b)
    (fun c b i_b => sx_whl (evF T cf c) i_b)
    (fun t it b i_b => sx_fors t (eviF T cf it) i_b)
    (fun c as => sx_rais c (evsF T cf as))
    (fun b hs i_b => sx_tryx T i_b hs)
    (fun a i => sx_del (evF T cf a) (evF T cf i))
    (fun ts e => sx_unp (uF T cf ts) (evF T cf e))
    (sx_nil)
    (fun s ss i_s i_ss => sx_cons i_s i_ss) s
def exsF (s : List S) : MS := @S.rec_1 (fun _ => MS) (fun _ => MS)
    (fun i e => sx_set i (evF T cf e))
    (fun t e => sx_asg t (evF T cf e))
    (fun is es => sx_swap is (evsF T cf es))
    (fun o i e => sx_sub (evF T cf o) (evF T cf i) (evF T cf e))
    (fun o f e => sx_fld (evF T cf o) f (evF T cf e))
    (fun i o e => sx_aug i o (evF T cf e))
    (fun a i o e => sx_augS (evF T cf a) (evF T cf i) o (evF T cf e))
    (fun a f o e => sx_augF (evF T cf a) f o (evF T cf e))
    (fun e => sx_exp (evF T cf e))
    (fun e => sx_ret (evF T cf e))
    (sx_pass)
    (sx_brk)
    (sx_cont)
    (fun c a b i_a i_b => sx_ifs (evF T cf c) i_a i_b)
    (fun c b i_b => sx_whl (evF T cf c) i_b)
    (fun t it b i_b => sx_fors t (eviF T cf it) i_b)
    (fun c as => sx_rais c (evsF T cf as))
    (fun b hs i_b => sx_tryx T i_b hs)
    (fun a i => sx_del (evF T cf a) (evF T cf i))
    (fun ts e => sx_unp (uF T cf ts) (evF T cf e))
    (sx_nil)
    (fun s ss i_s i_ss => sx_cons i_s i_ss) s
theorem evbF_eq (e : E) : evbF (ev T cf e) = evb T cf e := rfl
theorem exF_all (s : S) : exF T cf s = ex T cf s := @S.rec (fun s => exF T cf s = ex T cf s) (fun ss => exsF T cf ss = exs T cf ss)
    (fun i e => by
      show sx_set i (evF T cf e) = _
      rw [evF_all T cf e]
      rfl)
    (fun t e => by
      show sx_asg t (evF T cf e) = _
      rw [evF_all T cf e]
      funext r h
      show ((ev T cf e r h).st r fun v h => match asgF t v r h with
        | some r => .nx r h
        | none => .fail) = _
      rw [asgF_eq]
      rfl)
    (fun is es => by
      show sx_swap is (evsF T cf es) = _
      rw [evsF_all T cf es]
      rfl)
    (fun o i e => by
      show sx_sub (evF T cf o) (evF T cf i) (evF T cf e) = _
      rw [evF_all T cf o]
      rw [evF_all T cf i]
      rw [evF_all T cf e]
      funext r h
      show ((ev T cf e r h).st r fun v h => (ev T cf o r h).st r fun x h => (ev T cf i r h).st r fun y h => nxO r (setAt x y v h)) = _
      rfl)
    (fun o f e => by
      show sx_fld (evF T cf o) f (evF T cf e) = _
      rw [evF_all T cf o]
      rw [evF_all T cf e]
      rfl)
    (fun i o e => by
      show sx_aug i o (evF T cf e) = _
      rw [evF_all T cf e]
      rfl)
    (fun a i o e => by
      show sx_augS (evF T cf a) (evF T cf i) o (evF T cf e) = _
      rw [evF_all T cf a]
      rw [evF_all T cf i]
      rw [evF_all T cf e]
      funext r h
      show ((ev T cf a r h).st r fun x h => (ev T cf i r h).st r fun y h => (idxL x y h).st r fun z h => (ev T cf e r h).st r fun w h => (opi o z w h).st r fun u h => nxO r (setAt x y u h)) = _
      rfl)
    (fun a f o e => by
      show sx_augF (evF T cf a) f o (evF T cf e) = _
      rw [evF_all T cf a]
      rw [evF_all T cf e]
      rfl)
    (fun e => by
      show sx_exp (evF T cf e) = _
      rw [evF_all T cf e]
      rfl)
    (fun e => by
      show sx_ret (evF T cf e) = _
      rw [evF_all T cf e]
      rfl)
    (by
      show sx_pass  = _
      rfl)
    (by
      show sx_brk  = _
      rfl)
    (by
      show sx_cont  = _
      rfl)
    (fun c a b q_a q_b => by
      show sx_ifs (evF T cf c) (exsF T cf a) (exsF T cf b) = _
      rw [evF_all T cf c]
      rw [q_a]
      rw [q_b]
      rfl)
    (fun c b q_b => by
      show sx_whl (evF T cf c) (exsF T cf b) = _
      rw [evF_all T cf c]
      rw [q_b]
      funext r h
      exact whlLF_eq _ _ _ _ _)
    (fun t it b q_b => by
      show sx_fors t (eviF T cf it) (exsF T cf b) = _
      rw [eviF_all T cf it]
      rw [q_b]
      funext r h
      show ((evi T cf it r h).st r fun k h => forLF t (exs T cf b) turns k r h) = _
      simp only [forLF_eq]
      rfl)
    (fun c as => by
      show sx_rais c (evsF T cf as) = _
      rw [evsF_all T cf as]
      rfl)
    (fun b hs q_b => by
      show sx_tryx T (exsF T cf b) hs = _
      rw [q_b]
      rfl)
    (fun a i => by
      show sx_del (evF T cf a) (evF T cf i) = _
      rw [evF_all T cf a]
      rw [evF_all T cf i]
      rfl)
    (fun ts e => by
      show sx_unp (uF T cf ts) (evF T cf e) = _
      rw [uF_eq T cf ts]
      rw [evF_all T cf e]
      rfl)
    (by rfl)
    (fun s ss q_s q_ss => by
      show sx_cons (exF T cf s) (exsF T cf ss) = _
      rw [q_s, q_ss]
      rfl)
    s
theorem exsF_all : ∀ ss : List S, exsF T cf ss = exs T cf ss
  | [] => rfl
  | s :: ss => by
    show sx_cons (exF T cf s) (exsF T cf ss) = _
    rw [exF_all, exsF_all ss]
    rfl
end
structure Cd where
  ps : Nat
  ns : Nat
  run : CF → MS
def endB (z : RS) : R IV := match z with
    | .nx _ h => .ok .non h
    | .ret v h => .ok v h
    | .exc x _ h => .exc x h
    | _ => .fail
def bodyC (cf : CF) (d : Cd) (vs : List IV) (h : Hh) : R IV := match Nat.beq (lenR vs) d.ps with
  | true => endB (d.run cf (slots vs d.ns) h)
  | false => .fail
def atC (l : List Cd) : Nat → Option Cd := @List.rec Cd (fun _ => Nat → Option Cd) (fun _ => none) (fun x _ r n => @Nat.rec (fun _ => Option Cd) (some x) (fun m _ => r m) n) l
def cfnC (C : List Cd) (n : Nat) : CF := @Nat.rec (fun _ => CF) (fun _ _ _ => .fail) (fun _ go f vs h => match atC C f with
    | some d => bodyC (cfP go) d vs h
    | none => .fail) n
def cdOf (T : Tab) (d : Fd) : Cd := ⟨d.ps, d.ns, fun cf => exsF T cf d.body⟩
theorem atC_eq (T : Tab) : ∀ (F : List Fd) (i : Nat), atC (F.map (cdOf T)) i = (at? F i).map (cdOf T)
  | [], _ => rfl
  | d :: F, 0 => rfl
  | d :: F, i + 1 => atC_eq T F i
theorem bodyC_eq (T : Tab) (cf : CF) (d : Fd) (vs : List IV) (h : Hh) : bodyC cf (cdOf T d) vs h = body T cf d vs h := by
  show (match Nat.beq (lenR vs) d.ps with
  | true => endB (exsF T cf d.body (slots vs d.ns) h)
  | false => .fail) = _
  rw [exsF_all, lenR_eq]
  rfl
theorem cfnC_eq {T : Tab} {C : List Cd} {F : List Fd} (e : C = F.map (cdOf T)) : ∀ n, cfnC C n = cfnP T F n := by
  subst e
  intro n
  induction n with
  | zero => rfl
  | succ n ih =>
    funext f vs h
    show (match atC (F.map (cdOf T)) f with
    | some d => bodyC (cfP (cfnC (F.map (cdOf T)) n)) d vs h
    | none => .fail) = (match at? F f with
    | some d => body T (cfP (cfnP T F n)) d vs h
    | none => .fail)
    rw [atC_eq, ih]
    cases at? F f with
    | none => rfl
    | some d => exact bodyC_eq T _ d vs h
end
end Rk
namespace K52
open PySem PySem.Spec PyProof.Rows L2 Rk
def f0 : Rk.Fd := ⟨1, 1, [(.ret (.and (.isi (.var 0) [.int]) (.not (.isi (.var 0) [.bool]))))]⟩
def f1 : Rk.Fd := ⟨2, 2, [(.ret (.and (.isi (.var 0) [.tuple]) (.cmp .eq (.bi .len [(.var 0)]) (.var 1))))]⟩
def f2 : Rk.Fd := ⟨1, 1, [(.ret (.bin .sub (.cst (.int 1)) (.bin .mod (.var 0) (.cst (.int 2)))))]⟩
def f3 : Rk.Fd := ⟨1, 1, [(.ret (.bin .mul (.tup [(.cst (.int 0))]) (.bi .len [(.var 0)])))]⟩
def f4 : Rk.Fd := ⟨5, 10, [(.swap [5, 6] [(.call 2 [(.var 2)]), (.lst [])]), (.fors (.tp [(.nm 7), (.nm 8)]) (.enum (.var 0)) [(.set 9 (.cst (.int 0))), (.ifs (.and (.cmp .eq (.idx (.var 8) (.cst (.int 4))) (.var 5)) (.cmp .nin (.var 7) (.var 3))) [(.set 9 (.bi2 .max (.cst (.int 0)) (.bin .sub (.bi2 .min (.idx (.var 8) (.cst (.int 3))) (.idx (.var 1) (.var 7))) (.idx (.var 4) (.var 7)))))] []), (.exp (.bm .append (.var 6) [(.var 9)]))]), (.ret (.bi .tuple [(.var 6)]))]⟩
def f5 : Rk.Fd := ⟨2, 5, [(.set 2 (.cst (.int 0))), (.fors (.tp [(.nm 3), (.nm 4)]) (.enum (.var 1)) [(.augS (.var 0) (.var 3) .add (.bin .sub (.var 2) (.var 4))), (.set 2 (.var 4))])]⟩
def f6 : Rk.Fd := ⟨2, 5, [(.set 2 (.bin .mul (.lst [(.cst (.int 0))]) (.bi .len [(.var 1)]))), (.fors (.nm 3) (.rng3 (.bin .sub (.bi .len [(.var 0)]) (.cst (.int 1))) (.cst (.int 0))) [(.set 4 (.bi2 .max (.cst (.int 0)) (.bin .sub (.idx (.var 1) (.var 3)) (.idx (.idx (.var 0) (.var 3)) (.cst (.int 1)))))), (.augS (.var 1) (.var 3) .sub (.var 4)), (.augS (.var 1) (.bin .sub (.var 3) (.cst (.int 1))) .add (.var 4)), (.sub (.var 2) (.var 3) (.var 4))]), (.ret (.var 2))]⟩
def f7 : Rk.Fd := ⟨7, 12, [(.swap [7, 8] [(.bi .list [(.var 1)]), (.call 3 [(.var 0)])]), (.ifs (.var 4) [(.set 8 (.call 4 [(.var 0), (.var 1), (.var 3), (.var 5), (.var 6)])), (.exp (.call 5 [(.var 7), (.var 8)]))] []), (.ifs (.cmp .eq (.bin .mod (.var 2) (.cst (.int 2))) (.cst (.int 1))) [(.set 7 (.lc [10, 11] (.bin .add (.var 10) (.idx (.var 11) (.cst (.int 2)))) (.tp [(.nm 10), (.nm 11)]) (.zip (.var 7) (.var 0)) []))] []), (.set 9 (.call 6 [(.var 0), (.var 7)])), (.ret (.tup [(.bi .tuple [(.var 7)]), (.var 8), (.bi .tuple [(.var 9)])]))]⟩
def f8 : Rk.Fd := ⟨7, 10, [(.asg (.tp [(.nm 7), (.nm 8), (.nm 9)]) (.call 7 [(.var 0), (.var 1), (.var 2), (.var 3), (.var 4), (.var 5), (.var 6)])), (.ret (.tup [(.var 7), (.idx (.var 8) (.neg (.cst (.int 1))))]))]⟩
def f9 : Rk.Fd := ⟨3, 3, [(.ret (.call 8 [(.var 0), (.var 1), (.var 2), (.var 2), (.cst (.bl true)), (.tup []), (.call 3 [(.var 0)])]))]⟩
def f10 : Rk.Fd := ⟨3, 5, [(.set 3 (.lst [(.bi .tuple [(.var 1)])])), (.fors (.nm 4) (.rng1 (.var 2)) [(.exp (.bm .append (.var 3) [(.idx (.call 9 [(.var 0), (.idx (.var 3) (.neg (.cst (.int 1)))), (.var 4)]) (.cst (.int 0)))]))]), (.ret (.var 3))]⟩
def f11 : Rk.Fd := ⟨1, 5, [(.set 1 (.lc [2] (.idx (.var 2) (.cst (.int 0))) (.nm 2) (.ex (.var 0)) [])), (.ret (.lc [3, 4] (.bin .sub (.var 3) (.var 4)) (.tp [(.nm 3), (.nm 4)]) (.zip (.var 1) (.bin .add (.sl (.var 1) (some (.cst (.int 1))) none) (.lst [(.cst (.int 0))]))) []))]⟩
def f12 : Rk.Fd := ⟨5, 8, [(.set 5 (.call 4 [(.idx (.var 0) (.cst (.int 1))), (.var 1), (.var 2), (.var 3), (.var 4)])), (.ret (.bi .sum [(.lc [6, 7] (.bin .mul (.var 6) (.var 7)) (.tp [(.nm 6), (.nm 7)]) (.zip (.var 5) (.call 11 [(.idx (.var 0) (.cst (.int 1)))])) [])]))]⟩
def f13 : Rk.Fd := ⟨6, 6, [(.ret (.or (.cmp .is (.idx (.var 0) (.cst (.int 3))) (.cst .non)) (.cmp .ge (.var 3) (.call 12 [(.var 0), (.var 1), (.var 2), (.var 4), (.var 5)]))))]⟩
def f14 : Rk.Fd := ⟨1, 8, [(.set 1 (.lst [(.cst (.int 0)), (.cst (.int 0))])), (.fors (.tp [(.nm 2), (.nm 3)]) (.enum (.call 11 [(.idx (.var 0) (.cst (.int 1)))])) [(.asg (.tp [(.nm 4), (.nm 5), (.nm 4), (.nm 6), (.nm 7)]) (.idx (.idx (.var 0) (.cst (.int 1))) (.var 2))), (.ifs (.cmp .gt (.var 2) (.cst (.int 0))) [(.set 6 (.bi2 .min (.var 6) (.var 5)))] []), (.augS (.var 1) (.var 7) .add (.bin .mul (.var 6) (.var 3)))]), (.ret (.bi .tuple [(.var 1)]))]⟩
def f15 : Rk.Fd := ⟨4, 7, [(.ifs (.cmp .is (.idx (.var 0) (.cst (.int 3))) (.cst .non)) [(.ret (.cst (.int 0)))] []), (.asg (.tp [(.nm 4), (.nm 5), (.nm 6)]) (.idx (.var 0) (.cst (.int 3)))), (.ret (.bi2 .min (.var 4) (.bin .add (.bin .sub (.var 2) (.var 3)) (.idx (.var 6) (.bin .mod (.var 1) (.bi .len [(.var 6)]))))))]⟩
def f16 : Rk.Fd := ⟨3, 10, [(.asg (.tp [(.nm 3), (.nm 4), (.nm 5)]) (.var 2)), (.set 6 (.call 3 [(.idx (.var 0) (.cst (.int 1)))])), (.set 7 (.call 13 [(.var 0), (.var 4), (.var 3), (.var 5), (.tup []), (.var 6)])), (.set 8 (.cst (.int 0))), (.ifs (.var 7) [(.set 8 (.call 12 [(.var 0), (.var 4), (.var 3), (.tup []), (.var 6)]))] []), (.set 9 (.idx (.call 8 [(.idx (.var 0) (.cst (.int 1))), (.var 4), (.var 1), (.var 3), (.var 7), (.tup []), (.var 6)]) (.cst (.int 0)))), (.ret (.tup [(.bin .add (.var 3) (.bi .int [(.var 7)])), (.var 9), (.call 15 [(.var 0), (.var 1), (.var 5), (.var 8)])]))]⟩
def f17 : Rk.Fd := ⟨2, 5, [(.set 2 (.cst (.int 0))), (.ifs (.cmp .isnt (.idx (.var 0) (.cst (.int 3))) (.cst .non)) [(.set 2 (.idx (.idx (.var 0) (.cst (.int 3))) (.cst (.int 1))))] []), (.set 3 (.lst [(.tup [(.cst (.int 0)), (.call 3 [(.idx (.var 0) (.cst (.int 1)))]), (.var 2)])])), (.fors (.nm 4) (.rng1 (.var 1)) [(.exp (.bm .append (.var 3) [(.call 16 [(.var 0), (.var 4), (.idx (.var 3) (.neg (.cst (.int 1))))])]))]), (.ret (.var 3))]⟩
def f18 : Rk.Fd := ⟨2, 5, [(.set 2 (.lc [3] (.idx (.var 3) (.cst (.int 0))) (.nm 3) (.ex (.call 17 [(.var 0), (.var 1)])) [])), (.ret (.bi .tuple [(.lc [4] (.var 4) (.nm 4) (.rng1 (.var 1)) [(.cmp .eq (.idx (.var 2) (.var 4)) (.idx (.var 2) (.bin .add (.var 4) (.cst (.int 1)))))])]))]⟩
def f19 : Rk.Fd := ⟨2, 5, [(.set 2 (.call 3 [(.idx (.var 0) (.cst (.int 1)))])), (.set 3 (.call 10 [(.idx (.var 0) (.cst (.int 1))), (.var 2), (.var 1)])), (.ret (.bi .tuple [(.lc [4] (.call 12 [(.var 0), (.idx (.var 3) (.var 4)), (.var 4), (.tup []), (.var 2)]) (.nm 4) (.rng1 (.var 1)) [])]))]⟩
def f20 : Rk.Fd := ⟨2, 5, [(.ifs (.cmp .is (.idx (.var 0) (.cst (.int 3))) (.cst .non)) [(.ret (.cst .non))] []), (.set 2 (.mk 0 [(.var 0), (.var 1), (.cst (.int 0))])), (.fors (.nm 3) (.ex (.mth 0 (.var 2) [])) [(.fors (.nm 4) (.rng2 (.var 3) (.var 1)) [(.ifs (.cmp .gt (.bin .sub (.idx (.att (.var 2) 0) (.var 4)) (.idx (.att (.var 2) 1) (.var 3))) (.mth 1 (.var 2) [(.var 3)])) [(.ret (.tup [(.var 3), (.var 4)]))] [])])]), (.ret (.cst .non))]⟩
def f21 : Rk.Fd := ⟨3, 7, [(.ifs (.or (.cmp .is (.idx (.var 0) (.cst (.int 3))) (.cst .non)) (.or (.not (.call 1 [(.var 2), (.cst (.int 2))])) (.not (.bi .all [(.lc [6] (.call 0 [(.var 6)]) (.nm 6) (.ex (.var 2)) [])])))) [(.ret (.cst (.bl false)))] []), (.asg (.tp [(.nm 3), (.nm 4)]) (.var 2)), (.ifs (.not (.chain3 .le .le .lt (.cst (.int 0)) (.var 3) (.var 4) (.var 1))) [(.ret (.cst (.bl false)))] []), (.set 5 (.mk 0 [(.var 0), (.var 1), (.cst (.int 0))])), (.ret (.cmp .gt (.bin .sub (.idx (.att (.var 5) 0) (.var 4)) (.idx (.att (.var 5) 1) (.var 3))) (.mth 1 (.var 5) [(.var 3)])))]⟩
def f22 : Rk.Fd := ⟨2, 4, [(.ifs (.cmp .is (.idx (.var 0) (.cst (.int 3))) (.cst .non)) [(.rais 0 [])] []), (.set 2 (.mk 0 [(.var 0), (.var 1), (.cst (.int 0))])), (.set 3 (.mth 2 (.var 2) [])), (.ifs (.cmp .inn (.cst (.int 0)) (.mth 0 (.var 2) [])) [(.ret (.cst .non))] []), (.ret (.bi .max [(.pack true (.pc false (.att (.var 2) 2) (.pc true (.var 3) .pn)))]))]⟩
def f23 : Rk.Fd := ⟨2, 5, [(.ifs (.cmp .is (.idx (.var 0) (.cst (.int 3))) (.cst .non)) [(.rais 0 [])] []), (.swap [2, 3] [(.cst (.int 0)), (.bid .max (.call 19 [(.var 0), (.var 1)]) (.cst (.int 0)))]), (.ifs (.mth 0 (.mk 0 [(.var 0), (.var 1), (.var 3)]) []) [(.ret (.cst .non))] []), (.whl (.cmp .lt (.var 2) (.var 3)) [(.set 4 (.bin .fdiv (.bin .add (.var 2) (.var 3)) (.cst (.int 2)))), (.ifs (.mth 0 (.mk 0 [(.var 0), (.var 1), (.var 4)]) []) [(.set 2 (.bin .add (.var 4) (.cst (.int 1))))] [(.set 3 (.var 4))])]), (.ret (.var 2))]⟩
def f24 : Rk.Fd := ⟨2, 4, [(.ifs (.isi (.var 1) [.list, .tuple]) [(.ifs (.or (.cmp .ne (.isi (.var 0) [.list]) (.isi (.var 1) [.list])) (.cmp .ne (.isi (.var 0) [.tuple]) (.isi (.var 1) [.tuple]))) [(.ret (.cst (.bl false)))] []), (.ret (.and (.cmp .eq (.bi .len [(.var 0)]) (.bi .len [(.var 1)])) (.bi .all [(.lc [2, 3] (.call 24 [(.var 2), (.var 3)]) (.tp [(.nm 2), (.nm 3)]) (.zip (.var 0) (.var 1)) [])])))] []), (.ifs (.or (.cmp .is (.var 1) (.cst .non)) (.isi (.var 1) [.bool, .str])) [(.ret (.and (.cmp .eq (.var 0) (.var 1)) (.and (.cmp .eq (.isi (.var 0) [.bool]) (.isi (.var 1) [.bool])) (.cmp .eq (.cmp .is (.var 0) (.cst .non)) (.cmp .is (.var 1) (.cst .non))))))] []), (.ret (.and (.isi (.var 0) [.int]) (.and (.not (.isi (.var 0) [.bool])) (.cmp .eq (.var 0) (.var 1)))))]⟩
def f25 : Rk.Fd := ⟨1, 2, [(.ret (.ite (.isi (.var 0) [.list, .tuple]) (.lc [1] (.call 25 [(.var 1)]) (.nm 1) (.ex (.var 0)) []) (.var 0)))]⟩
def f26 : Rk.Fd := ⟨0, 0, [(.ret (.tup [(.tup [(.cst (.int 4)), (.cst (.bl true)), (.tup [(.cst (.int 0)), (.cst (.int 0)), (.cst (.int 0)), (.cst (.int 0)), (.cst (.int 0))])]), (.tup [(.tup [(.cst (.int 4)), (.cst (.int 0)), (.cst (.int 3)), (.cst (.int 3)), (.cst (.int 0))]), (.tup [(.cst (.int 2)), (.cst (.int 6)), (.cst (.int 1)), (.cst (.int 4)), (.cst (.int 1))])]), (.cst (.int 4)), (.tup [(.cst (.int 10)), (.cst (.int 4)), (.tup [(.cst (.int 5)), (.cst (.int 8))])])]))]⟩
def f27 : Rk.Fd := ⟨3, 4, [(.tryx [(.ret (.callv (.idx (.lst [(.fnv 22), (.fnv 23)]) (.var 0)) [(.var 1), (.var 2)]))] [⟨0, 3, [.s ⟨#[117, 110, 102, 105, 116]⟩, .b true], none⟩])]⟩
def f28 : Rk.Fd := ⟨1, 1, [(.ret (.bin .add (.sl (.call 26 []) none (some (.cst (.int 3)))) (.tup [(.var 0)])))]⟩
def f29 : Rk.Fd := ⟨0, 5, [(.swap [0, 1] [(.call 26 []), (.call 28 [(.cst .non)])]), (.set 2 (.tup [(.tup [(.cst (.int 3)), (.cst (.bl false)), (.tup [(.cst (.int 0)), (.cst (.int 1)), (.cst (.int 1)), (.cst (.int 1))])]), (.tup [(.tup [(.cst (.int 3)), (.cst (.int 0)), (.cst (.int 0)), (.cst (.int 5)), (.cst (.int 1))]), (.tup [(.cst (.int 1)), (.cst (.int 2)), (.cst (.int 0)), (.cst (.int 9)), (.cst (.int 1))])]), (.cst (.int 1)), (.cst .non)])), (.set 3 (.lst [(.call 12 [(.var 0), (.tup [(.cst (.int 3)), (.cst (.int 4))]), (.cst (.int 4)), (.tup []), (.tup [(.cst (.int 0)), (.cst (.int 0))])]), (.call 12 [(.var 0), (.tup [(.cst (.int 3)), (.cst (.int 4))]), (.cst (.int 4)), (.tup [(.cst (.int 1))]), (.tup [(.cst (.int 0)), (.cst (.int 0))])])])), (.set 3 (.bin .add (.var 3) (.lst [(.call 12 [(.var 0), (.tup [(.cst (.int 3)), (.cst (.int 4))]), (.cst (.int 5)), (.tup [(.cst (.int 1))]), (.tup [(.cst (.int 0)), (.cst (.int 0))])]), (.call 12 [(.var 0), (.tup [(.cst (.int 3)), (.cst (.int 4))]), (.cst (.int 5)), (.tup []), (.tup [(.cst (.int 1)), (.cst (.int 0))])])]))), (.set 3 (.bin .add (.var 3) (.lst [(.call 12 [(.var 0), (.tup [(.cst (.int 3)), (.cst (.int 4))]), (.cst (.int 5)), (.tup []), (.tup [(.cst (.int 9)), (.cst (.int 0))])]), (.call 12 [(.var 0), (.tup [(.cst (.int 1)), (.cst (.int 6))]), (.cst (.int 5)), (.tup []), (.tup [(.cst (.int 0)), (.cst (.int 0))])])]))), (.set 4 (.lst [(.cst (.int 8)), (.cst (.int 0)), (.cst (.int 6)), (.cst (.int 4)), (.cst (.int 0)), (.cst (.int 2))])), (.set 3 (.bin .add (.var 3) (.lst [(.call 12 [(.var 0), (.tup [(.cst (.int 0)), (.cst (.int 5))]), (.bin .pow (.cst (.int 10)) (.cst (.int 6))), (.tup []), (.tup [(.cst (.int 0)), (.cst (.int 2))])]), (.call 14 [(.var 0)]), (.call 14 [(.var 2)])]))), (.set 4 (.bin .add (.var 4) (.lst [(.cst (.int 4)), (.tup [(.cst (.int 6)), (.cst (.int 8))]), (.tup [(.cst (.int 0)), (.cst (.int 12))])]))), (.set 3 (.bin .add (.var 3) (.lst [(.call 13 [(.var 0), (.tup [(.cst (.int 3)), (.cst (.int 0))]), (.cst (.int 9)), (.cst (.int 5)), (.tup []), (.tup [(.cst (.int 0)), (.cst (.int 0))])]), (.call 13 [(.var 0), (.tup [(.cst (.int 3)), (.cst (.int 0))]), (.cst (.int 9)), (.cst (.int 6)), (.tup []), (.tup [(.cst (.int 0)), (.cst (.int 0))])])]))), (.set 3 (.bin .add (.var 3) (.lst [(.call 13 [(.var 1), (.tup [(.cst (.int 3)), (.cst (.int 0))]), (.cst (.int 9)), (.cst (.int 0)), (.tup []), (.tup [(.cst (.int 0)), (.cst (.int 0))])]), (.call 13 [(.var 0), (.tup [(.cst (.int 3)), (.cst (.int 0))]), (.cst (.int 9)), (.cst (.int 0)), (.tup [(.cst (.int 0))]), (.tup [(.cst (.int 0)), (.cst (.int 0))])])]))), (.set 4 (.bin .add (.var 4) (.lst [(.cst (.bl false)), (.cst (.bl true)), (.cst (.bl true)), (.cst (.bl true))]))), (.set 3 (.bin .add (.var 3) (.lst [(.call 15 [(.var 0), (.cst (.int 1)), (.cst (.int 9)), (.cst (.int 0))]), (.call 15 [(.var 0), (.cst (.int 2)), (.cst (.int 10)), (.cst (.int 2))]), (.call 15 [(.var 0), (.cst (.int 3)), (.cst (.int 10)), (.cst (.int 6))])]))), (.set 3 (.bin .add (.var 3) (.lst [(.call 15 [(.var 0), (.cst (.int 4)), (.cst (.int 3)), (.cst (.int 0))]), (.call 15 [(.var 0), (.cst (.int 7)), (.cst (.int 7)), (.cst (.int 6))]), (.call 15 [(.var 1), (.cst (.int 7)), (.cst (.int 0)), (.cst (.int 0))])]))), (.set 4 (.bin .add (.var 4) (.lst [(.cst (.int 10)), (.cst (.int 10)), (.cst (.int 10)), (.cst (.int 8)), (.cst (.int 9)), (.cst (.int 0))]))), (.set 3 (.bin .add (.var 3) (.lst [(.call 17 [(.var 0), (.cst (.int 0))]), (.call 17 [(.var 0), (.cst (.int 2))]), (.sl (.call 17 [(.var 0), (.cst (.int 5))]) (some (.cst (.int 3))) none), (.call 17 [(.var 1), (.cst (.int 1))])]))), (.set 4 (.bin .add (.var 4) (.lst [(.lst [(.tup [(.cst (.int 0)), (.tup [(.cst (.int 0)), (.cst (.int 0))]), (.cst (.int 4))])]), (.lst [(.tup [(.cst (.int 0)), (.tup [(.cst (.int 0)), (.cst (.int 0))]), (.cst (.int 4))]), (.tup [(.cst (.int 1)), (.tup [(.cst (.int 0)), (.cst (.int 0))]), (.cst (.int 9))]), (.tup [(.cst (.int 2)), (.tup [(.cst (.int 3)), (.cst (.int 1))]), (.cst (.int 10))])]), (.lst [(.tup [(.cst (.int 3)), (.tup [(.cst (.int 3)), (.cst (.int 0))]), (.cst (.int 10))]), (.tup [(.cst (.int 4)), (.tup [(.cst (.int 3)), (.cst (.int 4))]), (.cst (.int 10))]), (.tup [(.cst (.int 5)), (.tup [(.cst (.int 3)), (.cst (.int 0))]), (.cst (.int 7))])]), (.lst [(.tup [(.cst (.int 0)), (.tup [(.cst (.int 0)), (.cst (.int 0))]), (.cst (.int 0))]), (.tup [(.cst (.int 1)), (.tup [(.cst (.int 0)), (.cst (.int 0))]), (.cst (.int 0))])])]))), (.set 3 (.bin .add (.var 3) (.lst [(.sl (.call 17 [(.var 0), (.cst (.int 11))]) (some (.cst (.int 9))) none), (.call 18 [(.var 0), (.cst (.int 16))]), (.call 18 [(.var 0), (.cst (.int 9))]), (.call 18 [(.var 1), (.cst (.int 30))])]))), (.set 4 (.bin .add (.var 4) (.lst [(.lst [(.tup [(.cst (.int 9)), (.tup [(.cst (.int 3)), (.cst (.int 0))]), (.cst (.int 5))]), (.tup [(.cst (.int 9)), (.tup [(.cst (.int 6)), (.cst (.int 1))]), (.cst (.int 10))]), (.tup [(.cst (.int 10)), (.tup [(.cst (.int 3)), (.cst (.int 4))]), (.cst (.int 9))])]), (.tup [(.cst (.int 9)), (.cst (.int 15))]), (.tup []), (.tup [])]))), (.set 3 (.bin .add (.var 3) (.lst [(.call 19 [(.var 0), (.cst (.int 7))]), (.call 19 [(.var 1), (.cst (.int 10))]), (.call 19 [(.call 28 [(.tup [(.cst (.int 0)), (.cst (.int 0)), (.tup [(.cst (.int 0))])])]), (.cst (.int 4))])]))), (.ret (.call 24 [(.var 3), (.bin .add (.var 4) (.lst [(.tup [(.cst (.int 0)), (.cst (.int 0)), (.cst (.int 2)), (.cst (.int 6)), (.cst (.int 8)), (.cst (.int 6)), (.cst (.int 8))]), (.tup [(.cst (.int 0)), (.cst (.int 0)), (.cst (.int 2)), (.cst (.int 6)), (.cst (.int 8)), (.cst (.int 6)), (.cst (.int 8)), (.cst (.int 6)), (.cst (.int 8)), (.cst (.int 6))]), (.tup [(.cst (.int 0)), (.cst (.int 0)), (.cst (.int 2)), (.cst (.int 6))])]))]))]⟩
def f30 : Rk.Fd := ⟨0, 9, [(.unp [(.nm 0), (.nm 1), (.nm 2)] (.tup [(.call 26 []), (.call 28 [(.tup [(.cst (.int 1)), (.cst (.int 0)), (.tup [(.cst (.int 0))])])]), (.call 28 [(.tup [(.cst (.int 2)), (.cst (.int 0)), (.tup [(.cst (.int 0))])])])])), (.set 3 (.lst [(.call 20 [(.var 0), (.cst (.int 10))]), (.call 20 [(.var 0), (.cst (.int 9))]), (.call 20 [(.var 0), (.cst (.int 0))]), (.call 20 [(.var 1), (.cst (.int 3))]), (.call 20 [(.var 1), (.cst (.int 2))])])), (.set 3 (.bin .add (.var 3) (.lst [(.call 20 [(.call 28 [(.cst .non)]), (.cst (.int 30))]), (.call 21 [(.call 28 [(.cst .non)]), (.cst (.int 30)), (.tup [(.cst (.int 4)), (.cst (.int 9))])])]))), (.set 4 (.lst [(.tup [(.cst (.int 4)), (.cst (.int 9))]), (.cst .non), (.cst .non), (.tup [(.cst (.int 0)), (.cst (.int 2))]), (.cst .non), (.cst .non), (.cst (.bl false))])), (.set 5 (.bin .add (.lc [7] (.call 21 [(.var 1), (.cst (.int 3)), (.var 7)]) (.nm 7) (.ex (.tup [(.tup [(.cst (.int 0)), (.cst (.int 2))]), (.tup [(.cst (.int 1)), (.cst (.int 2))]), (.tup [(.cst (.int 2)), (.cst (.int 2))])])) []) (.lst [(.call 21 [(.var 0), (.cst (.int 10)), (.tup [(.cst (.int 4)), (.cst (.int 9))])])]))), (.set 6 (.lst [(.tup [(.cst (.int 9)), (.cst (.int 4))]), (.tup [(.cst (.int 5)), (.cst (.int 9))]), (.tup [(.cst (.int 3)), (.cst (.int 9))]), (.tup [(.cst (.int 4)), (.cst (.int 8))]), (.tup [(.cst (.int 9)), (.cst (.int 9))]), (.lst [(.cst (.int 4)), (.cst (.int 9))]), (.tup [(.cst (.int 4)), (.cst (.int 9)), (.cst (.int 0))]), (.tup [(.cst (.int 4))]), (.tup [(.cst (.int 4)), (.cst (.int 10))]), (.tup [(.neg (.cst (.int 1))), (.cst (.int 9))]), (.tup [(.cst (.int 4)), (.cst .non)]), (.tup [(.cst (.bl true)), (.cst (.int 9))])])), (.set 6 (.bin .add (.var 6) (.lst [(.cst .non), (.cst (.str ⟨#[97, 98]⟩)), (.cst (.int 4)), (.tup []), (.tup [(.bin .pow (.cst (.int 10)) (.cst (.int 30))), (.bin .pow (.cst (.int 10)) (.cst (.int 30)))]), (.tup [(.tup [(.cst (.int 4)), (.cst (.int 9))]), (.tup [(.cst (.int 4)), (.cst (.int 9))])]), (.tup [(.cst (.str ⟨#[52]⟩)), (.cst (.str ⟨#[57]⟩))])]))), (.set 3 (.bin .add (.var 3) (.lst [(.var 5), (.lc [7] (.call 21 [(.var 0), (.cst (.int 10)), (.var 7)]) (.nm 7) (.ex (.var 6)) []), (.call 21 [(.var 0), (.cst (.int 0)), (.tup [(.cst (.int 0)), (.cst (.int 0))])]), (.call 21 [(.var 1), (.cst (.int 2)), (.tup [(.cst (.int 0)), (.cst (.int 2))])])]))), (.set 4 (.bin .add (.var 4) (.lst [(.bin .mul (.lst [(.cst (.bl true))]) (.cst (.int 4))), (.bin .mul (.lst [(.cst (.bl false))]) (.cst (.int 19))), (.cst (.bl false)), (.cst (.bl false))]))), (.set 3 (.bin .add (.bin .add (.var 3) (.lc [8] (.call 27 [(.var 8), (.var 0), (.cst (.int 10))]) (.nm 8) (.ex (.tup [(.cst (.int 0)), (.cst (.int 1))])) [])) (.lc [8] (.call 27 [(.var 8), (.var 0), (.cst (.int 9))]) (.nm 8) (.ex (.tup [(.cst (.int 0)), (.cst (.int 1))])) []))), (.set 4 (.bin .add (.var 4) (.lst [(.cst (.int 11)), (.cst (.int 1)), (.cst (.int 10)), (.cst (.int 0))]))), (.set 3 (.bin .add (.bin .add (.var 3) (.lc [8] (.call 27 [(.var 8), (.var 1), (.cst (.int 3))]) (.nm 8) (.ex (.tup [(.cst (.int 0)), (.cst (.int 1))])) [])) (.lc [8] (.call 27 [(.var 8), (.var 2), (.cst (.int 3))]) (.nm 8) (.ex (.tup [(.cst (.int 0)), (.cst (.int 1))])) []))), (.set 4 (.bin .add (.var 4) (.lst [(.cst .non), (.cst .non), (.cst .non), (.cst (.int 1))]))), (.set 3 (.bin .add (.var 3) (.lst [(.call 27 [(.cst (.int 0)), (.call 28 [(.tup [(.cst (.int 2)), (.cst (.int 2)), (.tup [(.cst (.int 0))])])]), (.cst (.int 3))]), (.call 27 [(.cst (.int 0)), (.call 28 [(.tup [(.cst (.int 7)), (.cst (.int 2)), (.tup [(.cst (.int 0))])])]), (.cst (.int 3))])]))), (.set 3 (.bin .add (.bin .add (.var 3) (.lst [(.call 27 [(.cst (.int 0)), (.var 0), (.cst (.int 0))]), (.call 27 [(.cst (.int 1)), (.var 0), (.cst (.int 0))])])) (.lc [8] (.call 27 [(.var 8), (.call 28 [(.cst .non)]), (.cst (.int 4))]) (.nm 8) (.ex (.tup [(.cst (.int 0)), (.cst (.int 1))])) []))), (.set 3 (.bin .add (.var 3) (.lc [8] (.call 27 [(.var 8), (.call 28 [(.cst .non)]), (.cst (.int 0))]) (.nm 8) (.ex (.tup [(.cst (.int 0)), (.cst (.int 1))])) []))), (.ret (.call 24 [(.var 3), (.bin .add (.bin .add (.var 4) (.lst [(.cst (.int 2)), (.cst (.int 2)), (.cst (.int 4)), (.cst (.int 0))])) (.bin .mul (.lst [(.lst [(.cst (.str ⟨#[117, 110, 102, 105, 116]⟩)), (.cst (.bl true))])]) (.cst (.int 4))))]))]⟩
def f31 : Rk.Fd := ⟨0, 4, [(.swap [0, 1] [(.call 25 [(.call 26 [])]), (.call 17 [(.call 26 []), (.cst (.int 1))])]), (.exp (.bm .append (.var 1) [(.tup [])])), (.set 2 (.lst [(.callk 12 [] [4, 3, 2, 1, 0] [(.lst [(.cst (.int 1)), (.cst (.int 0))]), (.lst [(.cst (.int 1))]), (.cst (.int 5)), (.lst [(.cst (.int 3)), (.cst (.int 4))]), (.var 0)]), (.callk 14 [] [0] [(.var 0)])])), (.set 2 (.bin .add (.var 2) (.lst [(.callk 13 [] [5, 4, 3, 2, 1, 0] [(.lst [(.cst (.int 0)), (.cst (.int 0))]), (.lst []), (.cst (.int 5)), (.cst (.int 9)), (.lst [(.cst (.int 3)), (.cst (.int 0))]), (.var 0)])]))), (.set 2 (.bin .add (.var 2) (.lst [(.callk 15 [] [3, 2, 1, 0] [(.cst (.int 0)), (.cst (.int 9)), (.cst (.int 1)), (.var 0)]), (.callk 17 [] [1, 0] [(.cst (.int 1)), (.var 0)])]))), (.set 2 (.bin .add (.var 2) (.lst [(.callk 18 [] [1, 0] [(.cst (.int 10)), (.var 0)]), (.callk 19 [] [1, 0] [(.cst (.int 3)), (.var 0)]), (.callk 20 [] [1, 0] [(.cst (.int 10)), (.var 0)])]))), (.set 2 (.bin .add (.var 2) (.lst [(.callk 21 [] [2, 1, 0] [(.tup [(.cst (.int 4)), (.cst (.int 9))]), (.cst (.int 10)), (.var 0)]), (.callk 22 [] [1, 0] [(.cst (.int 10)), (.var 0)])]))), (.set 2 (.bin .add (.var 2) (.lst [(.callk 23 [] [1, 0] [(.cst (.int 10)), (.var 0)]), (.var 0)]))), (.set 3 (.lst [(.cst (.int 4)), (.tup [(.cst (.int 6)), (.cst (.int 8))]), (.cst (.bl false)), (.cst (.int 10)), (.lst [(.tup [(.cst (.int 0)), (.tup [(.cst (.int 0)), (.cst (.int 0))]), (.cst (.int 4))]), (.tup [(.cst (.int 1)), (.tup [(.cst (.int 0)), (.cst (.int 0))]), (.cst (.int 9))])]), (.tup [(.cst (.int 9))]), (.tup [(.cst (.int 0)), (.cst (.int 0)), (.cst (.int 2))]), (.tup [(.cst (.int 4)), (.cst (.int 9))]), (.cst (.bl true)), (.cst (.int 11)), (.cst (.int 1))])), (.ret (.call 24 [(.var 2), (.bin .add (.var 3) (.lst [(.call 25 [(.call 26 [])])]))]))]⟩
def f32 : Rk.Fd := ⟨1, 1, [(.ret (.and (.call 29 []) (.and (.call 30 []) (.call 31 []))))]⟩
def f33 : Rk.Fd := ⟨4, 8, [(.unp [(.fld (.var 0) 3), (.fld (.var 0) 2), (.nm 4)] (.idx (.var 1) (.cst (.int 3)))), (.unp [(.fld (.var 0) 1), (.fld (.var 0) 0)] (.tup [(.lst []), (.lst [])])), (.set 5 (.cst (.int 0))), (.fors (.tp [(.nm 6), (.nm 7)]) (.enum (.call 19 [(.var 1), (.var 2)])) [(.exp (.bm .append (.att (.var 0) 1) [(.var 5)])), (.exp (.bm .append (.att (.var 0) 0) [(.bin .add (.var 5) (.var 7))])), (.aug 5 .add (.bin .sub (.bin .sub (.var 7) (.idx (.var 4) (.bin .mod (.var 6) (.bi .len [(.var 4)])))) (.var 3)))])]⟩
def f34 : Rk.Fd := ⟨2, 2, [(.ifs (.cmp .eq (.var 1) (.cst (.int 0))) [(.ret (.att (.var 0) 2))] []), (.ret (.att (.var 0) 3))]⟩
def f35 : Rk.Fd := ⟨1, 4, [(.swap [1, 2] [(.lst []), (.cst .non)]), (.fors (.nm 3) (.revR1 (.bi .len [(.att (.var 0) 1)])) [(.ifs (.or (.cmp .is (.var 2) (.cst .non)) (.cmp .gt (.idx (.att (.var 0) 0) (.var 3)) (.var 2))) [(.set 2 (.idx (.att (.var 0) 0) (.var 3)))] []), (.exp (.bm .append (.var 1) [(.bin .sub (.var 2) (.idx (.att (.var 0) 1) (.var 3)))]))]), (.ret (.slr (.var 1)))]⟩
def f36 : Rk.Fd := ⟨1, 3, [(.ret (.lc [1, 2] (.var 1) (.tp [(.nm 1), (.nm 2)]) (.enum (.mth 2 (.var 0) [])) [(.cmp .gt (.var 2) (.mth 1 (.var 0) [(.var 1)]))]))]⟩
def fns : List Rk.Fd := [f0, f1, f2, f3, f4, f5, f6, f7, f8, f9, f10, f11, f12, f13, f14, f15, f16, f17, f18, f19, f20, f21, f22, f23, f24, f25, f26, f27, f28, f29, f30, f31, f32, f33, f34, f35, f36]
def tab : Rk.Tab := ⟨[], [33], [[(1, 34), (2, 35), (0, 36)]], [0]⟩
def top (i : Nat) : Stmt := PySem.Challenge.pw_manrods_k52_weights_steam_and_lacks_by_h.main.body.getD i (.Pass ⟨0, 0, 0, 0⟩)
def clsB : Stmt → List Stmt
  | .ClassDef _ _ _ b _ _ _ _ _ _ _ => b
  | _ => []
def inS (i j : Nat) : Stmt := (clsB (top i)).getD j (.Pass ⟨0, 0, 0, 0⟩)
def d0 : Df := ⟨(Str.ofString "is_number"), (Str.ofString "is_number"), [(Str.ofString "thing")], [(Str.ofString "thing")], defArgs (top 1), defBody (top 1), defScope (top 1), f0⟩
def d1 : Df := ⟨(Str.ofString "is_tuple"), (Str.ofString "is_tuple"), [(Str.ofString "thing"), (Str.ofString "size")], [(Str.ofString "thing"), (Str.ofString "size")], defArgs (top 2), defBody (top 2), defScope (top 2), f1⟩
def d2 : Df := ⟨(Str.ofString "rising_rod"), (Str.ofString "rising_rod"), [(Str.ofString "made")], [(Str.ofString "made")], defArgs (top 6), defBody (top 6), defScope (top 6), f2⟩
def d3 : Df := ⟨(Str.ofString "dry_held"), (Str.ofString "dry_held"), [(Str.ofString "waters")], [(Str.ofString "waters")], defArgs (top 8), defBody (top 8), defScope (top 8), f3⟩
def d4 : Df := ⟨(Str.ofString "brings"), (Str.ofString "brings"), [(Str.ofString "waters"), (Str.ofString "held"), (Str.ofString "made"), (Str.ofString "loose"), (Str.ofString "leaks")], [(Str.ofString "waters"), (Str.ofString "held"), (Str.ofString "made"), (Str.ofString "loose"), (Str.ofString "leaks"), (Str.ofString "rod"), (Str.ofString "brought"), (Str.ofString "number"), (Str.ofString "cistern"), (Str.ofString "amount")], defArgs (top 9), defBody (top 9), defScope (top 9), f4⟩
def d5 : Df := ⟨(Str.ofString "_lift_all"), (Str.ofString "_lift_all"), [(Str.ofString "now"), (Str.ofString "brought")], [(Str.ofString "now"), (Str.ofString "brought"), (Str.ofString "coming"), (Str.ofString "number"), (Str.ofString "amount")], defArgs (top 10), defBody (top 10), defScope (top 10), f5⟩
def d6 : Df := ⟨(Str.ofString "_spill"), (Str.ofString "_spill"), [(Str.ofString "waters"), (Str.ofString "now")], [(Str.ofString "waters"), (Str.ofString "now"), (Str.ofString "spilt"), (Str.ofString "number"), (Str.ofString "over")], defArgs (top 11), defBody (top 11), defScope (top 11), f6⟩
def d7 : Df := ⟨(Str.ofString "water_told"), (Str.ofString "water_told"), [(Str.ofString "waters"), (Str.ofString "held"), (Str.ofString "rest"), (Str.ofString "made"), (Str.ofString "moved"), (Str.ofString "loose"), (Str.ofString "leaks")], [(Str.ofString "waters"), (Str.ofString "held"), (Str.ofString "rest"), (Str.ofString "made"), (Str.ofString "moved"), (Str.ofString "loose"), (Str.ofString "leaks"), (Str.ofString "now"), (Str.ofString "brought"), (Str.ofString "spilt"), (Str.ofString "amount"), (Str.ofString "cistern")], defArgs (top 12), defBody (top 12), defScope (top 12), f7⟩
def d8 : Df := ⟨(Str.ofString "behind_rest"), (Str.ofString "behind_rest"), [(Str.ofString "waters"), (Str.ofString "held"), (Str.ofString "rest"), (Str.ofString "made"), (Str.ofString "moved"), (Str.ofString "loose"), (Str.ofString "leaks")], [(Str.ofString "waters"), (Str.ofString "held"), (Str.ofString "rest"), (Str.ofString "made"), (Str.ofString "moved"), (Str.ofString "loose"), (Str.ofString "leaks"), (Str.ofString "now"), (Str.ofString "brought"), (Str.ofString "_")], defArgs (top 13), defBody (top 13), defScope (top 13), f8⟩
def d9 : Df := ⟨(Str.ofString "plain_rest"), (Str.ofString "plain_rest"), [(Str.ofString "waters"), (Str.ofString "held"), (Str.ofString "rest")], [(Str.ofString "waters"), (Str.ofString "held"), (Str.ofString "rest")], defArgs (top 14), defBody (top 14), defScope (top 14), f9⟩
def d10 : Df := ⟨(Str.ofString "held_rows"), (Str.ofString "held_rows"), [(Str.ofString "waters"), (Str.ofString "held"), (Str.ofString "many")], [(Str.ofString "waters"), (Str.ofString "held"), (Str.ofString "many"), (Str.ofString "rows"), (Str.ofString "rest")], defArgs (top 15), defBody (top 15), defScope (top 15), f10⟩
def d11 : Df := ⟨(Str.ofString "heights_of"), (Str.ofString "heights_of"), [(Str.ofString "waters")], [(Str.ofString "waters"), (Str.ofString "levels"), (Str.ofString "cistern"), (Str.ofString "low"), (Str.ofString "high")], defArgs (top 17), defBody (top 17), defScope (top 17), f11⟩
def d12 : Df := ⟨(Str.ofString "stroke_weight"), (Str.ofString "stroke_weight"), [(Str.ofString "mine"), (Str.ofString "held"), (Str.ofString "made"), (Str.ofString "loose"), (Str.ofString "leaks")], [(Str.ofString "mine"), (Str.ofString "held"), (Str.ofString "made"), (Str.ofString "loose"), (Str.ofString "leaks"), (Str.ofString "brought"), (Str.ofString "amount"), (Str.ofString "height")], defArgs (top 18), defBody (top 18), defScope (top 18), f12⟩
def d13 : Df := ⟨(Str.ofString "is_stroke_made"), (Str.ofString "is_stroke_made"), [(Str.ofString "mine"), (Str.ofString "held"), (Str.ofString "made"), (Str.ofString "steam"), (Str.ofString "loose"), (Str.ofString "leaks")], [(Str.ofString "mine"), (Str.ofString "held"), (Str.ofString "made"), (Str.ofString "steam"), (Str.ofString "loose"), (Str.ofString "leaks")], defArgs (top 19), defBody (top 19), defScope (top 19), f13⟩
def d14 : Df := ⟨(Str.ofString "greatest_weights"), (Str.ofString "greatest_weights"), [(Str.ofString "mine")], [(Str.ofString "mine"), (Str.ofString "weights"), (Str.ofString "number"), (Str.ofString "height"), (Str.ofString "_"), (Str.ofString "room"), (Str.ofString "measure"), (Str.ofString "rod")], defArgs (top 20), defBody (top 20), defScope (top 20), f14⟩
def d15 : Df := ⟨(Str.ofString "steam_behind"), (Str.ofString "steam_behind"), [(Str.ofString "mine"), (Str.ofString "rest"), (Str.ofString "steam"), (Str.ofString "spent")], [(Str.ofString "mine"), (Str.ofString "rest"), (Str.ofString "steam"), (Str.ofString "spent"), (Str.ofString "room"), (Str.ofString "_"), (Str.ofString "stokes")], defArgs (top 21), defBody (top 21), defScope (top 21), f15⟩
def d16 : Df := ⟨(Str.ofString "_lone_behind"), (Str.ofString "_lone_behind"), [(Str.ofString "mine"), (Str.ofString "rest"), (Str.ofString "row")], [(Str.ofString "mine"), (Str.ofString "rest"), (Str.ofString "row"), (Str.ofString "made"), (Str.ofString "held"), (Str.ofString "steam"), (Str.ofString "none"), (Str.ofString "moved"), (Str.ofString "spent"), (Str.ofString "behind")], defArgs (top 22), defBody (top 22), defScope (top 22), f16⟩
def d17 : Df := ⟨(Str.ofString "lone_rows"), (Str.ofString "lone_rows"), [(Str.ofString "mine"), (Str.ofString "many")], [(Str.ofString "mine"), (Str.ofString "many"), (Str.ofString "begin"), (Str.ofString "rows"), (Str.ofString "rest")], defArgs (top 23), defBody (top 23), defScope (top 23), f17⟩
def d18 : Df := ⟨(Str.ofString "missed_strokes"), (Str.ofString "missed_strokes"), [(Str.ofString "mine"), (Str.ofString "many")], [(Str.ofString "mine"), (Str.ofString "many"), (Str.ofString "mades"), (Str.ofString "row"), (Str.ofString "rest")], defArgs (top 24), defBody (top 24), defScope (top 24), f18⟩
def d19 : Df := ⟨(Str.ofString "weights_ahead"), (Str.ofString "weights_ahead"), [(Str.ofString "mine"), (Str.ofString "many")], [(Str.ofString "mine"), (Str.ofString "many"), (Str.ofString "none"), (Str.ofString "rows"), (Str.ofString "rest")], defArgs (top 25), defBody (top 25), defScope (top 25), f19⟩
def d20 : Df := ⟨(Str.ofString "first_lack"), (Str.ofString "first_lack"), [(Str.ofString "mine"), (Str.ofString "many")], [(Str.ofString "mine"), (Str.ofString "many"), (Str.ofString "balance"), (Str.ofString "first"), (Str.ofString "last")], defArgs (top 27), defBody (top 27), defScope (top 27), f20⟩
def d21 : Df := ⟨(Str.ofString "is_lack"), (Str.ofString "is_lack"), [(Str.ofString "mine"), (Str.ofString "many"), (Str.ofString "thing")], [(Str.ofString "mine"), (Str.ofString "many"), (Str.ofString "thing"), (Str.ofString "first"), (Str.ofString "last"), (Str.ofString "balance"), (Str.ofString "rest")], defArgs (top 28), defBody (top 28), defScope (top 28), f21⟩
def d22 : Df := ⟨(Str.ofString "least_room"), (Str.ofString "least_room"), [(Str.ofString "mine"), (Str.ofString "many")], [(Str.ofString "mine"), (Str.ofString "many"), (Str.ofString "balance"), (Str.ofString "needs")], defArgs (top 29), defBody (top 29), defScope (top 29), f22⟩
def d23 : Df := ⟨(Str.ofString "least_more"), (Str.ofString "least_more"), [(Str.ofString "mine"), (Str.ofString "many")], [(Str.ofString "mine"), (Str.ofString "many"), (Str.ofString "low"), (Str.ofString "high"), (Str.ofString "middle")], defArgs (top 30), defBody (top 30), defScope (top 30), f23⟩
def d24 : Df := ⟨(Str.ofString "_law_same"), (Str.ofString "_law_same"), [(Str.ofString "got"), (Str.ofString "goal")], [(Str.ofString "got"), (Str.ofString "goal"), (Str.ofString "its"), (Str.ofString "own")], defArgs (top 32), defBody (top 32), defScope (top 32), f24⟩
def d25 : Df := ⟨(Str.ofString "_law_lists"), (Str.ofString "_law_lists"), [(Str.ofString "matter")], [(Str.ofString "matter"), (Str.ofString "own")], defArgs (top 33), defBody (top 33), defScope (top 33), f25⟩
def d26 : Df := ⟨(Str.ofString "_law_mill"), (Str.ofString "_law_mill"), [], [], defArgs (top 34), defBody (top 34), defScope (top 34), f26⟩
def d27 : Df := ⟨(Str.ofString "_law_heard"), (Str.ofString "_law_heard"), [(Str.ofString "door_so"), (Str.ofString "mine_so"), (Str.ofString "many_so")], [(Str.ofString "door_so"), (Str.ofString "mine_so"), (Str.ofString "many_so"), (Str.ofString "error")], defArgs (top 35), defBody (top 35), defScope (top 35), f27⟩
def d28 : Df := ⟨(Str.ofString "_law_fired"), (Str.ofString "_law_fired"), [(Str.ofString "fire_so")], [(Str.ofString "fire_so")], defArgs (top 36), defBody (top 36), defScope (top 36), f28⟩
def d29 : Df := ⟨(Str.ofString "_law_strokes_right"), (Str.ofString "_law_strokes_right"), [], [(Str.ofString "mill"), (Str.ofString "calm"), (Str.ofString "broad"), (Str.ofString "heard"), (Str.ofString "due")], defArgs (top 37), defBody (top 37), defScope (top 37), f29⟩
def d30 : Df := ⟨(Str.ofString "_law_lacks_right"), (Str.ofString "_law_lacks_right"), [], [(Str.ofString "mill"), (Str.ofString "poor"), (Str.ofString "lean"), (Str.ofString "heard"), (Str.ofString "due"), (Str.ofString "goods"), (Str.ofString "bads"), (Str.ofString "own"), (Str.ofString "k")], defArgs (top 38), defBody (top 38), defScope (top 38), f30⟩
def d31 : Df := ⟨(Str.ofString "_law_names_right"), (Str.ofString "_law_names_right"), [], [(Str.ofString "soft"), (Str.ofString "told"), (Str.ofString "heard"), (Str.ofString "due")], defArgs (top 39), defBody (top 39), defScope (top 39), f31⟩
def d32 : Df := ⟨(Str.ofString "law"), (Str.ofString "law"), [(Str.ofString "script")], [(Str.ofString "script")], defArgs (top 40), defBody (top 40), defScope (top 40), f32⟩
def d33 : Df := ⟨(Str.ofString "__init__"), (Str.ofString "Balance.__init__"), [(Str.ofString "self"), (Str.ofString "mine"), (Str.ofString "many"), (Str.ofString "more")], [(Str.ofString "self"), (Str.ofString "mine"), (Str.ofString "many"), (Str.ofString "more"), (Str.ofString "stokes"), (Str.ofString "total"), (Str.ofString "rest"), (Str.ofString "weight")], defArgs (inS 26 0), defBody (inS 26 0), defScope (inS 26 0), f33⟩
def d34 : Df := ⟨(Str.ofString "limit"), (Str.ofString "Balance.limit"), [(Str.ofString "self"), (Str.ofString "first")], [(Str.ofString "self"), (Str.ofString "first")], defArgs (inS 26 1), defBody (inS 26 1), defScope (inS 26 1), f34⟩
def d35 : Df := ⟨(Str.ofString "worst"), (Str.ofString "Balance.worst"), [(Str.ofString "self")], [(Str.ofString "self"), (Str.ofString "row"), (Str.ofString "most"), (Str.ofString "rest")], defArgs (inS 26 2), defBody (inS 26 2), defScope (inS 26 2), f35⟩
def d36 : Df := ⟨(Str.ofString "lacking"), (Str.ofString "Balance.lacking"), [(Str.ofString "self")], [(Str.ofString "self"), (Str.ofString "first"), (Str.ofString "need")], defArgs (inS 26 3), defBody (inS 26 3), defScope (inS 26 3), f36⟩
def ds : List Df := [d0, d1, d2, d3, d4, d5, d6, d7, d8, d9, d10, d11, d12, d13, d14, d15, d16, d17, d18, d19, d20, d21, d22, d23, d24, d25, d26, d27, d28, d29, d30, d31, d32, d33, d34, d35, d36]
def gd : Gd := { fns := (ds.take 33).map fun d => (d.name, d.ps), glo := [], exs := [((Str.ofString "Unfit"), none)], free := [(Str.ofString "ValueError"), (Str.ofString "all"), (Str.ofString "bool"), (Str.ofString "enumerate"), (Str.ofString "int"), (Str.ofString "isinstance"), (Str.ofString "len"), (Str.ofString "list"), (Str.ofString "max"), (Str.ofString "min"), (Str.ofString "range"), (Str.ofString "reversed"), (Str.ofString "str"), (Str.ofString "sum"), (Str.ofString "tuple"), (Str.ofString "zip")], kws := [(12, 0, [4, 3, 2, 1, 0]), (13, 0, [5, 4, 3, 2, 1, 0]), (14, 0, [0]), (15, 0, [3, 2, 1, 0]), (17, 0, [1, 0]), (18, 0, [1, 0]), (19, 0, [1, 0]), (20, 0, [1, 0]), (21, 0, [2, 1, 0]), (22, 0, [1, 0]), (23, 0, [1, 0])], isis := [(0, "ValueError", true)], dps := ds.map Df.ps, cls := [⟨(Str.ofString "Balance"), 33, [(1, 34), (2, 35), (0, 36)]⟩], flds := [(Str.ofString "behind"), (Str.ofString "ahead"), (Str.ofString "begin"), (Str.ofString "room")], mids := [(Str.ofString "lacking"), (Str.ofString "limit"), (Str.ofString "worst")] }
def ats : List (Str × Option Str) := [((Str.ofString "is_number"), none), ((Str.ofString "is_tuple"), none), ((Str.ofString "rising_rod"), none), ((Str.ofString "dry_held"), none), ((Str.ofString "brings"), none), ((Str.ofString "_lift_all"), none), ((Str.ofString "_spill"), none), ((Str.ofString "water_told"), none), ((Str.ofString "behind_rest"), none), ((Str.ofString "plain_rest"), none), ((Str.ofString "held_rows"), none), ((Str.ofString "heights_of"), none), ((Str.ofString "stroke_weight"), none), ((Str.ofString "is_stroke_made"), none), ((Str.ofString "greatest_weights"), none), ((Str.ofString "steam_behind"), none), ((Str.ofString "_lone_behind"), none), ((Str.ofString "lone_rows"), none), ((Str.ofString "missed_strokes"), none), ((Str.ofString "weights_ahead"), none), ((Str.ofString "first_lack"), none), ((Str.ofString "is_lack"), none), ((Str.ofString "least_room"), none), ((Str.ofString "least_more"), none), ((Str.ofString "_law_same"), none), ((Str.ofString "_law_lists"), none), ((Str.ofString "_law_mill"), none), ((Str.ofString "_law_heard"), none), ((Str.ofString "_law_fired"), none), ((Str.ofString "_law_strokes_right"), none), ((Str.ofString "_law_lacks_right"), none), ((Str.ofString "_law_names_right"), none), ((Str.ofString "law"), none), ((Str.ofString "Balance"), some (Str.ofString "__init__")), ((Str.ofString "Balance"), some (Str.ofString "limit")), ((Str.ofString "Balance"), some (Str.ofString "worst")), ((Str.ofString "Balance"), some (Str.ofString "lacking"))]
def fn : List He.DefD := [⟨((Str.ofString "is_number"), none), d0.name, d0.qn, d0.args, d0.body, d0.sc, [], []⟩, ⟨((Str.ofString "is_tuple"), none), d1.name, d1.qn, d1.args, d1.body, d1.sc, [], []⟩, ⟨((Str.ofString "rising_rod"), none), d2.name, d2.qn, d2.args, d2.body, d2.sc, [], []⟩, ⟨((Str.ofString "dry_held"), none), d3.name, d3.qn, d3.args, d3.body, d3.sc, [], []⟩, ⟨((Str.ofString "brings"), none), d4.name, d4.qn, d4.args, d4.body, d4.sc, [], []⟩, ⟨((Str.ofString "_lift_all"), none), d5.name, d5.qn, d5.args, d5.body, d5.sc, [], []⟩, ⟨((Str.ofString "_spill"), none), d6.name, d6.qn, d6.args, d6.body, d6.sc, [], []⟩, ⟨((Str.ofString "water_told"), none), d7.name, d7.qn, d7.args, d7.body, d7.sc, [], []⟩, ⟨((Str.ofString "behind_rest"), none), d8.name, d8.qn, d8.args, d8.body, d8.sc, [], []⟩, ⟨((Str.ofString "plain_rest"), none), d9.name, d9.qn, d9.args, d9.body, d9.sc, [], []⟩, ⟨((Str.ofString "held_rows"), none), d10.name, d10.qn, d10.args, d10.body, d10.sc, [], []⟩, ⟨((Str.ofString "heights_of"), none), d11.name, d11.qn, d11.args, d11.body, d11.sc, [], []⟩, ⟨((Str.ofString "stroke_weight"), none), d12.name, d12.qn, d12.args, d12.body, d12.sc, [], []⟩, ⟨((Str.ofString "is_stroke_made"), none), d13.name, d13.qn, d13.args, d13.body, d13.sc, [], []⟩, ⟨((Str.ofString "greatest_weights"), none), d14.name, d14.qn, d14.args, d14.body, d14.sc, [], []⟩, ⟨((Str.ofString "steam_behind"), none), d15.name, d15.qn, d15.args, d15.body, d15.sc, [], []⟩, ⟨((Str.ofString "_lone_behind"), none), d16.name, d16.qn, d16.args, d16.body, d16.sc, [], []⟩, ⟨((Str.ofString "lone_rows"), none), d17.name, d17.qn, d17.args, d17.body, d17.sc, [], []⟩, ⟨((Str.ofString "missed_strokes"), none), d18.name, d18.qn, d18.args, d18.body, d18.sc, [], []⟩, ⟨((Str.ofString "weights_ahead"), none), d19.name, d19.qn, d19.args, d19.body, d19.sc, [], []⟩, ⟨((Str.ofString "first_lack"), none), d20.name, d20.qn, d20.args, d20.body, d20.sc, [], []⟩, ⟨((Str.ofString "is_lack"), none), d21.name, d21.qn, d21.args, d21.body, d21.sc, [], []⟩, ⟨((Str.ofString "least_room"), none), d22.name, d22.qn, d22.args, d22.body, d22.sc, [], []⟩, ⟨((Str.ofString "least_more"), none), d23.name, d23.qn, d23.args, d23.body, d23.sc, [], []⟩, ⟨((Str.ofString "_law_same"), none), d24.name, d24.qn, d24.args, d24.body, d24.sc, [], []⟩, ⟨((Str.ofString "_law_lists"), none), d25.name, d25.qn, d25.args, d25.body, d25.sc, [], []⟩, ⟨((Str.ofString "_law_mill"), none), d26.name, d26.qn, d26.args, d26.body, d26.sc, [], []⟩, ⟨((Str.ofString "_law_heard"), none), d27.name, d27.qn, d27.args, d27.body, d27.sc, [], []⟩, ⟨((Str.ofString "_law_fired"), none), d28.name, d28.qn, d28.args, d28.body, d28.sc, [], []⟩, ⟨((Str.ofString "_law_strokes_right"), none), d29.name, d29.qn, d29.args, d29.body, d29.sc, [], []⟩, ⟨((Str.ofString "_law_lacks_right"), none), d30.name, d30.qn, d30.args, d30.body, d30.sc, [], []⟩, ⟨((Str.ofString "_law_names_right"), none), d31.name, d31.qn, d31.args, d31.body, d31.sc, [], []⟩, ⟨((Str.ofString "law"), none), d32.name, d32.qn, d32.args, d32.body, d32.sc, [], []⟩, ⟨((Str.ofString "Balance"), some (Str.ofString "__init__")), d33.name, d33.qn, d33.args, d33.body, d33.sc, [], []⟩, ⟨((Str.ofString "Balance"), some (Str.ofString "limit")), d34.name, d34.qn, d34.args, d34.body, d34.sc, [], []⟩, ⟨((Str.ofString "Balance"), some (Str.ofString "worst")), d35.name, d35.qn, d35.args, d35.body, d35.sc, [], []⟩, ⟨((Str.ofString "Balance"), some (Str.ofString "lacking")), d36.name, d36.qn, d36.args, d36.body, d36.sc, [], []⟩]
def faF : List He.Fa := gd.free.map He.Fa.free
def faN0 : List He.Fa := gd.flds.map (He.Fa.noat (Str.ofString "Balance"))
def fa : List He.Fa := [.glo (Str.ofString "is_number"), .glo (Str.ofString "is_tuple"), .glo (Str.ofString "rising_rod"), .glo (Str.ofString "dry_held"), .glo (Str.ofString "brings"), .glo (Str.ofString "_lift_all"), .glo (Str.ofString "_spill"), .glo (Str.ofString "water_told"), .glo (Str.ofString "behind_rest"), .glo (Str.ofString "plain_rest"), .glo (Str.ofString "held_rows"), .glo (Str.ofString "heights_of"), .glo (Str.ofString "stroke_weight"), .glo (Str.ofString "is_stroke_made"), .glo (Str.ofString "greatest_weights"), .glo (Str.ofString "steam_behind"), .glo (Str.ofString "_lone_behind"), .glo (Str.ofString "lone_rows"), .glo (Str.ofString "missed_strokes"), .glo (Str.ofString "weights_ahead"), .glo (Str.ofString "first_lack"), .glo (Str.ofString "is_lack"), .glo (Str.ofString "least_room"), .glo (Str.ofString "least_more"), .glo (Str.ofString "_law_same"), .glo (Str.ofString "_law_lists"), .glo (Str.ofString "_law_mill"), .glo (Str.ofString "_law_heard"), .glo (Str.ofString "_law_fired"), .glo (Str.ofString "_law_strokes_right"), .glo (Str.ofString "_law_lacks_right"), .glo (Str.ofString "_law_names_right"), .glo (Str.ofString "law"), .glo (Str.ofString "Unfit"), .glo (Str.ofString "Balance"), .cls (Str.ofString "Balance"), .mkr (Str.ofString "Balance"), .meth (Str.ofString "Balance") (Str.ofString "limit"), .meth (Str.ofString "Balance") (Str.ofString "worst"), .meth (Str.ofString "Balance") (Str.ofString "lacking")] ++ faF ++ faN0
def exl (K : PySem.W.Frag) : List Bool := [excB K (He.ga K (Str.ofString "Unfit")), decide (PySem.W.findIn K (.ref (He.ga K (Str.ofString "Unfit"))) Str.empty = some none), PySem.W.excIn K (He.ga K (Str.ofString "Unfit")) vTail "ValueError.__new__", PySem.W.keepIn K (.ref (He.ga K (Str.ofString "Unfit"))), decide (PySem.W.subIn K (.ref (He.ga K (Str.ofString "Unfit"))) (.type "BaseException") = some true), decide (PySem.W.typeIn K (.ref (He.ga K (Str.ofString "Unfit"))) = some (.type "type")), decide (PySem.W.exmOne K (.ref (He.ga K (Str.ofString "Unfit"))) (.ref (He.ga K (Str.ofString "Unfit"))) = some true), decide (PySem.W.kitOne K (.ref (He.ga K (Str.ofString "Unfit"))) (.type "ValueError") = some true)]
def ex (K : PySem.W.Frag) : Bool := (exl K).all id
abbrev R : PySem.W.OpenRow := PySem.W.OpenLaw.row PySem.Challenge.rw_manrods_k52_weights_steam_and_lacks_by_h
abbrev hk : PySem.W.Hook := He.hookX 5 fa fn [] [] ex
def ob (s : PySem.W.SharedT) : He.AlX := He.obsX 5 fa fn [] [] ex (HandSHeadRun.getT s)
theorem ob_eq (s : PySem.W.SharedT) : ob s = hk.obs s.abs := He.obsX_eq (HandSHeadRun.getT_eq s)
theorem run (w : World) : HandSHeadRun.RunEq R (PySem.W.view R.prog [40]) hk ob 4000 [(Str.ofString "__name__"), (Str.ofString "is_number"), (Str.ofString "is_tuple"), (Str.ofString "Unfit"), (Str.ofString "rising_rod"), (Str.ofString "dry_held"), (Str.ofString "brings"), (Str.ofString "_lift_all"), (Str.ofString "_spill"), (Str.ofString "water_told"), (Str.ofString "behind_rest"), (Str.ofString "plain_rest"), (Str.ofString "held_rows"), (Str.ofString "heights_of"), (Str.ofString "stroke_weight"), (Str.ofString "is_stroke_made"), (Str.ofString "greatest_weights"), (Str.ofString "steam_behind"), (Str.ofString "_lone_behind"), (Str.ofString "lone_rows"), (Str.ofString "missed_strokes"), (Str.ofString "weights_ahead"), (Str.ofString "Balance"), (Str.ofString "first_lack"), (Str.ofString "is_lack"), (Str.ofString "least_room"), (Str.ofString "least_more"), (Str.ofString "_law_same"), (Str.ofString "_law_lists"), (Str.ofString "_law_mill"), (Str.ofString "_law_heard"), (Str.ofString "_law_fired"), (Str.ofString "_law_strokes_right"), (Str.ofString "_law_lacks_right"), (Str.ofString "_law_names_right")] w := by
  intro os
  kernel_rfl
theorem vals_head {xs : List V} {w : Value} {ws : List Value} (r : Vals xs (w :: ws)) : ∃ x ys, xs = x :: ys ∧ RelV x w ∧ Vals ys ws := by
  cases r with
  | cons a b => exact ⟨_, _, rfl, a, b⟩
theorem rvs_head {K : Pd} {m : Mp} {H : Hp} {bs : List IV} {x : V} {xs : List V} (r : RVs K m H bs (x :: xs)) : ∃ b cs, bs = b :: cs ∧ RV K m H b x ∧ RVs K m H cs xs := by
  cases r with
  | cons a b => exact ⟨_, _, rfl, a, b⟩
theorem kw_one {i n : Nat} {ks : List Nat} {n0 : Nat} {k0 : List Nat} {l : List (Nat × Nat × List Nat)} (h : (i, n, ks) ∈ l) (q : l.all (fun t => !(Nat.beq t.1 i) || (Nat.beq t.2.1 n0 && decide (t.2.2 = k0))) = true) : n = n0 ∧ ks = k0 := by
  have z := List.all_eq_true.mp q _ h
  dsimp only at z
  rw [Nat.beq_refl] at z
  have z : (Nat.beq n n0 && decide (ks = k0)) = true := z
  obtain ⟨z1, z2⟩ := aB z
  exact ⟨Nat.eq_of_beq_eq_true z1, of_decide_eq_true z2⟩
theorem kw_none {i n : Nat} {ks : List Nat} {l : List (Nat × Nat × List Nat)} (h : (i, n, ks) ∈ l) (q : l.all (fun t => !(Nat.beq t.1 i)) = true) : False := by
  have z := List.all_eq_true.mp q _ h
  dsimp only at z
  rw [Nat.beq_refl] at z
  cases z
theorem isi_none {i : Nat} {Tn : String} {b : Bool} {l : List (Nat × String × Bool)} (h : (i, Tn, b) ∈ l) (q : l.all (fun t => !(Nat.beq t.1 i)) = true) : False := by
  have z := List.all_eq_true.mp q _ h
  dsimp only at z
  rw [Nat.beq_refl] at z
  cases z
theorem isi_some {i : Nat} {Tn : String} {b : Bool} {l : List (Nat × String × Bool)} (h : (i, Tn, b) ∈ l) : (i, Tn, b) ∈ l := h
theorem bd0 {K : PySem.W.Frag} {f : Addr} {fd : FuncData} (F : FunD K d0.name d0.qn d0.args d0.body d0.sc [] [] f fd) : BdOk gd 0 d0.ps fd where
  bind := FunD.bindsA F fun _ _ _ _ _ _ us hl => match us, hl with
    | [_], _ => rfl
  bindk := fun n ks hm => (kw_none hm (by decide)).elim
theorem bd1 {K : PySem.W.Frag} {f : Addr} {fd : FuncData} (F : FunD K d1.name d1.qn d1.args d1.body d1.sc [] [] f fd) : BdOk gd 1 d1.ps fd where
  bind := FunD.bindsA F fun _ _ _ _ _ _ us hl => match us, hl with
    | [_, _], _ => rfl
  bindk := fun n ks hm => (kw_none hm (by decide)).elim
theorem bd2 {K : PySem.W.Frag} {f : Addr} {fd : FuncData} (F : FunD K d2.name d2.qn d2.args d2.body d2.sc [] [] f fd) : BdOk gd 2 d2.ps fd where
  bind := FunD.bindsA F fun _ _ _ _ _ _ us hl => match us, hl with
    | [_], _ => rfl
  bindk := fun n ks hm => (kw_none hm (by decide)).elim
theorem bd3 {K : PySem.W.Frag} {f : Addr} {fd : FuncData} (F : FunD K d3.name d3.qn d3.args d3.body d3.sc [] [] f fd) : BdOk gd 3 d3.ps fd where
  bind := FunD.bindsA F fun _ _ _ _ _ _ us hl => match us, hl with
    | [_], _ => rfl
  bindk := fun n ks hm => (kw_none hm (by decide)).elim
theorem bd4 {K : PySem.W.Frag} {f : Addr} {fd : FuncData} (F : FunD K d4.name d4.qn d4.args d4.body d4.sc [] [] f fd) : BdOk gd 4 d4.ps fd where
  bind := FunD.bindsA F fun _ _ _ _ _ _ us hl => match us, hl with
    | [_, _, _, _, _], _ => rfl
  bindk := fun n ks hm => (kw_none hm (by decide)).elim
theorem bd5 {K : PySem.W.Frag} {f : Addr} {fd : FuncData} (F : FunD K d5.name d5.qn d5.args d5.body d5.sc [] [] f fd) : BdOk gd 5 d5.ps fd where
  bind := FunD.bindsA F fun _ _ _ _ _ _ us hl => match us, hl with
    | [_, _], _ => rfl
  bindk := fun n ks hm => (kw_none hm (by decide)).elim
theorem bd6 {K : PySem.W.Frag} {f : Addr} {fd : FuncData} (F : FunD K d6.name d6.qn d6.args d6.body d6.sc [] [] f fd) : BdOk gd 6 d6.ps fd where
  bind := FunD.bindsA F fun _ _ _ _ _ _ us hl => match us, hl with
    | [_, _], _ => rfl
  bindk := fun n ks hm => (kw_none hm (by decide)).elim
theorem bd7 {K : PySem.W.Frag} {f : Addr} {fd : FuncData} (F : FunD K d7.name d7.qn d7.args d7.body d7.sc [] [] f fd) : BdOk gd 7 d7.ps fd where
  bind := FunD.bindsA F fun _ _ _ _ _ _ us hl => match us, hl with
    | [_, _, _, _, _, _, _], _ => rfl
  bindk := fun n ks hm => (kw_none hm (by decide)).elim
theorem bd8 {K : PySem.W.Frag} {f : Addr} {fd : FuncData} (F : FunD K d8.name d8.qn d8.args d8.body d8.sc [] [] f fd) : BdOk gd 8 d8.ps fd where
  bind := FunD.bindsA F fun _ _ _ _ _ _ us hl => match us, hl with
    | [_, _, _, _, _, _, _], _ => rfl
  bindk := fun n ks hm => (kw_none hm (by decide)).elim
theorem bd9 {K : PySem.W.Frag} {f : Addr} {fd : FuncData} (F : FunD K d9.name d9.qn d9.args d9.body d9.sc [] [] f fd) : BdOk gd 9 d9.ps fd where
  bind := FunD.bindsA F fun _ _ _ _ _ _ us hl => match us, hl with
    | [_, _, _], _ => rfl
  bindk := fun n ks hm => (kw_none hm (by decide)).elim
theorem bd10 {K : PySem.W.Frag} {f : Addr} {fd : FuncData} (F : FunD K d10.name d10.qn d10.args d10.body d10.sc [] [] f fd) : BdOk gd 10 d10.ps fd where
  bind := FunD.bindsA F fun _ _ _ _ _ _ us hl => match us, hl with
    | [_, _, _], _ => rfl
  bindk := fun n ks hm => (kw_none hm (by decide)).elim
theorem bd11 {K : PySem.W.Frag} {f : Addr} {fd : FuncData} (F : FunD K d11.name d11.qn d11.args d11.body d11.sc [] [] f fd) : BdOk gd 11 d11.ps fd where
  bind := FunD.bindsA F fun _ _ _ _ _ _ us hl => match us, hl with
    | [_], _ => rfl
  bindk := fun n ks hm => (kw_none hm (by decide)).elim
theorem bd12 {K : PySem.W.Frag} {f : Addr} {fd : FuncData} (F : FunD K d12.name d12.qn d12.args d12.body d12.sc [] [] f fd) : BdOk gd 12 d12.ps fd where
  bind := FunD.bindsA F fun _ _ _ _ _ _ us hl => match us, hl with
    | [_, _, _, _, _], _ => rfl
  bindk := fun n ks hm s us ws hu hw => by
    have e : n = 0 ∧ ks = [4, 3, 2, 1, 0] := kw_one hm (by decide)
    obtain ⟨e1, e2⟩ := e
    subst e1 e2
    obtain ⟨oc, od, dV, kV, doc, pm, an, cdv, ct, osl, rfl, lk, hcd, hD, hK⟩ := F.ex
    rcases hD with ⟨_, rfl⟩ | ⟨z, _⟩
    · match us, ws, hu, hw with
      | [], [w4, w3, w2, w1, w0], _, _ =>
        refine ⟨[w0, w1, w2, w3, w4], .of_eq rfl, fun K m H as bs cs vs xs r1 r2 r3 r4 e => ?_⟩
        cases r1
        cases r3
        obtain ⟨v4, x0, rfl, a4, r2⟩ := vals_head r2
        obtain ⟨v3, x1, rfl, a3, r2⟩ := vals_head r2
        obtain ⟨v2, x2, rfl, a2, r2⟩ := vals_head r2
        obtain ⟨v1, x3, rfl, a1, r2⟩ := vals_head r2
        obtain ⟨v0, x4, rfl, a0, r2⟩ := vals_head r2
        cases r2
        obtain ⟨b4, bs0, rfl, c4, r4⟩ := rvs_head r4
        obtain ⟨b3, bs1, rfl, c3, r4⟩ := rvs_head r4
        obtain ⟨b2, bs2, rfl, c2, r4⟩ := rvs_head r4
        obtain ⟨b1, bs3, rfl, c1, r4⟩ := rvs_head r4
        obtain ⟨b0, bs4, rfl, c0, r4⟩ := rvs_head r4
        cases r4
        cases e
        exact ⟨[v0, v1, v2, v3, v4], .cons a0 (.cons a1 (.cons a2 (.cons a3 (.cons a4 (.nil))))), .cons c0 (.cons c1 (.cons c2 (.cons c3 (.cons c4 (.nil))))), rfl⟩
    · exact absurd rfl z
theorem bd13 {K : PySem.W.Frag} {f : Addr} {fd : FuncData} (F : FunD K d13.name d13.qn d13.args d13.body d13.sc [] [] f fd) : BdOk gd 13 d13.ps fd where
  bind := FunD.bindsA F fun _ _ _ _ _ _ us hl => match us, hl with
    | [_, _, _, _, _, _], _ => rfl
  bindk := fun n ks hm s us ws hu hw => by
    have e : n = 0 ∧ ks = [5, 4, 3, 2, 1, 0] := kw_one hm (by decide)
    obtain ⟨e1, e2⟩ := e
    subst e1 e2
    obtain ⟨oc, od, dV, kV, doc, pm, an, cdv, ct, osl, rfl, lk, hcd, hD, hK⟩ := F.ex
    rcases hD with ⟨_, rfl⟩ | ⟨z, _⟩
    · match us, ws, hu, hw with
      | [], [w5, w4, w3, w2, w1, w0], _, _ =>
        refine ⟨[w0, w1, w2, w3, w4, w5], .of_eq rfl, fun K m H as bs cs vs xs r1 r2 r3 r4 e => ?_⟩
        cases r1
        cases r3
        obtain ⟨v5, x0, rfl, a5, r2⟩ := vals_head r2
        obtain ⟨v4, x1, rfl, a4, r2⟩ := vals_head r2
        obtain ⟨v3, x2, rfl, a3, r2⟩ := vals_head r2
        obtain ⟨v2, x3, rfl, a2, r2⟩ := vals_head r2
        obtain ⟨v1, x4, rfl, a1, r2⟩ := vals_head r2
        obtain ⟨v0, x5, rfl, a0, r2⟩ := vals_head r2
        cases r2
        obtain ⟨b5, bs0, rfl, c5, r4⟩ := rvs_head r4
        obtain ⟨b4, bs1, rfl, c4, r4⟩ := rvs_head r4
        obtain ⟨b3, bs2, rfl, c3, r4⟩ := rvs_head r4
        obtain ⟨b2, bs3, rfl, c2, r4⟩ := rvs_head r4
        obtain ⟨b1, bs4, rfl, c1, r4⟩ := rvs_head r4
        obtain ⟨b0, bs5, rfl, c0, r4⟩ := rvs_head r4
        cases r4
        cases e
        exact ⟨[v0, v1, v2, v3, v4, v5], .cons a0 (.cons a1 (.cons a2 (.cons a3 (.cons a4 (.cons a5 (.nil)))))), .cons c0 (.cons c1 (.cons c2 (.cons c3 (.cons c4 (.cons c5 (.nil)))))), rfl⟩
    · exact absurd rfl z
theorem bd14 {K : PySem.W.Frag} {f : Addr} {fd : FuncData} (F : FunD K d14.name d14.qn d14.args d14.body d14.sc [] [] f fd) : BdOk gd 14 d14.ps fd where
  bind := FunD.bindsA F fun _ _ _ _ _ _ us hl => match us, hl with
    | [_], _ => rfl
  bindk := fun n ks hm s us ws hu hw => by
    have e : n = 0 ∧ ks = [0] := kw_one hm (by decide)
    obtain ⟨e1, e2⟩ := e
    subst e1 e2
    obtain ⟨oc, od, dV, kV, doc, pm, an, cdv, ct, osl, rfl, lk, hcd, hD, hK⟩ := F.ex
    rcases hD with ⟨_, rfl⟩ | ⟨z, _⟩
    · match us, ws, hu, hw with
      | [], [w0], _, _ =>
        refine ⟨[w0], .of_eq rfl, fun K m H as bs cs vs xs r1 r2 r3 r4 e => ?_⟩
        cases r1
        cases r3
        obtain ⟨v0, x0, rfl, a0, r2⟩ := vals_head r2
        cases r2
        obtain ⟨b0, bs0, rfl, c0, r4⟩ := rvs_head r4
        cases r4
        cases e
        exact ⟨[v0], .cons a0 (.nil), .cons c0 (.nil), rfl⟩
    · exact absurd rfl z
theorem bd15 {K : PySem.W.Frag} {f : Addr} {fd : FuncData} (F : FunD K d15.name d15.qn d15.args d15.body d15.sc [] [] f fd) : BdOk gd 15 d15.ps fd where
  bind := FunD.bindsA F fun _ _ _ _ _ _ us hl => match us, hl with
    | [_, _, _, _], _ => rfl
  bindk := fun n ks hm s us ws hu hw => by
    have e : n = 0 ∧ ks = [3, 2, 1, 0] := kw_one hm (by decide)
    obtain ⟨e1, e2⟩ := e
    subst e1 e2
    obtain ⟨oc, od, dV, kV, doc, pm, an, cdv, ct, osl, rfl, lk, hcd, hD, hK⟩ := F.ex
    rcases hD with ⟨_, rfl⟩ | ⟨z, _⟩
    · match us, ws, hu, hw with
      | [], [w3, w2, w1, w0], _, _ =>
        refine ⟨[w0, w1, w2, w3], .of_eq rfl, fun K m H as bs cs vs xs r1 r2 r3 r4 e => ?_⟩
        cases r1
        cases r3
        obtain ⟨v3, x0, rfl, a3, r2⟩ := vals_head r2
        obtain ⟨v2, x1, rfl, a2, r2⟩ := vals_head r2
        obtain ⟨v1, x2, rfl, a1, r2⟩ := vals_head r2
        obtain ⟨v0, x3, rfl, a0, r2⟩ := vals_head r2
        cases r2
        obtain ⟨b3, bs0, rfl, c3, r4⟩ := rvs_head r4
        obtain ⟨b2, bs1, rfl, c2, r4⟩ := rvs_head r4
        obtain ⟨b1, bs2, rfl, c1, r4⟩ := rvs_head r4
        obtain ⟨b0, bs3, rfl, c0, r4⟩ := rvs_head r4
        cases r4
        cases e
        exact ⟨[v0, v1, v2, v3], .cons a0 (.cons a1 (.cons a2 (.cons a3 (.nil)))), .cons c0 (.cons c1 (.cons c2 (.cons c3 (.nil)))), rfl⟩
    · exact absurd rfl z
theorem bd16 {K : PySem.W.Frag} {f : Addr} {fd : FuncData} (F : FunD K d16.name d16.qn d16.args d16.body d16.sc [] [] f fd) : BdOk gd 16 d16.ps fd where
  bind := FunD.bindsA F fun _ _ _ _ _ _ us hl => match us, hl with
    | [_, _, _], _ => rfl
  bindk := fun n ks hm => (kw_none hm (by decide)).elim
theorem bd17 {K : PySem.W.Frag} {f : Addr} {fd : FuncData} (F : FunD K d17.name d17.qn d17.args d17.body d17.sc [] [] f fd) : BdOk gd 17 d17.ps fd where
  bind := FunD.bindsA F fun _ _ _ _ _ _ us hl => match us, hl with
    | [_, _], _ => rfl
  bindk := fun n ks hm s us ws hu hw => by
    have e : n = 0 ∧ ks = [1, 0] := kw_one hm (by decide)
    obtain ⟨e1, e2⟩ := e
    subst e1 e2
    obtain ⟨oc, od, dV, kV, doc, pm, an, cdv, ct, osl, rfl, lk, hcd, hD, hK⟩ := F.ex
    rcases hD with ⟨_, rfl⟩ | ⟨z, _⟩
    · match us, ws, hu, hw with
      | [], [w1, w0], _, _ =>
        refine ⟨[w0, w1], .of_eq rfl, fun K m H as bs cs vs xs r1 r2 r3 r4 e => ?_⟩
        cases r1
        cases r3
        obtain ⟨v1, x0, rfl, a1, r2⟩ := vals_head r2
        obtain ⟨v0, x1, rfl, a0, r2⟩ := vals_head r2
        cases r2
        obtain ⟨b1, bs0, rfl, c1, r4⟩ := rvs_head r4
        obtain ⟨b0, bs1, rfl, c0, r4⟩ := rvs_head r4
        cases r4
        cases e
        exact ⟨[v0, v1], .cons a0 (.cons a1 (.nil)), .cons c0 (.cons c1 (.nil)), rfl⟩
    · exact absurd rfl z
theorem bd18 {K : PySem.W.Frag} {f : Addr} {fd : FuncData} (F : FunD K d18.name d18.qn d18.args d18.body d18.sc [] [] f fd) : BdOk gd 18 d18.ps fd where
  bind := FunD.bindsA F fun _ _ _ _ _ _ us hl => match us, hl with
    | [_, _], _ => rfl
  bindk := fun n ks hm s us ws hu hw => by
    have e : n = 0 ∧ ks = [1, 0] := kw_one hm (by decide)
    obtain ⟨e1, e2⟩ := e
    subst e1 e2
    obtain ⟨oc, od, dV, kV, doc, pm, an, cdv, ct, osl, rfl, lk, hcd, hD, hK⟩ := F.ex
    rcases hD with ⟨_, rfl⟩ | ⟨z, _⟩
    · match us, ws, hu, hw with
      | [], [w1, w0], _, _ =>
        refine ⟨[w0, w1], .of_eq rfl, fun K m H as bs cs vs xs r1 r2 r3 r4 e => ?_⟩
        cases r1
        cases r3
        obtain ⟨v1, x0, rfl, a1, r2⟩ := vals_head r2
        obtain ⟨v0, x1, rfl, a0, r2⟩ := vals_head r2
        cases r2
        obtain ⟨b1, bs0, rfl, c1, r4⟩ := rvs_head r4
        obtain ⟨b0, bs1, rfl, c0, r4⟩ := rvs_head r4
        cases r4
        cases e
        exact ⟨[v0, v1], .cons a0 (.cons a1 (.nil)), .cons c0 (.cons c1 (.nil)), rfl⟩
    · exact absurd rfl z
theorem bd19 {K : PySem.W.Frag} {f : Addr} {fd : FuncData} (F : FunD K d19.name d19.qn d19.args d19.body d19.sc [] [] f fd) : BdOk gd 19 d19.ps fd where
  bind := FunD.bindsA F fun _ _ _ _ _ _ us hl => match us, hl with
    | [_, _], _ => rfl
  bindk := fun n ks hm s us ws hu hw => by
    have e : n = 0 ∧ ks = [1, 0] := kw_one hm (by decide)
    obtain ⟨e1, e2⟩ := e
    subst e1 e2
    obtain ⟨oc, od, dV, kV, doc, pm, an, cdv, ct, osl, rfl, lk, hcd, hD, hK⟩ := F.ex
    rcases hD with ⟨_, rfl⟩ | ⟨z, _⟩
    · match us, ws, hu, hw with
      | [], [w1, w0], _, _ =>
        refine ⟨[w0, w1], .of_eq rfl, fun K m H as bs cs vs xs r1 r2 r3 r4 e => ?_⟩
        cases r1
        cases r3
        obtain ⟨v1, x0, rfl, a1, r2⟩ := vals_head r2
        obtain ⟨v0, x1, rfl, a0, r2⟩ := vals_head r2
        cases r2
        obtain ⟨b1, bs0, rfl, c1, r4⟩ := rvs_head r4
        obtain ⟨b0, bs1, rfl, c0, r4⟩ := rvs_head r4
        cases r4
        cases e
        exact ⟨[v0, v1], .cons a0 (.cons a1 (.nil)), .cons c0 (.cons c1 (.nil)), rfl⟩
    · exact absurd rfl z
theorem bd20 {K : PySem.W.Frag} {f : Addr} {fd : FuncData} (F : FunD K d20.name d20.qn d20.args d20.body d20.sc [] [] f fd) : BdOk gd 20 d20.ps fd where
  bind := FunD.bindsA F fun _ _ _ _ _ _ us hl => match us, hl with
    | [_, _], _ => rfl
  bindk := fun n ks hm s us ws hu hw => by
    have e : n = 0 ∧ ks = [1, 0] := kw_one hm (by decide)
    obtain ⟨e1, e2⟩ := e
    subst e1 e2
    obtain ⟨oc, od, dV, kV, doc, pm, an, cdv, ct, osl, rfl, lk, hcd, hD, hK⟩ := F.ex
    rcases hD with ⟨_, rfl⟩ | ⟨z, _⟩
    · match us, ws, hu, hw with
      | [], [w1, w0], _, _ =>
        refine ⟨[w0, w1], .of_eq rfl, fun K m H as bs cs vs xs r1 r2 r3 r4 e => ?_⟩
        cases r1
        cases r3
        obtain ⟨v1, x0, rfl, a1, r2⟩ := vals_head r2
        obtain ⟨v0, x1, rfl, a0, r2⟩ := vals_head r2
        cases r2
        obtain ⟨b1, bs0, rfl, c1, r4⟩ := rvs_head r4
        obtain ⟨b0, bs1, rfl, c0, r4⟩ := rvs_head r4
        cases r4
        cases e
        exact ⟨[v0, v1], .cons a0 (.cons a1 (.nil)), .cons c0 (.cons c1 (.nil)), rfl⟩
    · exact absurd rfl z
theorem bd21 {K : PySem.W.Frag} {f : Addr} {fd : FuncData} (F : FunD K d21.name d21.qn d21.args d21.body d21.sc [] [] f fd) : BdOk gd 21 d21.ps fd where
  bind := FunD.bindsA F fun _ _ _ _ _ _ us hl => match us, hl with
    | [_, _, _], _ => rfl
  bindk := fun n ks hm s us ws hu hw => by
    have e : n = 0 ∧ ks = [2, 1, 0] := kw_one hm (by decide)
    obtain ⟨e1, e2⟩ := e
    subst e1 e2
    obtain ⟨oc, od, dV, kV, doc, pm, an, cdv, ct, osl, rfl, lk, hcd, hD, hK⟩ := F.ex
    rcases hD with ⟨_, rfl⟩ | ⟨z, _⟩
    · match us, ws, hu, hw with
      | [], [w2, w1, w0], _, _ =>
        refine ⟨[w0, w1, w2], .of_eq rfl, fun K m H as bs cs vs xs r1 r2 r3 r4 e => ?_⟩
        cases r1
        cases r3
        obtain ⟨v2, x0, rfl, a2, r2⟩ := vals_head r2
        obtain ⟨v1, x1, rfl, a1, r2⟩ := vals_head r2
        obtain ⟨v0, x2, rfl, a0, r2⟩ := vals_head r2
        cases r2
        obtain ⟨b2, bs0, rfl, c2, r4⟩ := rvs_head r4
        obtain ⟨b1, bs1, rfl, c1, r4⟩ := rvs_head r4
        obtain ⟨b0, bs2, rfl, c0, r4⟩ := rvs_head r4
        cases r4
        cases e
        exact ⟨[v0, v1, v2], .cons a0 (.cons a1 (.cons a2 (.nil))), .cons c0 (.cons c1 (.cons c2 (.nil))), rfl⟩
    · exact absurd rfl z
theorem bd22 {K : PySem.W.Frag} {f : Addr} {fd : FuncData} (F : FunD K d22.name d22.qn d22.args d22.body d22.sc [] [] f fd) : BdOk gd 22 d22.ps fd where
  bind := FunD.bindsA F fun _ _ _ _ _ _ us hl => match us, hl with
    | [_, _], _ => rfl
  bindk := fun n ks hm s us ws hu hw => by
    have e : n = 0 ∧ ks = [1, 0] := kw_one hm (by decide)
    obtain ⟨e1, e2⟩ := e
    subst e1 e2
    obtain ⟨oc, od, dV, kV, doc, pm, an, cdv, ct, osl, rfl, lk, hcd, hD, hK⟩ := F.ex
    rcases hD with ⟨_, rfl⟩ | ⟨z, _⟩
    · match us, ws, hu, hw with
      | [], [w1, w0], _, _ =>
        refine ⟨[w0, w1], .of_eq rfl, fun K m H as bs cs vs xs r1 r2 r3 r4 e => ?_⟩
        cases r1
        cases r3
        obtain ⟨v1, x0, rfl, a1, r2⟩ := vals_head r2
        obtain ⟨v0, x1, rfl, a0, r2⟩ := vals_head r2
        cases r2
        obtain ⟨b1, bs0, rfl, c1, r4⟩ := rvs_head r4
        obtain ⟨b0, bs1, rfl, c0, r4⟩ := rvs_head r4
        cases r4
        cases e
        exact ⟨[v0, v1], .cons a0 (.cons a1 (.nil)), .cons c0 (.cons c1 (.nil)), rfl⟩
    · exact absurd rfl z
theorem bd23 {K : PySem.W.Frag} {f : Addr} {fd : FuncData} (F : FunD K d23.name d23.qn d23.args d23.body d23.sc [] [] f fd) : BdOk gd 23 d23.ps fd where
  bind := FunD.bindsA F fun _ _ _ _ _ _ us hl => match us, hl with
    | [_, _], _ => rfl
  bindk := fun n ks hm s us ws hu hw => by
    have e : n = 0 ∧ ks = [1, 0] := kw_one hm (by decide)
    obtain ⟨e1, e2⟩ := e
    subst e1 e2
    obtain ⟨oc, od, dV, kV, doc, pm, an, cdv, ct, osl, rfl, lk, hcd, hD, hK⟩ := F.ex
    rcases hD with ⟨_, rfl⟩ | ⟨z, _⟩
    · match us, ws, hu, hw with
      | [], [w1, w0], _, _ =>
        refine ⟨[w0, w1], .of_eq rfl, fun K m H as bs cs vs xs r1 r2 r3 r4 e => ?_⟩
        cases r1
        cases r3
        obtain ⟨v1, x0, rfl, a1, r2⟩ := vals_head r2
        obtain ⟨v0, x1, rfl, a0, r2⟩ := vals_head r2
        cases r2
        obtain ⟨b1, bs0, rfl, c1, r4⟩ := rvs_head r4
        obtain ⟨b0, bs1, rfl, c0, r4⟩ := rvs_head r4
        cases r4
        cases e
        exact ⟨[v0, v1], .cons a0 (.cons a1 (.nil)), .cons c0 (.cons c1 (.nil)), rfl⟩
    · exact absurd rfl z
theorem bd24 {K : PySem.W.Frag} {f : Addr} {fd : FuncData} (F : FunD K d24.name d24.qn d24.args d24.body d24.sc [] [] f fd) : BdOk gd 24 d24.ps fd where
  bind := FunD.bindsA F fun _ _ _ _ _ _ us hl => match us, hl with
    | [_, _], _ => rfl
  bindk := fun n ks hm => (kw_none hm (by decide)).elim
theorem bd25 {K : PySem.W.Frag} {f : Addr} {fd : FuncData} (F : FunD K d25.name d25.qn d25.args d25.body d25.sc [] [] f fd) : BdOk gd 25 d25.ps fd where
  bind := FunD.bindsA F fun _ _ _ _ _ _ us hl => match us, hl with
    | [_], _ => rfl
  bindk := fun n ks hm => (kw_none hm (by decide)).elim
theorem bd26 {K : PySem.W.Frag} {f : Addr} {fd : FuncData} (F : FunD K d26.name d26.qn d26.args d26.body d26.sc [] [] f fd) : BdOk gd 26 d26.ps fd where
  bind := FunD.bindsA F fun _ _ _ _ _ _ us hl => match us, hl with
    | [], _ => rfl
  bindk := fun n ks hm => (kw_none hm (by decide)).elim
theorem bd27 {K : PySem.W.Frag} {f : Addr} {fd : FuncData} (F : FunD K d27.name d27.qn d27.args d27.body d27.sc [] [] f fd) : BdOk gd 27 d27.ps fd where
  bind := FunD.bindsA F fun _ _ _ _ _ _ us hl => match us, hl with
    | [_, _, _], _ => rfl
  bindk := fun n ks hm => (kw_none hm (by decide)).elim
theorem bd28 {K : PySem.W.Frag} {f : Addr} {fd : FuncData} (F : FunD K d28.name d28.qn d28.args d28.body d28.sc [] [] f fd) : BdOk gd 28 d28.ps fd where
  bind := FunD.bindsA F fun _ _ _ _ _ _ us hl => match us, hl with
    | [_], _ => rfl
  bindk := fun n ks hm => (kw_none hm (by decide)).elim
theorem bd29 {K : PySem.W.Frag} {f : Addr} {fd : FuncData} (F : FunD K d29.name d29.qn d29.args d29.body d29.sc [] [] f fd) : BdOk gd 29 d29.ps fd where
  bind := FunD.bindsA F fun _ _ _ _ _ _ us hl => match us, hl with
    | [], _ => rfl
  bindk := fun n ks hm => (kw_none hm (by decide)).elim
theorem bd30 {K : PySem.W.Frag} {f : Addr} {fd : FuncData} (F : FunD K d30.name d30.qn d30.args d30.body d30.sc [] [] f fd) : BdOk gd 30 d30.ps fd where
  bind := FunD.bindsA F fun _ _ _ _ _ _ us hl => match us, hl with
    | [], _ => rfl
  bindk := fun n ks hm => (kw_none hm (by decide)).elim
theorem bd31 {K : PySem.W.Frag} {f : Addr} {fd : FuncData} (F : FunD K d31.name d31.qn d31.args d31.body d31.sc [] [] f fd) : BdOk gd 31 d31.ps fd where
  bind := FunD.bindsA F fun _ _ _ _ _ _ us hl => match us, hl with
    | [], _ => rfl
  bindk := fun n ks hm => (kw_none hm (by decide)).elim
theorem bd32 {K : PySem.W.Frag} {f : Addr} {fd : FuncData} (F : FunD K d32.name d32.qn d32.args d32.body d32.sc [] [] f fd) : BdOk gd 32 d32.ps fd where
  bind := FunD.bindsA F fun _ _ _ _ _ _ us hl => match us, hl with
    | [_], _ => rfl
  bindk := fun n ks hm => (kw_none hm (by decide)).elim
theorem bd33 {K : PySem.W.Frag} {f : Addr} {fd : FuncData} (F : FunD K d33.name d33.qn d33.args d33.body d33.sc [] [] f fd) : BdOk gd 33 d33.ps fd where
  bind := FunD.bindsA F fun _ _ _ _ _ _ us hl => match us, hl with
    | [_, _, _, _], _ => rfl
  bindk := fun n ks hm => (kw_none hm (by decide)).elim
theorem bd34 {K : PySem.W.Frag} {f : Addr} {fd : FuncData} (F : FunD K d34.name d34.qn d34.args d34.body d34.sc [] [] f fd) : BdOk gd 34 d34.ps fd where
  bind := FunD.bindsA F fun _ _ _ _ _ _ us hl => match us, hl with
    | [_, _], _ => rfl
  bindk := fun n ks hm => (kw_none hm (by decide)).elim
theorem bd35 {K : PySem.W.Frag} {f : Addr} {fd : FuncData} (F : FunD K d35.name d35.qn d35.args d35.body d35.sc [] [] f fd) : BdOk gd 35 d35.ps fd where
  bind := FunD.bindsA F fun _ _ _ _ _ _ us hl => match us, hl with
    | [_], _ => rfl
  bindk := fun n ks hm => (kw_none hm (by decide)).elim
theorem bd36 {K : PySem.W.Frag} {f : Addr} {fd : FuncData} (F : FunD K d36.name d36.qn d36.args d36.body d36.sc [] [] f fd) : BdOk gd 36 d36.ps fd where
  bind := FunD.bindsA F fun _ _ _ _ _ _ us hl => match us, hl with
    | [_], _ => rfl
  bindk := fun n ks hm => (kw_none hm (by decide)).elim
def scB (d : Df) : Bool := isFun d.sc && (!d.sc.isCoroutine && (!d.sc.isGenerator && (decide d.N.Nodup && (decide (d.N.take d.ps.length = d.ps) && (d.ps.all (fun x => match d.sc.names.lookup x with
  | some .local => true
  | some .cell => true
  | _ => false) && d.sc.names.all (fun y => match y.2 with
  | .free => false
  | _ => true))))))
theorem scB_ok {d : Df} (h : scB d = true) : FnScope d.N d.ps d.sc := by
  unfold scB at h
  obtain ⟨h1, t1⟩ := aB h
  obtain ⟨h2, t2⟩ := aB t1
  obtain ⟨h3, t3⟩ := aB t2
  obtain ⟨h4, t4⟩ := aB t3
  obtain ⟨h5, t5⟩ := aB t4
  obtain ⟨h6, h7⟩ := aB t5
  refine ⟨isFun_ok h1, nB h2, nB h3, of_decide_eq_true h4, of_decide_eq_true h5, fun x hx => ?_, fun y hy e => ?_⟩
  · have z := List.all_eq_true.mp h6 x hx
    try dsimp only at z
    cases e : d.sc.names.lookup x with
    | none =>
      rw [e] at z
      cases z
    | some k =>
      rw [e] at z
      cases k <;> first | exact .inl rfl | exact .inr rfl | cases z
  · have z := List.all_eq_true.mp h7 y hy
    try dsimp only at z
    rw [e] at z
    cases z
theorem sc_all : (ds.map scB).all id = true := by kernel_rfl
theorem mt_all : (ds.map (dfB gd)).all id = true := by kernel_rfl
theorem flds_inj : ∀ i, i < 4 → ∀ j, j < 4 → (at? gd.flds i).getD Str.empty = (at? gd.flds j).getD Str.empty → i = j := by decide +kernel
def pd (K : PySem.W.Frag) : Pd where
  K := K
  cA := fun i => He.ga K ((at? [(Str.ofString "Unfit")] i).getD Str.empty)
  fN := fun i => (at? [Str.empty] i).getD Str.empty
  kA := fun i => He.ga K ((at? [(Str.ofString "Balance")] i).getD Str.empty)
  nc := 1
  nf := 4
  fl := fun i => (at? gd.flds i).getD Str.empty
  fi := fun i j hi hj e => flds_inj i hi j hj e
  nd := 37
  dA := fun i => He.fAd K ((at? ats i).getD (Str.empty, none))
theorem exA {K : PySem.W.Frag} (h : ex K = true) (i : Nat) {b : Bool} (q : (exl K)[i]? = some b) : b = true := by
  have z := List.all_eq_true.mp (show (exl K).all id = true from h) b (List.mem_of_getElem? q)
  exact z
section
variable {P : Program} {w : World} {K : PySem.W.Frag} {h : Heap} {mg : Str → Option Value}
theorem says (c : He.SaysX fa fn [] [] ex w h K) : He.SaysD fa fn K := congrArg (fun z : He.AlT => z.1) c.t
def gm0 : List (Nat × Nat) := [(1, 34), (2, 35), (0, 36)]
theorem kc0 (X : K.In h) (G : h.Ns mainGlobals mg) (c : He.SaysX fa fn [] [] ex w h K) : ∀ G', at? gd.cls 0 = some G' → KcOk gd tab (pd K) mg K 0 G' := by
  intro G' e
  cases e
  have cd := says c
  exact {
    mg := He.glo_ok X G (cd.fact 34 (f := .glo (Str.ofString "Balance")) rfl)
    cl := He.cls_ok (cd.fact 35 (f := .cls (Str.ofString "Balance")) rfl)
    mke := He.mkr_ok (cd.fact 36 (f := .mkr (Str.ofString "Balance")) rfl)
    ini := rfl
    mth := rfl
    no := fun i f e => by
      have hf : f ∈ gd.flds := by
        rw [at_list] at e
        exact List.mem_of_getElem? e
      exact He.noat_ok (cd.facts (f := .noat (Str.ofString "Balance") f) (List.mem_append_right _ (List.mem_map.mpr ⟨f, hf, rfl⟩)))
    me := fun m i e => by
      have q : ∀ t ∈ gm0, ∃ nm, at? gd.mids t.1 = some nm ∧ Meth K ((pd K).kA 0) nm ((pd K).dA t.2) ∧ t.2 < (pd K).nd := by
        intro t ht
        rcases List.mem_iff_getElem.mp ht with ⟨r, hr, er⟩
        subst er
        match r, hr with
        | 0, _ => exact ⟨(Str.ofString "limit"), rfl, He.meth_ok (cd.fact 37 (f := .meth (Str.ofString "Balance") (Str.ofString "limit")) rfl), by show 34 < 37; omega⟩
        | 1, _ => exact ⟨(Str.ofString "worst"), rfl, He.meth_ok (cd.fact 38 (f := .meth (Str.ofString "Balance") (Str.ofString "worst")) rfl), by show 35 < 37; omega⟩
        | 2, _ => exact ⟨(Str.ofString "lacking"), rfl, He.meth_ok (cd.fact 39 (f := .meth (Str.ofString "Balance") (Str.ofString "lacking")) rfl), by show 36 < 37; omega⟩
        | r + 3, hr => exact absurd hr (by show ¬ (r + 3 < 3); omega)
      exact look_all (Q := fun m i => ∃ nm, at? gd.mids m = some nm ∧ Meth K ((pd K).kA 0) nm ((pd K).dA i) ∧ i < (pd K).nd) q e
    inn := by show 33 < 37; omega }
theorem fns_ok (X : K.In h) (G : h.Ns mainGlobals mg) (c : He.SaysX fa fn [] [] ex w h K) : ∀ i x ps, at? gd.fns i = some (x, ps) → mg x = some (.ref ((pd K).dA i)) ∧ at? gd.dps i = some ps := by
  have cd := says c
  intro i x ps e
  match i, e with
  | 0, e =>
    have z : (d0.name, d0.ps) = (x, ps) := Option.some.inj e
    cases z
    exact ⟨He.glo_ok X G (cd.fact 0 (f := .glo d0.name) rfl), rfl⟩
  | 1, e =>
    have z : (d1.name, d1.ps) = (x, ps) := Option.some.inj e
    cases z
    exact ⟨He.glo_ok X G (cd.fact 1 (f := .glo d1.name) rfl), rfl⟩
  | 2, e =>
    have z : (d2.name, d2.ps) = (x, ps) := Option.some.inj e
    cases z
    exact ⟨He.glo_ok X G (cd.fact 2 (f := .glo d2.name) rfl), rfl⟩
  | 3, e =>
    have z : (d3.name, d3.ps) = (x, ps) := Option.some.inj e
    cases z
    exact ⟨He.glo_ok X G (cd.fact 3 (f := .glo d3.name) rfl), rfl⟩
  | 4, e =>
    have z : (d4.name, d4.ps) = (x, ps) := Option.some.inj e
    cases z
    exact ⟨He.glo_ok X G (cd.fact 4 (f := .glo d4.name) rfl), rfl⟩
  | 5, e =>
    have z : (d5.name, d5.ps) = (x, ps) := Option.some.inj e
    cases z
    exact ⟨He.glo_ok X G (cd.fact 5 (f := .glo d5.name) rfl), rfl⟩
  | 6, e =>
    have z : (d6.name, d6.ps) = (x, ps) := Option.some.inj e
    cases z
    exact ⟨He.glo_ok X G (cd.fact 6 (f := .glo d6.name) rfl), rfl⟩
  | 7, e =>
    have z : (d7.name, d7.ps) = (x, ps) := Option.some.inj e
    cases z
    exact ⟨He.glo_ok X G (cd.fact 7 (f := .glo d7.name) rfl), rfl⟩
  | 8, e =>
    have z : (d8.name, d8.ps) = (x, ps) := Option.some.inj e
    cases z
    exact ⟨He.glo_ok X G (cd.fact 8 (f := .glo d8.name) rfl), rfl⟩
  | 9, e =>
    have z : (d9.name, d9.ps) = (x, ps) := Option.some.inj e
    cases z
    exact ⟨He.glo_ok X G (cd.fact 9 (f := .glo d9.name) rfl), rfl⟩
  | 10, e =>
    have z : (d10.name, d10.ps) = (x, ps) := Option.some.inj e
    cases z
    exact ⟨He.glo_ok X G (cd.fact 10 (f := .glo d10.name) rfl), rfl⟩
  | 11, e =>
    have z : (d11.name, d11.ps) = (x, ps) := Option.some.inj e
    cases z
    exact ⟨He.glo_ok X G (cd.fact 11 (f := .glo d11.name) rfl), rfl⟩
  | 12, e =>
    have z : (d12.name, d12.ps) = (x, ps) := Option.some.inj e
    cases z
    exact ⟨He.glo_ok X G (cd.fact 12 (f := .glo d12.name) rfl), rfl⟩
  | 13, e =>
    have z : (d13.name, d13.ps) = (x, ps) := Option.some.inj e
    cases z
    exact ⟨He.glo_ok X G (cd.fact 13 (f := .glo d13.name) rfl), rfl⟩
  | 14, e =>
    have z : (d14.name, d14.ps) = (x, ps) := Option.some.inj e
    cases z
    exact ⟨He.glo_ok X G (cd.fact 14 (f := .glo d14.name) rfl), rfl⟩
  | 15, e =>
    have z : (d15.name, d15.ps) = (x, ps) := Option.some.inj e
    cases z
    exact ⟨He.glo_ok X G (cd.fact 15 (f := .glo d15.name) rfl), rfl⟩
  | 16, e =>
    have z : (d16.name, d16.ps) = (x, ps) := Option.some.inj e
    cases z
    exact ⟨He.glo_ok X G (cd.fact 16 (f := .glo d16.name) rfl), rfl⟩
  | 17, e =>
    have z : (d17.name, d17.ps) = (x, ps) := Option.some.inj e
    cases z
    exact ⟨He.glo_ok X G (cd.fact 17 (f := .glo d17.name) rfl), rfl⟩
  | 18, e =>
    have z : (d18.name, d18.ps) = (x, ps) := Option.some.inj e
    cases z
    exact ⟨He.glo_ok X G (cd.fact 18 (f := .glo d18.name) rfl), rfl⟩
  | 19, e =>
    have z : (d19.name, d19.ps) = (x, ps) := Option.some.inj e
    cases z
    exact ⟨He.glo_ok X G (cd.fact 19 (f := .glo d19.name) rfl), rfl⟩
  | 20, e =>
    have z : (d20.name, d20.ps) = (x, ps) := Option.some.inj e
    cases z
    exact ⟨He.glo_ok X G (cd.fact 20 (f := .glo d20.name) rfl), rfl⟩
  | 21, e =>
    have z : (d21.name, d21.ps) = (x, ps) := Option.some.inj e
    cases z
    exact ⟨He.glo_ok X G (cd.fact 21 (f := .glo d21.name) rfl), rfl⟩
  | 22, e =>
    have z : (d22.name, d22.ps) = (x, ps) := Option.some.inj e
    cases z
    exact ⟨He.glo_ok X G (cd.fact 22 (f := .glo d22.name) rfl), rfl⟩
  | 23, e =>
    have z : (d23.name, d23.ps) = (x, ps) := Option.some.inj e
    cases z
    exact ⟨He.glo_ok X G (cd.fact 23 (f := .glo d23.name) rfl), rfl⟩
  | 24, e =>
    have z : (d24.name, d24.ps) = (x, ps) := Option.some.inj e
    cases z
    exact ⟨He.glo_ok X G (cd.fact 24 (f := .glo d24.name) rfl), rfl⟩
  | 25, e =>
    have z : (d25.name, d25.ps) = (x, ps) := Option.some.inj e
    cases z
    exact ⟨He.glo_ok X G (cd.fact 25 (f := .glo d25.name) rfl), rfl⟩
  | 26, e =>
    have z : (d26.name, d26.ps) = (x, ps) := Option.some.inj e
    cases z
    exact ⟨He.glo_ok X G (cd.fact 26 (f := .glo d26.name) rfl), rfl⟩
  | 27, e =>
    have z : (d27.name, d27.ps) = (x, ps) := Option.some.inj e
    cases z
    exact ⟨He.glo_ok X G (cd.fact 27 (f := .glo d27.name) rfl), rfl⟩
  | 28, e =>
    have z : (d28.name, d28.ps) = (x, ps) := Option.some.inj e
    cases z
    exact ⟨He.glo_ok X G (cd.fact 28 (f := .glo d28.name) rfl), rfl⟩
  | 29, e =>
    have z : (d29.name, d29.ps) = (x, ps) := Option.some.inj e
    cases z
    exact ⟨He.glo_ok X G (cd.fact 29 (f := .glo d29.name) rfl), rfl⟩
  | 30, e =>
    have z : (d30.name, d30.ps) = (x, ps) := Option.some.inj e
    cases z
    exact ⟨He.glo_ok X G (cd.fact 30 (f := .glo d30.name) rfl), rfl⟩
  | 31, e =>
    have z : (d31.name, d31.ps) = (x, ps) := Option.some.inj e
    cases z
    exact ⟨He.glo_ok X G (cd.fact 31 (f := .glo d31.name) rfl), rfl⟩
  | 32, e =>
    have z : (d32.name, d32.ps) = (x, ps) := Option.some.inj e
    cases z
    exact ⟨He.glo_ok X G (cd.fact 32 (f := .glo d32.name) rfl), rfl⟩
  | n + 33, e =>
    rw [at_list] at e
    have z := (List.getElem?_eq_some_iff.mp e).1
    have l : gd.fns.length = 33 := rfl
    omega
theorem dfs_ok (X : K.In h) (G : h.Ns mainGlobals mg) (c : He.SaysX fa fn [] [] ex w h K) : ∀ i d, at? ds i = some d → ∃ fd, FunD K d.name d.qn d.args d.body d.sc [] [] ((pd K).dA i) fd ∧ BdOk gd i d.ps fd := by
  have cd := says c
  intro i d e
  match i, e with
  | 0, e =>
    have z : d0 = d := Option.some.inj e
    subst z
    obtain ⟨fd, F⟩ := cd.def_ 0 rfl
    exact ⟨fd, F, bd0 F⟩
  | 1, e =>
    have z : d1 = d := Option.some.inj e
    subst z
    obtain ⟨fd, F⟩ := cd.def_ 1 rfl
    exact ⟨fd, F, bd1 F⟩
  | 2, e =>
    have z : d2 = d := Option.some.inj e
    subst z
    obtain ⟨fd, F⟩ := cd.def_ 2 rfl
    exact ⟨fd, F, bd2 F⟩
  | 3, e =>
    have z : d3 = d := Option.some.inj e
    subst z
    obtain ⟨fd, F⟩ := cd.def_ 3 rfl
    exact ⟨fd, F, bd3 F⟩
  | 4, e =>
    have z : d4 = d := Option.some.inj e
    subst z
    obtain ⟨fd, F⟩ := cd.def_ 4 rfl
    exact ⟨fd, F, bd4 F⟩
  | 5, e =>
    have z : d5 = d := Option.some.inj e
    subst z
    obtain ⟨fd, F⟩ := cd.def_ 5 rfl
    exact ⟨fd, F, bd5 F⟩
  | 6, e =>
    have z : d6 = d := Option.some.inj e
    subst z
    obtain ⟨fd, F⟩ := cd.def_ 6 rfl
    exact ⟨fd, F, bd6 F⟩
  | 7, e =>
    have z : d7 = d := Option.some.inj e
    subst z
    obtain ⟨fd, F⟩ := cd.def_ 7 rfl
    exact ⟨fd, F, bd7 F⟩
  | 8, e =>
    have z : d8 = d := Option.some.inj e
    subst z
    obtain ⟨fd, F⟩ := cd.def_ 8 rfl
    exact ⟨fd, F, bd8 F⟩
  | 9, e =>
    have z : d9 = d := Option.some.inj e
    subst z
    obtain ⟨fd, F⟩ := cd.def_ 9 rfl
    exact ⟨fd, F, bd9 F⟩
  | 10, e =>
    have z : d10 = d := Option.some.inj e
    subst z
    obtain ⟨fd, F⟩ := cd.def_ 10 rfl
    exact ⟨fd, F, bd10 F⟩
  | 11, e =>
    have z : d11 = d := Option.some.inj e
    subst z
    obtain ⟨fd, F⟩ := cd.def_ 11 rfl
    exact ⟨fd, F, bd11 F⟩
  | 12, e =>
    have z : d12 = d := Option.some.inj e
    subst z
    obtain ⟨fd, F⟩ := cd.def_ 12 rfl
    exact ⟨fd, F, bd12 F⟩
  | 13, e =>
    have z : d13 = d := Option.some.inj e
    subst z
    obtain ⟨fd, F⟩ := cd.def_ 13 rfl
    exact ⟨fd, F, bd13 F⟩
  | 14, e =>
    have z : d14 = d := Option.some.inj e
    subst z
    obtain ⟨fd, F⟩ := cd.def_ 14 rfl
    exact ⟨fd, F, bd14 F⟩
  | 15, e =>
    have z : d15 = d := Option.some.inj e
    subst z
    obtain ⟨fd, F⟩ := cd.def_ 15 rfl
    exact ⟨fd, F, bd15 F⟩
  | 16, e =>
    have z : d16 = d := Option.some.inj e
    subst z
    obtain ⟨fd, F⟩ := cd.def_ 16 rfl
    exact ⟨fd, F, bd16 F⟩
  | 17, e =>
    have z : d17 = d := Option.some.inj e
    subst z
    obtain ⟨fd, F⟩ := cd.def_ 17 rfl
    exact ⟨fd, F, bd17 F⟩
  | 18, e =>
    have z : d18 = d := Option.some.inj e
    subst z
    obtain ⟨fd, F⟩ := cd.def_ 18 rfl
    exact ⟨fd, F, bd18 F⟩
  | 19, e =>
    have z : d19 = d := Option.some.inj e
    subst z
    obtain ⟨fd, F⟩ := cd.def_ 19 rfl
    exact ⟨fd, F, bd19 F⟩
  | 20, e =>
    have z : d20 = d := Option.some.inj e
    subst z
    obtain ⟨fd, F⟩ := cd.def_ 20 rfl
    exact ⟨fd, F, bd20 F⟩
  | 21, e =>
    have z : d21 = d := Option.some.inj e
    subst z
    obtain ⟨fd, F⟩ := cd.def_ 21 rfl
    exact ⟨fd, F, bd21 F⟩
  | 22, e =>
    have z : d22 = d := Option.some.inj e
    subst z
    obtain ⟨fd, F⟩ := cd.def_ 22 rfl
    exact ⟨fd, F, bd22 F⟩
  | 23, e =>
    have z : d23 = d := Option.some.inj e
    subst z
    obtain ⟨fd, F⟩ := cd.def_ 23 rfl
    exact ⟨fd, F, bd23 F⟩
  | 24, e =>
    have z : d24 = d := Option.some.inj e
    subst z
    obtain ⟨fd, F⟩ := cd.def_ 24 rfl
    exact ⟨fd, F, bd24 F⟩
  | 25, e =>
    have z : d25 = d := Option.some.inj e
    subst z
    obtain ⟨fd, F⟩ := cd.def_ 25 rfl
    exact ⟨fd, F, bd25 F⟩
  | 26, e =>
    have z : d26 = d := Option.some.inj e
    subst z
    obtain ⟨fd, F⟩ := cd.def_ 26 rfl
    exact ⟨fd, F, bd26 F⟩
  | 27, e =>
    have z : d27 = d := Option.some.inj e
    subst z
    obtain ⟨fd, F⟩ := cd.def_ 27 rfl
    exact ⟨fd, F, bd27 F⟩
  | 28, e =>
    have z : d28 = d := Option.some.inj e
    subst z
    obtain ⟨fd, F⟩ := cd.def_ 28 rfl
    exact ⟨fd, F, bd28 F⟩
  | 29, e =>
    have z : d29 = d := Option.some.inj e
    subst z
    obtain ⟨fd, F⟩ := cd.def_ 29 rfl
    exact ⟨fd, F, bd29 F⟩
  | 30, e =>
    have z : d30 = d := Option.some.inj e
    subst z
    obtain ⟨fd, F⟩ := cd.def_ 30 rfl
    exact ⟨fd, F, bd30 F⟩
  | 31, e =>
    have z : d31 = d := Option.some.inj e
    subst z
    obtain ⟨fd, F⟩ := cd.def_ 31 rfl
    exact ⟨fd, F, bd31 F⟩
  | 32, e =>
    have z : d32 = d := Option.some.inj e
    subst z
    obtain ⟨fd, F⟩ := cd.def_ 32 rfl
    exact ⟨fd, F, bd32 F⟩
  | 33, e =>
    have z : d33 = d := Option.some.inj e
    subst z
    obtain ⟨fd, F⟩ := cd.def_ 33 rfl
    exact ⟨fd, F, bd33 F⟩
  | 34, e =>
    have z : d34 = d := Option.some.inj e
    subst z
    obtain ⟨fd, F⟩ := cd.def_ 34 rfl
    exact ⟨fd, F, bd34 F⟩
  | 35, e =>
    have z : d35 = d := Option.some.inj e
    subst z
    obtain ⟨fd, F⟩ := cd.def_ 35 rfl
    exact ⟨fd, F, bd35 F⟩
  | 36, e =>
    have z : d36 = d := Option.some.inj e
    subst z
    obtain ⟨fd, F⟩ := cd.def_ 36 rfl
    exact ⟨fd, F, bd36 F⟩
  | n + 37, e =>
    rw [at_list] at e
    have z := (List.getElem?_eq_some_iff.mp e).1
    have l : ds.length = 37 := rfl
    omega
theorem tp (X : K.In h) (G : h.Ns mainGlobals mg) (c : He.SaysX fa fn [] [] ex w h K) (base : Heap) : TpOk gd tab (pd K) ds P w mg base := by
  have cd := says c
  have ce : ex K = true := c.more
  have gC0 : mg (Str.ofString "Unfit") = some (.ref (He.ga K (Str.ofString "Unfit"))) := He.glo_ok X G (cd.fact 33 (f := .glo (Str.ofString "Unfit")) rfl)
  refine { dps := rfl, nd := rfl, fns := fns_ok X G c, cls := fun k G' e => ?cls, nc := rfl, fld := fun i f e => ?fld, nf := rfl, mf := fun m nm e => ?mf, ini := Nat.le_refl _, nex := rfl, mt := fun d hd => ⟨?mt1, ?mt2⟩, dfs := dfs_ok X G c, free := fun x hx => ?free, glo := fun i x e => ?glo, ecs := fun i x f e => ?ecs, en0 := fun i x e => ?en0, exk := fun i x fo e => ?exk, exm := fun i j hi hj => ?exm }
  case cls =>
    match k, e with
    | 0, e => exact kc0 X G c G' e
    | n + 1, e =>
      rw [at_list] at e
      have z := (List.getElem?_eq_some_iff.mp e).1
      have l : gd.cls.length = 1 := rfl
      omega
  case fld =>
    show (at? gd.flds i).getD Str.empty = f
    rw [e]
    rfl
  case mf =>
    rw [at_list] at e
    have q : gd.mids.all (fun x => !(gd.flds.any fun y => decide (y = x))) = true := by decide +kernel
    have z := List.all_eq_true.mp q nm (List.mem_of_getElem? e)
    intro hm
    have : (gd.flds.any fun y => decide (y = nm)) = true := List.any_eq_true.mpr ⟨nm, hm, decide_eq_true rfl⟩
    try dsimp only at z
    rw [this] at z
    cases z
  case mt1 => exact List.all_eq_true.mp mt_all _ (List.mem_map.mpr ⟨d, hd, rfl⟩)
  case mt2 => exact scB_ok (List.all_eq_true.mp sc_all _ (List.mem_map.mpr ⟨d, hd, rfl⟩))
  case free =>
    have hm : x ∈ gd.free := by simpa using hx
    exact He.free_ok X G (cd.facts (f := .free x) (List.mem_append_left _ (List.mem_append_right _ (List.mem_map.mpr ⟨x, hm, rfl⟩))))
  case glo =>
    match i, e with
    | n + 0, e =>
      rw [at_list] at e
      have z := (List.getElem?_eq_some_iff.mp e).1
      have l : gd.glo.length = 0 := rfl
      omega
  case ecs =>
    match i, e with
    | 0, e => cases e
    | n + 1, e =>
      rw [at_list] at e
      have z := (List.getElem?_eq_some_iff.mp e).1
      have l : gd.exs.length = 1 := rfl
      omega
  case en0 =>
    match i, e with
    | 0, e =>
      cases e
      exact ⟨gC0, "ValueError", _, _, _, PySem.F.excBase_ValueError, (exA ce 2 rfl), (exA ce 3 rfl), of_decide_eq_true (exA ce 4 rfl), of_decide_eq_true (exA ce 5 rfl)⟩
    | n + 1, e =>
      rw [at_list] at e
      have z := (List.getElem?_eq_some_iff.mp e).1
      have l : gd.exs.length = 1 := rfl
      omega
  case exk =>
    match i, e with
    | 0, e =>
      cases e
      have x2 := excB_ok (exA ce 0 rfl)
      refine ⟨gC0, rfl, x2.1, of_decide_eq_true (exA ce 1 rfl), x2.2, fun Tn b hm => ?_⟩
      have hm2 : (Tn, b) = ("ValueError", true) := by
        have q := isi_some hm
        revert q
        simp [gd]
      · cases hm2
        exact ⟨by decide +kernel, by decide +kernel, by decide +kernel, of_decide_eq_true (exA ce 7 rfl)⟩
    | n + 1, e =>
      rw [at_list] at e
      have z := (List.getElem?_eq_some_iff.mp e).1
      have l : gd.exs.length = 1 := rfl
      omega
  case exm =>
    have li : i < 1 := hi
    have lj : j < 1 := hj
    match i, j, li, lj with
    | 0, 0, _, _ => exact of_decide_eq_true (exA ce 6 rfl)
    | 0, n + 1, _, lj => omega
    | n + 1, _, li, _ => omega
end
noncomputable def c0 : Cd := ⟨1, 1, fun cf => (sx_cons (sx_ret (kx_and (kx_isi tab (kx_var 0) [.int]) (kx_not (kx_isi tab (kx_var 0) [.bool])))) sx_nil)⟩
noncomputable def c1 : Cd := ⟨2, 2, fun cf => (sx_cons (sx_ret (kx_and (kx_isi tab (kx_var 0) [.tuple]) (kx_cmp .eq (kx_bi .len (lx_cons (kx_var 0) lx_nil)) (kx_var 1)))) sx_nil)⟩
noncomputable def c2 : Cd := ⟨1, 1, fun cf => (sx_cons (sx_ret (kx_bin .sub (kx_cst (.int 1)) (kx_bin .mod (kx_var 0) (kx_cst (.int 2))))) sx_nil)⟩
noncomputable def c3 : Cd := ⟨1, 1, fun cf => (sx_cons (sx_ret (kx_bin .mul (kx_tup (lx_cons (kx_cst (.int 0)) lx_nil)) (kx_bi .len (lx_cons (kx_var 0) lx_nil)))) sx_nil)⟩
noncomputable def c4 : Cd := ⟨5, 10, fun cf => (sx_cons (sx_swap [5, 6] (lx_cons (kx_call cf 2 (lx_cons (kx_var 2) lx_nil)) (lx_cons (kx_lst lx_nil) lx_nil))) (sx_cons (sx_fors (.tp [(.nm 7), (.nm 8)]) (tx_enum (kx_var 0)) (sx_cons (sx_set 9 (kx_cst (.int 0))) (sx_cons (sx_ifs (kx_and (kx_cmp .eq (kx_idx (kx_var 8) (kx_cst (.int 4))) (kx_var 5)) (kx_cmp .nin (kx_var 7) (kx_var 3))) (sx_cons (sx_set 9 (kx_bi2 .max (kx_cst (.int 0)) (kx_bin .sub (kx_bi2 .min (kx_idx (kx_var 8) (kx_cst (.int 3))) (kx_idx (kx_var 1) (kx_var 7))) (kx_idx (kx_var 4) (kx_var 7))))) sx_nil) sx_nil) (sx_cons (sx_exp (kx_bm .append (kx_var 6) (lx_cons (kx_var 9) lx_nil))) sx_nil)))) (sx_cons (sx_ret (kx_bi .tuple (lx_cons (kx_var 6) lx_nil))) sx_nil)))⟩
noncomputable def c5 : Cd := ⟨2, 5, fun cf => (sx_cons (sx_set 2 (kx_cst (.int 0))) (sx_cons (sx_fors (.tp [(.nm 3), (.nm 4)]) (tx_enum (kx_var 1)) (sx_cons (sx_augS (kx_var 0) (kx_var 3) .add (kx_bin .sub (kx_var 2) (kx_var 4))) (sx_cons (sx_set 2 (kx_var 4)) sx_nil))) sx_nil))⟩
noncomputable def c6 : Cd := ⟨2, 5, fun cf => (sx_cons (sx_set 2 (kx_bin .mul (kx_lst (lx_cons (kx_cst (.int 0)) lx_nil)) (kx_bi .len (lx_cons (kx_var 1) lx_nil)))) (sx_cons (sx_fors (.nm 3) (tx_rng3 (kx_bin .sub (kx_bi .len (lx_cons (kx_var 0) lx_nil)) (kx_cst (.int 1))) (kx_cst (.int 0))) (sx_cons (sx_set 4 (kx_bi2 .max (kx_cst (.int 0)) (kx_bin .sub (kx_idx (kx_var 1) (kx_var 3)) (kx_idx (kx_idx (kx_var 0) (kx_var 3)) (kx_cst (.int 1)))))) (sx_cons (sx_augS (kx_var 1) (kx_var 3) .sub (kx_var 4)) (sx_cons (sx_augS (kx_var 1) (kx_bin .sub (kx_var 3) (kx_cst (.int 1))) .add (kx_var 4)) (sx_cons (sx_sub (kx_var 2) (kx_var 3) (kx_var 4)) sx_nil))))) (sx_cons (sx_ret (kx_var 2)) sx_nil)))⟩
noncomputable def c7 : Cd := ⟨7, 12, fun cf => (sx_cons (sx_swap [7, 8] (lx_cons (kx_bi .list (lx_cons (kx_var 1) lx_nil)) (lx_cons (kx_call cf 3 (lx_cons (kx_var 0) lx_nil)) lx_nil))) (sx_cons (sx_ifs (kx_var 4) (sx_cons (sx_set 8 (kx_call cf 4 (lx_cons (kx_var 0) (lx_cons (kx_var 1) (lx_cons (kx_var 3) (lx_cons (kx_var 5) (lx_cons (kx_var 6) lx_nil))))))) (sx_cons (sx_exp (kx_call cf 5 (lx_cons (kx_var 7) (lx_cons (kx_var 8) lx_nil)))) sx_nil)) sx_nil) (sx_cons (sx_ifs (kx_cmp .eq (kx_bin .mod (kx_var 2) (kx_cst (.int 2))) (kx_cst (.int 1))) (sx_cons (sx_set 7 (kx_lc [10, 11] (kx_bin .add (kx_var 10) (kx_idx (kx_var 11) (kx_cst (.int 2)))) (.tp [(.nm 10), (.nm 11)]) (tx_zip (kx_var 7) (kx_var 0)) lx_nil)) sx_nil) sx_nil) (sx_cons (sx_set 9 (kx_call cf 6 (lx_cons (kx_var 0) (lx_cons (kx_var 7) lx_nil)))) (sx_cons (sx_ret (kx_tup (lx_cons (kx_bi .tuple (lx_cons (kx_var 7) lx_nil)) (lx_cons (kx_var 8) (lx_cons (kx_bi .tuple (lx_cons (kx_var 9) lx_nil)) lx_nil))))) sx_nil)))))⟩
noncomputable def c8 : Cd := ⟨7, 10, fun cf => (sx_cons (sx_asg (.tp [(.nm 7), (.nm 8), (.nm 9)]) (kx_call cf 7 (lx_cons (kx_var 0) (lx_cons (kx_var 1) (lx_cons (kx_var 2) (lx_cons (kx_var 3) (lx_cons (kx_var 4) (lx_cons (kx_var 5) (lx_cons (kx_var 6) lx_nil))))))))) (sx_cons (sx_ret (kx_tup (lx_cons (kx_var 7) (lx_cons (kx_idx (kx_var 8) (kx_neg (kx_cst (.int 1)))) lx_nil)))) sx_nil))⟩
noncomputable def c9 : Cd := ⟨3, 3, fun cf => (sx_cons (sx_ret (kx_call cf 8 (lx_cons (kx_var 0) (lx_cons (kx_var 1) (lx_cons (kx_var 2) (lx_cons (kx_var 2) (lx_cons (kx_cst (.bl true)) (lx_cons (kx_tup lx_nil) (lx_cons (kx_call cf 3 (lx_cons (kx_var 0) lx_nil)) lx_nil))))))))) sx_nil)⟩
noncomputable def c10 : Cd := ⟨3, 5, fun cf => (sx_cons (sx_set 3 (kx_lst (lx_cons (kx_bi .tuple (lx_cons (kx_var 1) lx_nil)) lx_nil))) (sx_cons (sx_fors (.nm 4) (tx_rng1 (kx_var 2)) (sx_cons (sx_exp (kx_bm .append (kx_var 3) (lx_cons (kx_idx (kx_call cf 9 (lx_cons (kx_var 0) (lx_cons (kx_idx (kx_var 3) (kx_neg (kx_cst (.int 1)))) (lx_cons (kx_var 4) lx_nil)))) (kx_cst (.int 0))) lx_nil))) sx_nil)) (sx_cons (sx_ret (kx_var 3)) sx_nil)))⟩
noncomputable def c11 : Cd := ⟨1, 5, fun cf => (sx_cons (sx_set 1 (kx_lc [2] (kx_idx (kx_var 2) (kx_cst (.int 0))) (.nm 2) (tx_ex (kx_var 0)) lx_nil)) (sx_cons (sx_ret (kx_lc [3, 4] (kx_bin .sub (kx_var 3) (kx_var 4)) (.tp [(.nm 3), (.nm 4)]) (tx_zip (kx_var 1) (kx_bin .add (kx_sl (kx_var 1) (wx_some (kx_cst (.int 1))) wx_none) (kx_lst (lx_cons (kx_cst (.int 0)) lx_nil)))) lx_nil)) sx_nil))⟩
noncomputable def c12 : Cd := ⟨5, 8, fun cf => (sx_cons (sx_set 5 (kx_call cf 4 (lx_cons (kx_idx (kx_var 0) (kx_cst (.int 1))) (lx_cons (kx_var 1) (lx_cons (kx_var 2) (lx_cons (kx_var 3) (lx_cons (kx_var 4) lx_nil))))))) (sx_cons (sx_ret (kx_bi .sum (lx_cons (kx_lc [6, 7] (kx_bin .mul (kx_var 6) (kx_var 7)) (.tp [(.nm 6), (.nm 7)]) (tx_zip (kx_var 5) (kx_call cf 11 (lx_cons (kx_idx (kx_var 0) (kx_cst (.int 1))) lx_nil))) lx_nil) lx_nil))) sx_nil))⟩
noncomputable def c13 : Cd := ⟨6, 6, fun cf => (sx_cons (sx_ret (kx_or (kx_cmp .is (kx_idx (kx_var 0) (kx_cst (.int 3))) (kx_cst .non)) (kx_cmp .ge (kx_var 3) (kx_call cf 12 (lx_cons (kx_var 0) (lx_cons (kx_var 1) (lx_cons (kx_var 2) (lx_cons (kx_var 4) (lx_cons (kx_var 5) lx_nil))))))))) sx_nil)⟩
noncomputable def c14 : Cd := ⟨1, 8, fun cf => (sx_cons (sx_set 1 (kx_lst (lx_cons (kx_cst (.int 0)) (lx_cons (kx_cst (.int 0)) lx_nil)))) (sx_cons (sx_fors (.tp [(.nm 2), (.nm 3)]) (tx_enum (kx_call cf 11 (lx_cons (kx_idx (kx_var 0) (kx_cst (.int 1))) lx_nil))) (sx_cons (sx_asg (.tp [(.nm 4), (.nm 5), (.nm 4), (.nm 6), (.nm 7)]) (kx_idx (kx_idx (kx_var 0) (kx_cst (.int 1))) (kx_var 2))) (sx_cons (sx_ifs (kx_cmp .gt (kx_var 2) (kx_cst (.int 0))) (sx_cons (sx_set 6 (kx_bi2 .min (kx_var 6) (kx_var 5))) sx_nil) sx_nil) (sx_cons (sx_augS (kx_var 1) (kx_var 7) .add (kx_bin .mul (kx_var 6) (kx_var 3))) sx_nil)))) (sx_cons (sx_ret (kx_bi .tuple (lx_cons (kx_var 1) lx_nil))) sx_nil)))⟩
noncomputable def c15 : Cd := ⟨4, 7, fun cf => (sx_cons (sx_ifs (kx_cmp .is (kx_idx (kx_var 0) (kx_cst (.int 3))) (kx_cst .non)) (sx_cons (sx_ret (kx_cst (.int 0))) sx_nil) sx_nil) (sx_cons (sx_asg (.tp [(.nm 4), (.nm 5), (.nm 6)]) (kx_idx (kx_var 0) (kx_cst (.int 3)))) (sx_cons (sx_ret (kx_bi2 .min (kx_var 4) (kx_bin .add (kx_bin .sub (kx_var 2) (kx_var 3)) (kx_idx (kx_var 6) (kx_bin .mod (kx_var 1) (kx_bi .len (lx_cons (kx_var 6) lx_nil))))))) sx_nil)))⟩
noncomputable def c16 : Cd := ⟨3, 10, fun cf => (sx_cons (sx_asg (.tp [(.nm 3), (.nm 4), (.nm 5)]) (kx_var 2)) (sx_cons (sx_set 6 (kx_call cf 3 (lx_cons (kx_idx (kx_var 0) (kx_cst (.int 1))) lx_nil))) (sx_cons (sx_set 7 (kx_call cf 13 (lx_cons (kx_var 0) (lx_cons (kx_var 4) (lx_cons (kx_var 3) (lx_cons (kx_var 5) (lx_cons (kx_tup lx_nil) (lx_cons (kx_var 6) lx_nil)))))))) (sx_cons (sx_set 8 (kx_cst (.int 0))) (sx_cons (sx_ifs (kx_var 7) (sx_cons (sx_set 8 (kx_call cf 12 (lx_cons (kx_var 0) (lx_cons (kx_var 4) (lx_cons (kx_var 3) (lx_cons (kx_tup lx_nil) (lx_cons (kx_var 6) lx_nil))))))) sx_nil) sx_nil) (sx_cons (sx_set 9 (kx_idx (kx_call cf 8 (lx_cons (kx_idx (kx_var 0) (kx_cst (.int 1))) (lx_cons (kx_var 4) (lx_cons (kx_var 1) (lx_cons (kx_var 3) (lx_cons (kx_var 7) (lx_cons (kx_tup lx_nil) (lx_cons (kx_var 6) lx_nil)))))))) (kx_cst (.int 0)))) (sx_cons (sx_ret (kx_tup (lx_cons (kx_bin .add (kx_var 3) (kx_bi .int (lx_cons (kx_var 7) lx_nil))) (lx_cons (kx_var 9) (lx_cons (kx_call cf 15 (lx_cons (kx_var 0) (lx_cons (kx_var 1) (lx_cons (kx_var 5) (lx_cons (kx_var 8) lx_nil))))) lx_nil))))) sx_nil)))))))⟩
noncomputable def c17 : Cd := ⟨2, 5, fun cf => (sx_cons (sx_set 2 (kx_cst (.int 0))) (sx_cons (sx_ifs (kx_cmp .isnt (kx_idx (kx_var 0) (kx_cst (.int 3))) (kx_cst .non)) (sx_cons (sx_set 2 (kx_idx (kx_idx (kx_var 0) (kx_cst (.int 3))) (kx_cst (.int 1)))) sx_nil) sx_nil) (sx_cons (sx_set 3 (kx_lst (lx_cons (kx_tup (lx_cons (kx_cst (.int 0)) (lx_cons (kx_call cf 3 (lx_cons (kx_idx (kx_var 0) (kx_cst (.int 1))) lx_nil)) (lx_cons (kx_var 2) lx_nil)))) lx_nil))) (sx_cons (sx_fors (.nm 4) (tx_rng1 (kx_var 1)) (sx_cons (sx_exp (kx_bm .append (kx_var 3) (lx_cons (kx_call cf 16 (lx_cons (kx_var 0) (lx_cons (kx_var 4) (lx_cons (kx_idx (kx_var 3) (kx_neg (kx_cst (.int 1)))) lx_nil)))) lx_nil))) sx_nil)) (sx_cons (sx_ret (kx_var 3)) sx_nil)))))⟩
noncomputable def c18 : Cd := ⟨2, 5, fun cf => (sx_cons (sx_set 2 (kx_lc [3] (kx_idx (kx_var 3) (kx_cst (.int 0))) (.nm 3) (tx_ex (kx_call cf 17 (lx_cons (kx_var 0) (lx_cons (kx_var 1) lx_nil)))) lx_nil)) (sx_cons (sx_ret (kx_bi .tuple (lx_cons (kx_lc [4] (kx_var 4) (.nm 4) (tx_rng1 (kx_var 1)) (lx_cons (kx_cmp .eq (kx_idx (kx_var 2) (kx_var 4)) (kx_idx (kx_var 2) (kx_bin .add (kx_var 4) (kx_cst (.int 1))))) lx_nil)) lx_nil))) sx_nil))⟩
noncomputable def c19 : Cd := ⟨2, 5, fun cf => (sx_cons (sx_set 2 (kx_call cf 3 (lx_cons (kx_idx (kx_var 0) (kx_cst (.int 1))) lx_nil))) (sx_cons (sx_set 3 (kx_call cf 10 (lx_cons (kx_idx (kx_var 0) (kx_cst (.int 1))) (lx_cons (kx_var 2) (lx_cons (kx_var 1) lx_nil))))) (sx_cons (sx_ret (kx_bi .tuple (lx_cons (kx_lc [4] (kx_call cf 12 (lx_cons (kx_var 0) (lx_cons (kx_idx (kx_var 3) (kx_var 4)) (lx_cons (kx_var 4) (lx_cons (kx_tup lx_nil) (lx_cons (kx_var 2) lx_nil)))))) (.nm 4) (tx_rng1 (kx_var 1)) lx_nil) lx_nil))) sx_nil)))⟩
noncomputable def c20 : Cd := ⟨2, 5, fun cf => (sx_cons (sx_ifs (kx_cmp .is (kx_idx (kx_var 0) (kx_cst (.int 3))) (kx_cst .non)) (sx_cons (sx_ret (kx_cst .non)) sx_nil) sx_nil) (sx_cons (sx_set 2 (kx_mk tab cf 0 (lx_cons (kx_var 0) (lx_cons (kx_var 1) (lx_cons (kx_cst (.int 0)) lx_nil))))) (sx_cons (sx_fors (.nm 3) (tx_ex (kx_mth tab cf 0 (kx_var 2) lx_nil)) (sx_cons (sx_fors (.nm 4) (tx_rng2 (kx_var 3) (kx_var 1)) (sx_cons (sx_ifs (kx_cmp .gt (kx_bin .sub (kx_idx (kx_att (kx_var 2) 0) (kx_var 4)) (kx_idx (kx_att (kx_var 2) 1) (kx_var 3))) (kx_mth tab cf 1 (kx_var 2) (lx_cons (kx_var 3) lx_nil))) (sx_cons (sx_ret (kx_tup (lx_cons (kx_var 3) (lx_cons (kx_var 4) lx_nil)))) sx_nil) sx_nil) sx_nil)) sx_nil)) (sx_cons (sx_ret (kx_cst .non)) sx_nil))))⟩
noncomputable def c21 : Cd := ⟨3, 7, fun cf => (sx_cons (sx_ifs (kx_or (kx_cmp .is (kx_idx (kx_var 0) (kx_cst (.int 3))) (kx_cst .non)) (kx_or (kx_not (kx_call cf 1 (lx_cons (kx_var 2) (lx_cons (kx_cst (.int 2)) lx_nil)))) (kx_not (kx_bi .all (lx_cons (kx_lc [6] (kx_call cf 0 (lx_cons (kx_var 6) lx_nil)) (.nm 6) (tx_ex (kx_var 2)) lx_nil) lx_nil))))) (sx_cons (sx_ret (kx_cst (.bl false))) sx_nil) sx_nil) (sx_cons (sx_asg (.tp [(.nm 3), (.nm 4)]) (kx_var 2)) (sx_cons (sx_ifs (kx_not (kx_chain3 .le .le .lt (kx_cst (.int 0)) (kx_var 3) (kx_var 4) (kx_var 1))) (sx_cons (sx_ret (kx_cst (.bl false))) sx_nil) sx_nil) (sx_cons (sx_set 5 (kx_mk tab cf 0 (lx_cons (kx_var 0) (lx_cons (kx_var 1) (lx_cons (kx_cst (.int 0)) lx_nil))))) (sx_cons (sx_ret (kx_cmp .gt (kx_bin .sub (kx_idx (kx_att (kx_var 5) 0) (kx_var 4)) (kx_idx (kx_att (kx_var 5) 1) (kx_var 3))) (kx_mth tab cf 1 (kx_var 5) (lx_cons (kx_var 3) lx_nil)))) sx_nil)))))⟩
noncomputable def c22 : Cd := ⟨2, 4, fun cf => (sx_cons (sx_ifs (kx_cmp .is (kx_idx (kx_var 0) (kx_cst (.int 3))) (kx_cst .non)) (sx_cons (sx_rais 0 lx_nil) sx_nil) sx_nil) (sx_cons (sx_set 2 (kx_mk tab cf 0 (lx_cons (kx_var 0) (lx_cons (kx_var 1) (lx_cons (kx_cst (.int 0)) lx_nil))))) (sx_cons (sx_set 3 (kx_mth tab cf 2 (kx_var 2) lx_nil)) (sx_cons (sx_ifs (kx_cmp .inn (kx_cst (.int 0)) (kx_mth tab cf 0 (kx_var 2) lx_nil)) (sx_cons (sx_ret (kx_cst .non)) sx_nil) sx_nil) (sx_cons (sx_ret (kx_bi .max (lx_cons (kx_pack true (kx_pc false (kx_att (kx_var 2) 2) (kx_pc true (kx_var 3) (kx_pn)))) lx_nil))) sx_nil)))))⟩
noncomputable def c23 : Cd := ⟨2, 5, fun cf => (sx_cons (sx_ifs (kx_cmp .is (kx_idx (kx_var 0) (kx_cst (.int 3))) (kx_cst .non)) (sx_cons (sx_rais 0 lx_nil) sx_nil) sx_nil) (sx_cons (sx_swap [2, 3] (lx_cons (kx_cst (.int 0)) (lx_cons (kx_bid .max (kx_call cf 19 (lx_cons (kx_var 0) (lx_cons (kx_var 1) lx_nil))) (kx_cst (.int 0))) lx_nil))) (sx_cons (sx_ifs (kx_mth tab cf 0 (kx_mk tab cf 0 (lx_cons (kx_var 0) (lx_cons (kx_var 1) (lx_cons (kx_var 3) lx_nil)))) lx_nil) (sx_cons (sx_ret (kx_cst .non)) sx_nil) sx_nil) (sx_cons (sx_whl (kx_cmp .lt (kx_var 2) (kx_var 3)) (sx_cons (sx_set 4 (kx_bin .fdiv (kx_bin .add (kx_var 2) (kx_var 3)) (kx_cst (.int 2)))) (sx_cons (sx_ifs (kx_mth tab cf 0 (kx_mk tab cf 0 (lx_cons (kx_var 0) (lx_cons (kx_var 1) (lx_cons (kx_var 4) lx_nil)))) lx_nil) (sx_cons (sx_set 2 (kx_bin .add (kx_var 4) (kx_cst (.int 1)))) sx_nil) (sx_cons (sx_set 3 (kx_var 4)) sx_nil)) sx_nil))) (sx_cons (sx_ret (kx_var 2)) sx_nil)))))⟩
noncomputable def c24 : Cd := ⟨2, 4, fun cf => (sx_cons (sx_ifs (kx_isi tab (kx_var 1) [.list, .tuple]) (sx_cons (sx_ifs (kx_or (kx_cmp .ne (kx_isi tab (kx_var 0) [.list]) (kx_isi tab (kx_var 1) [.list])) (kx_cmp .ne (kx_isi tab (kx_var 0) [.tuple]) (kx_isi tab (kx_var 1) [.tuple]))) (sx_cons (sx_ret (kx_cst (.bl false))) sx_nil) sx_nil) (sx_cons (sx_ret (kx_and (kx_cmp .eq (kx_bi .len (lx_cons (kx_var 0) lx_nil)) (kx_bi .len (lx_cons (kx_var 1) lx_nil))) (kx_bi .all (lx_cons (kx_lc [2, 3] (kx_call cf 24 (lx_cons (kx_var 2) (lx_cons (kx_var 3) lx_nil))) (.tp [(.nm 2), (.nm 3)]) (tx_zip (kx_var 0) (kx_var 1)) lx_nil) lx_nil)))) sx_nil)) sx_nil) (sx_cons (sx_ifs (kx_or (kx_cmp .is (kx_var 1) (kx_cst .non)) (kx_isi tab (kx_var 1) [.bool, .str])) (sx_cons (sx_ret (kx_and (kx_cmp .eq (kx_var 0) (kx_var 1)) (kx_and (kx_cmp .eq (kx_isi tab (kx_var 0) [.bool]) (kx_isi tab (kx_var 1) [.bool])) (kx_cmp .eq (kx_cmp .is (kx_var 0) (kx_cst .non)) (kx_cmp .is (kx_var 1) (kx_cst .non)))))) sx_nil) sx_nil) (sx_cons (sx_ret (kx_and (kx_isi tab (kx_var 0) [.int]) (kx_and (kx_not (kx_isi tab (kx_var 0) [.bool])) (kx_cmp .eq (kx_var 0) (kx_var 1))))) sx_nil)))⟩
noncomputable def c25 : Cd := ⟨1, 2, fun cf => (sx_cons (sx_ret (kx_ite (kx_isi tab (kx_var 0) [.list, .tuple]) (kx_lc [1] (kx_call cf 25 (lx_cons (kx_var 1) lx_nil)) (.nm 1) (tx_ex (kx_var 0)) lx_nil) (kx_var 0))) sx_nil)⟩
noncomputable def c26 : Cd := ⟨0, 0, fun cf => (sx_cons (sx_ret (kx_tup (lx_cons (kx_tup (lx_cons (kx_cst (.int 4)) (lx_cons (kx_cst (.bl true)) (lx_cons (kx_tup (lx_cons (kx_cst (.int 0)) (lx_cons (kx_cst (.int 0)) (lx_cons (kx_cst (.int 0)) (lx_cons (kx_cst (.int 0)) (lx_cons (kx_cst (.int 0)) lx_nil)))))) lx_nil)))) (lx_cons (kx_tup (lx_cons (kx_tup (lx_cons (kx_cst (.int 4)) (lx_cons (kx_cst (.int 0)) (lx_cons (kx_cst (.int 3)) (lx_cons (kx_cst (.int 3)) (lx_cons (kx_cst (.int 0)) lx_nil)))))) (lx_cons (kx_tup (lx_cons (kx_cst (.int 2)) (lx_cons (kx_cst (.int 6)) (lx_cons (kx_cst (.int 1)) (lx_cons (kx_cst (.int 4)) (lx_cons (kx_cst (.int 1)) lx_nil)))))) lx_nil))) (lx_cons (kx_cst (.int 4)) (lx_cons (kx_tup (lx_cons (kx_cst (.int 10)) (lx_cons (kx_cst (.int 4)) (lx_cons (kx_tup (lx_cons (kx_cst (.int 5)) (lx_cons (kx_cst (.int 8)) lx_nil))) lx_nil)))) lx_nil)))))) sx_nil)⟩
noncomputable def c27 : Cd := ⟨3, 4, fun cf => (sx_cons (sx_tryx tab (sx_cons (sx_ret (kx_callv cf (kx_idx (kx_lst (lx_cons (kx_fnv 22) (lx_cons (kx_fnv 23) lx_nil))) (kx_var 0)) (lx_cons (kx_var 1) (lx_cons (kx_var 2) lx_nil)))) sx_nil) [⟨0, 3, [.s ⟨#[117, 110, 102, 105, 116]⟩, .b true], none⟩]) sx_nil)⟩
noncomputable def c28 : Cd := ⟨1, 1, fun cf => (sx_cons (sx_ret (kx_bin .add (kx_sl (kx_call cf 26 lx_nil) wx_none (wx_some (kx_cst (.int 3)))) (kx_tup (lx_cons (kx_var 0) lx_nil)))) sx_nil)⟩
noncomputable def c29 : Cd := ⟨0, 5, fun cf => (sx_cons (sx_swap [0, 1] (lx_cons (kx_call cf 26 lx_nil) (lx_cons (kx_call cf 28 (lx_cons (kx_cst .non) lx_nil)) lx_nil))) (sx_cons (sx_set 2 (kx_tup (lx_cons (kx_tup (lx_cons (kx_cst (.int 3)) (lx_cons (kx_cst (.bl false)) (lx_cons (kx_tup (lx_cons (kx_cst (.int 0)) (lx_cons (kx_cst (.int 1)) (lx_cons (kx_cst (.int 1)) (lx_cons (kx_cst (.int 1)) lx_nil))))) lx_nil)))) (lx_cons (kx_tup (lx_cons (kx_tup (lx_cons (kx_cst (.int 3)) (lx_cons (kx_cst (.int 0)) (lx_cons (kx_cst (.int 0)) (lx_cons (kx_cst (.int 5)) (lx_cons (kx_cst (.int 1)) lx_nil)))))) (lx_cons (kx_tup (lx_cons (kx_cst (.int 1)) (lx_cons (kx_cst (.int 2)) (lx_cons (kx_cst (.int 0)) (lx_cons (kx_cst (.int 9)) (lx_cons (kx_cst (.int 1)) lx_nil)))))) lx_nil))) (lx_cons (kx_cst (.int 1)) (lx_cons (kx_cst .non) lx_nil)))))) (sx_cons (sx_set 3 (kx_lst (lx_cons (kx_call cf 12 (lx_cons (kx_var 0) (lx_cons (kx_tup (lx_cons (kx_cst (.int 3)) (lx_cons (kx_cst (.int 4)) lx_nil))) (lx_cons (kx_cst (.int 4)) (lx_cons (kx_tup lx_nil) (lx_cons (kx_tup (lx_cons (kx_cst (.int 0)) (lx_cons (kx_cst (.int 0)) lx_nil))) lx_nil)))))) (lx_cons (kx_call cf 12 (lx_cons (kx_var 0) (lx_cons (kx_tup (lx_cons (kx_cst (.int 3)) (lx_cons (kx_cst (.int 4)) lx_nil))) (lx_cons (kx_cst (.int 4)) (lx_cons (kx_tup (lx_cons (kx_cst (.int 1)) lx_nil)) (lx_cons (kx_tup (lx_cons (kx_cst (.int 0)) (lx_cons (kx_cst (.int 0)) lx_nil))) lx_nil)))))) lx_nil)))) (sx_cons (sx_set 3 (kx_bin .add (kx_var 3) (kx_lst (lx_cons (kx_call cf 12 (lx_cons (kx_var 0) (lx_cons (kx_tup (lx_cons (kx_cst (.int 3)) (lx_cons (kx_cst (.int 4)) lx_nil))) (lx_cons (kx_cst (.int 5)) (lx_cons (kx_tup (lx_cons (kx_cst (.int 1)) lx_nil)) (lx_cons (kx_tup (lx_cons (kx_cst (.int 0)) (lx_cons (kx_cst (.int 0)) lx_nil))) lx_nil)))))) (lx_cons (kx_call cf 12 (lx_cons (kx_var 0) (lx_cons (kx_tup (lx_cons (kx_cst (.int 3)) (lx_cons (kx_cst (.int 4)) lx_nil))) (lx_cons (kx_cst (.int 5)) (lx_cons (kx_tup lx_nil) (lx_cons (kx_tup (lx_cons (kx_cst (.int 1)) (lx_cons (kx_cst (.int 0)) lx_nil))) lx_nil)))))) lx_nil))))) (sx_cons (sx_set 3 (kx_bin .add (kx_var 3) (kx_lst (lx_cons (kx_call cf 12 (lx_cons (kx_var 0) (lx_cons (kx_tup (lx_cons (kx_cst (.int 3)) (lx_cons (kx_cst (.int 4)) lx_nil))) (lx_cons (kx_cst (.int 5)) (lx_cons (kx_tup lx_nil) (lx_cons (kx_tup (lx_cons (kx_cst (.int 9)) (lx_cons (kx_cst (.int 0)) lx_nil))) lx_nil)))))) (lx_cons (kx_call cf 12 (lx_cons (kx_var 0) (lx_cons (kx_tup (lx_cons (kx_cst (.int 1)) (lx_cons (kx_cst (.int 6)) lx_nil))) (lx_cons (kx_cst (.int 5)) (lx_cons (kx_tup lx_nil) (lx_cons (kx_tup (lx_cons (kx_cst (.int 0)) (lx_cons (kx_cst (.int 0)) lx_nil))) lx_nil)))))) lx_nil))))) (sx_cons (sx_set 4 (kx_lst (lx_cons (kx_cst (.int 8)) (lx_cons (kx_cst (.int 0)) (lx_cons (kx_cst (.int 6)) (lx_cons (kx_cst (.int 4)) (lx_cons (kx_cst (.int 0)) (lx_cons (kx_cst (.int 2)) lx_nil)))))))) (sx_cons (sx_set 3 (kx_bin .add (kx_var 3) (kx_lst (lx_cons (kx_call cf 12 (lx_cons (kx_var 0) (lx_cons (kx_tup (lx_cons (kx_cst (.int 0)) (lx_cons (kx_cst (.int 5)) lx_nil))) (lx_cons (kx_bin .pow (kx_cst (.int 10)) (kx_cst (.int 6))) (lx_cons (kx_tup lx_nil) (lx_cons (kx_tup (lx_cons (kx_cst (.int 0)) (lx_cons (kx_cst (.int 2)) lx_nil))) lx_nil)))))) (lx_cons (kx_call cf 14 (lx_cons (kx_var 0) lx_nil)) (lx_cons (kx_call cf 14 (lx_cons (kx_var 2) lx_nil)) lx_nil)))))) (sx_cons (sx_set 4 (kx_bin .add (kx_var 4) (kx_lst (lx_cons (kx_cst (.int 4)) (lx_cons (kx_tup (lx_cons (kx_cst (.int 6)) (lx_cons (kx_cst (.int 8)) lx_nil))) (lx_cons (kx_tup (lx_cons (kx_cst (.int 0)) (lx_cons (kx_cst (.int 12)) lx_nil))) lx_nil)))))) (sx_cons (sx_set 3 (kx_bin .add (kx_var 3) (kx_lst (lx_cons (kx_call cf 13 (lx_cons (kx_var 0) (lx_cons (kx_tup (lx_cons (kx_cst (.int 3)) (lx_cons (kx_cst (.int 0)) lx_nil))) (lx_cons (kx_cst (.int 9)) (lx_cons (kx_cst (.int 5)) (lx_cons (kx_tup lx_nil) (lx_cons (kx_tup (lx_cons (kx_cst (.int 0)) (lx_cons (kx_cst (.int 0)) lx_nil))) lx_nil))))))) (lx_cons (kx_call cf 13 (lx_cons (kx_var 0) (lx_cons (kx_tup (lx_cons (kx_cst (.int 3)) (lx_cons (kx_cst (.int 0)) lx_nil))) (lx_cons (kx_cst (.int 9)) (lx_cons (kx_cst (.int 6)) (lx_cons (kx_tup lx_nil) (lx_cons (kx_tup (lx_cons (kx_cst (.int 0)) (lx_cons (kx_cst (.int 0)) lx_nil))) lx_nil))))))) lx_nil))))) (sx_cons (sx_set 3 (kx_bin .add (kx_var 3) (kx_lst (lx_cons (kx_call cf 13 (lx_cons (kx_var 1) (lx_cons (kx_tup (lx_cons (kx_cst (.int 3)) (lx_cons (kx_cst (.int 0)) lx_nil))) (lx_cons (kx_cst (.int 9)) (lx_cons (kx_cst (.int 0)) (lx_cons (kx_tup lx_nil) (lx_cons (kx_tup (lx_cons (kx_cst (.int 0)) (lx_cons (kx_cst (.int 0)) lx_nil))) lx_nil))))))) (lx_cons (kx_call cf 13 (lx_cons (kx_var 0) (lx_cons (kx_tup (lx_cons (kx_cst (.int 3)) (lx_cons (kx_cst (.int 0)) lx_nil))) (lx_cons (kx_cst (.int 9)) (lx_cons (kx_cst (.int 0)) (lx_cons (kx_tup (lx_cons (kx_cst (.int 0)) lx_nil)) (lx_cons (kx_tup (lx_cons (kx_cst (.int 0)) (lx_cons (kx_cst (.int 0)) lx_nil))) lx_nil))))))) lx_nil))))) (sx_cons (sx_set 4 (kx_bin .add (kx_var 4) (kx_lst (lx_cons (kx_cst (.bl false)) (lx_cons (kx_cst (.bl true)) (lx_cons (kx_cst (.bl true)) (lx_cons (kx_cst (.bl true)) lx_nil))))))) (sx_cons (sx_set 3 (kx_bin .add (kx_var 3) (kx_lst (lx_cons (kx_call cf 15 (lx_cons (kx_var 0) (lx_cons (kx_cst (.int 1)) (lx_cons (kx_cst (.int 9)) (lx_cons (kx_cst (.int 0)) lx_nil))))) (lx_cons (kx_call cf 15 (lx_cons (kx_var 0) (lx_cons (kx_cst (.int 2)) (lx_cons (kx_cst (.int 10)) (lx_cons (kx_cst (.int 2)) lx_nil))))) (lx_cons (kx_call cf 15 (lx_cons (kx_var 0) (lx_cons (kx_cst (.int 3)) (lx_cons (kx_cst (.int 10)) (lx_cons (kx_cst (.int 6)) lx_nil))))) lx_nil)))))) (sx_cons (sx_set 3 (kx_bin .add (kx_var 3) (kx_lst (lx_cons (kx_call cf 15 (lx_cons (kx_var 0) (lx_cons (kx_cst (.int 4)) (lx_cons (kx_cst (.int 3)) (lx_cons (kx_cst (.int 0)) lx_nil))))) (lx_cons (kx_call cf 15 (lx_cons (kx_var 0) (lx_cons (kx_cst (.int 7)) (lx_cons (kx_cst (.int 7)) (lx_cons (kx_cst (.int 6)) lx_nil))))) (lx_cons (kx_call cf 15 (lx_cons (kx_var 1) (lx_cons (kx_cst (.int 7)) (lx_cons (kx_cst (.int 0)) (lx_cons (kx_cst (.int 0)) lx_nil))))) lx_nil)))))) (sx_cons (sx_set 4 (kx_bin .add (kx_var 4) (kx_lst (lx_cons (kx_cst (.int 10)) (lx_cons (kx_cst (.int 10)) (lx_cons (kx_cst (.int 10)) (lx_cons (kx_cst (.int 8)) (lx_cons (kx_cst (.int 9)) (lx_cons (kx_cst (.int 0)) lx_nil))))))))) (sx_cons (sx_set 3 (kx_bin .add (kx_var 3) (kx_lst (lx_cons (kx_call cf 17 (lx_cons (kx_var 0) (lx_cons (kx_cst (.int 0)) lx_nil))) (lx_cons (kx_call cf 17 (lx_cons (kx_var 0) (lx_cons (kx_cst (.int 2)) lx_nil))) (lx_cons (kx_sl (kx_call cf 17 (lx_cons (kx_var 0) (lx_cons (kx_cst (.int 5)) lx_nil))) (wx_some (kx_cst (.int 3))) wx_none) (lx_cons (kx_call cf 17 (lx_cons (kx_var 1) (lx_cons (kx_cst (.int 1)) lx_nil))) lx_nil))))))) (sx_cons (sx_set 4 (kx_bin .add (kx_var 4) (kx_lst (lx_cons (kx_lst (lx_cons (kx_tup (lx_cons (kx_cst (.int 0)) (lx_cons (kx_tup (lx_cons (kx_cst (.int 0)) (lx_cons (kx_cst (.int 0)) lx_nil))) (lx_cons (kx_cst (.int 4)) lx_nil)))) lx_nil)) (lx_cons (kx_lst (lx_cons (kx_tup (lx_cons (kx_cst (.int 0)) (lx_cons (kx_tup (lx_cons (kx_cst (.int 0)) (lx_cons (kx_cst (.int 0)) lx_nil))) (lx_cons (kx_cst (.int 4)) lx_nil)))) (lx_cons (kx_tup (lx_cons (kx_cst (.int 1)) (lx_cons (kx_tup (lx_cons (kx_cst (.int 0)) (lx_cons (kx_cst (.int 0)) lx_nil))) (lx_cons (kx_cst (.int 9)) lx_nil)))) (lx_cons (kx_tup (lx_cons (kx_cst (.int 2)) (lx_cons (kx_tup (lx_cons (kx_cst (.int 3)) (lx_cons (kx_cst (.int 1)) lx_nil))) (lx_cons (kx_cst (.int 10)) lx_nil)))) lx_nil)))) (lx_cons (kx_lst (lx_cons (kx_tup (lx_cons (kx_cst (.int 3)) (lx_cons (kx_tup (lx_cons (kx_cst (.int 3)) (lx_cons (kx_cst (.int 0)) lx_nil))) (lx_cons (kx_cst (.int 10)) lx_nil)))) (lx_cons (kx_tup (lx_cons (kx_cst (.int 4)) (lx_cons (kx_tup (lx_cons (kx_cst (.int 3)) (lx_cons (kx_cst (.int 4)) lx_nil))) (lx_cons (kx_cst (.int 10)) lx_nil)))) (lx_cons (kx_tup (lx_cons (kx_cst (.int 5)) (lx_cons (kx_tup (lx_cons (kx_cst (.int 3)) (lx_cons (kx_cst (.int 0)) lx_nil))) (lx_cons (kx_cst (.int 7)) lx_nil)))) lx_nil)))) (lx_cons (kx_lst (lx_cons (kx_tup (lx_cons (kx_cst (.int 0)) (lx_cons (kx_tup (lx_cons (kx_cst (.int 0)) (lx_cons (kx_cst (.int 0)) lx_nil))) (lx_cons (kx_cst (.int 0)) lx_nil)))) (lx_cons (kx_tup (lx_cons (kx_cst (.int 1)) (lx_cons (kx_tup (lx_cons (kx_cst (.int 0)) (lx_cons (kx_cst (.int 0)) lx_nil))) (lx_cons (kx_cst (.int 0)) lx_nil)))) lx_nil))) lx_nil))))))) (sx_cons (sx_set 3 (kx_bin .add (kx_var 3) (kx_lst (lx_cons (kx_sl (kx_call cf 17 (lx_cons (kx_var 0) (lx_cons (kx_cst (.int 11)) lx_nil))) (wx_some (kx_cst (.int 9))) wx_none) (lx_cons (kx_call cf 18 (lx_cons (kx_var 0) (lx_cons (kx_cst (.int 16)) lx_nil))) (lx_cons (kx_call cf 18 (lx_cons (kx_var 0) (lx_cons (kx_cst (.int 9)) lx_nil))) (lx_cons (kx_call cf 18 (lx_cons (kx_var 1) (lx_cons (kx_cst (.int 30)) lx_nil))) lx_nil))))))) (sx_cons (sx_set 4 (kx_bin .add (kx_var 4) (kx_lst (lx_cons (kx_lst (lx_cons (kx_tup (lx_cons (kx_cst (.int 9)) (lx_cons (kx_tup (lx_cons (kx_cst (.int 3)) (lx_cons (kx_cst (.int 0)) lx_nil))) (lx_cons (kx_cst (.int 5)) lx_nil)))) (lx_cons (kx_tup (lx_cons (kx_cst (.int 9)) (lx_cons (kx_tup (lx_cons (kx_cst (.int 6)) (lx_cons (kx_cst (.int 1)) lx_nil))) (lx_cons (kx_cst (.int 10)) lx_nil)))) (lx_cons (kx_tup (lx_cons (kx_cst (.int 10)) (lx_cons (kx_tup (lx_cons (kx_cst (.int 3)) (lx_cons (kx_cst (.int 4)) lx_nil))) (lx_cons (kx_cst (.int 9)) lx_nil)))) lx_nil)))) (lx_cons (kx_tup (lx_cons (kx_cst (.int 9)) (lx_cons (kx_cst (.int 15)) lx_nil))) (lx_cons (kx_tup lx_nil) (lx_cons (kx_tup lx_nil) lx_nil))))))) (sx_cons (sx_set 3 (kx_bin .add (kx_var 3) (kx_lst (lx_cons (kx_call cf 19 (lx_cons (kx_var 0) (lx_cons (kx_cst (.int 7)) lx_nil))) (lx_cons (kx_call cf 19 (lx_cons (kx_var 1) (lx_cons (kx_cst (.int 10)) lx_nil))) (lx_cons (kx_call cf 19 (lx_cons (kx_call cf 28 (lx_cons (kx_tup (lx_cons (kx_cst (.int 0)) (lx_cons (kx_cst (.int 0)) (lx_cons (kx_tup (lx_cons (kx_cst (.int 0)) lx_nil)) lx_nil)))) lx_nil)) (lx_cons (kx_cst (.int 4)) lx_nil))) lx_nil)))))) (sx_cons (sx_ret (kx_call cf 24 (lx_cons (kx_var 3) (lx_cons (kx_bin .add (kx_var 4) (kx_lst (lx_cons (kx_tup (lx_cons (kx_cst (.int 0)) (lx_cons (kx_cst (.int 0)) (lx_cons (kx_cst (.int 2)) (lx_cons (kx_cst (.int 6)) (lx_cons (kx_cst (.int 8)) (lx_cons (kx_cst (.int 6)) (lx_cons (kx_cst (.int 8)) lx_nil)))))))) (lx_cons (kx_tup (lx_cons (kx_cst (.int 0)) (lx_cons (kx_cst (.int 0)) (lx_cons (kx_cst (.int 2)) (lx_cons (kx_cst (.int 6)) (lx_cons (kx_cst (.int 8)) (lx_cons (kx_cst (.int 6)) (lx_cons (kx_cst (.int 8)) (lx_cons (kx_cst (.int 6)) (lx_cons (kx_cst (.int 8)) (lx_cons (kx_cst (.int 6)) lx_nil))))))))))) (lx_cons (kx_tup (lx_cons (kx_cst (.int 0)) (lx_cons (kx_cst (.int 0)) (lx_cons (kx_cst (.int 2)) (lx_cons (kx_cst (.int 6)) lx_nil))))) lx_nil))))) lx_nil)))) sx_nil))))))))))))))))))))⟩
noncomputable def c30 : Cd := ⟨0, 9, fun cf => (sx_cons (sx_unp (ux_cons (ux_nm 0) (ux_cons (ux_nm 1) (ux_cons (ux_nm 2) ux_nil))) (kx_tup (lx_cons (kx_call cf 26 lx_nil) (lx_cons (kx_call cf 28 (lx_cons (kx_tup (lx_cons (kx_cst (.int 1)) (lx_cons (kx_cst (.int 0)) (lx_cons (kx_tup (lx_cons (kx_cst (.int 0)) lx_nil)) lx_nil)))) lx_nil)) (lx_cons (kx_call cf 28 (lx_cons (kx_tup (lx_cons (kx_cst (.int 2)) (lx_cons (kx_cst (.int 0)) (lx_cons (kx_tup (lx_cons (kx_cst (.int 0)) lx_nil)) lx_nil)))) lx_nil)) lx_nil))))) (sx_cons (sx_set 3 (kx_lst (lx_cons (kx_call cf 20 (lx_cons (kx_var 0) (lx_cons (kx_cst (.int 10)) lx_nil))) (lx_cons (kx_call cf 20 (lx_cons (kx_var 0) (lx_cons (kx_cst (.int 9)) lx_nil))) (lx_cons (kx_call cf 20 (lx_cons (kx_var 0) (lx_cons (kx_cst (.int 0)) lx_nil))) (lx_cons (kx_call cf 20 (lx_cons (kx_var 1) (lx_cons (kx_cst (.int 3)) lx_nil))) (lx_cons (kx_call cf 20 (lx_cons (kx_var 1) (lx_cons (kx_cst (.int 2)) lx_nil))) lx_nil))))))) (sx_cons (sx_set 3 (kx_bin .add (kx_var 3) (kx_lst (lx_cons (kx_call cf 20 (lx_cons (kx_call cf 28 (lx_cons (kx_cst .non) lx_nil)) (lx_cons (kx_cst (.int 30)) lx_nil))) (lx_cons (kx_call cf 21 (lx_cons (kx_call cf 28 (lx_cons (kx_cst .non) lx_nil)) (lx_cons (kx_cst (.int 30)) (lx_cons (kx_tup (lx_cons (kx_cst (.int 4)) (lx_cons (kx_cst (.int 9)) lx_nil))) lx_nil)))) lx_nil))))) (sx_cons (sx_set 4 (kx_lst (lx_cons (kx_tup (lx_cons (kx_cst (.int 4)) (lx_cons (kx_cst (.int 9)) lx_nil))) (lx_cons (kx_cst .non) (lx_cons (kx_cst .non) (lx_cons (kx_tup (lx_cons (kx_cst (.int 0)) (lx_cons (kx_cst (.int 2)) lx_nil))) (lx_cons (kx_cst .non) (lx_cons (kx_cst .non) (lx_cons (kx_cst (.bl false)) lx_nil))))))))) (sx_cons (sx_set 5 (kx_bin .add (kx_lc [7] (kx_call cf 21 (lx_cons (kx_var 1) (lx_cons (kx_cst (.int 3)) (lx_cons (kx_var 7) lx_nil)))) (.nm 7) (tx_ex (kx_tup (lx_cons (kx_tup (lx_cons (kx_cst (.int 0)) (lx_cons (kx_cst (.int 2)) lx_nil))) (lx_cons (kx_tup (lx_cons (kx_cst (.int 1)) (lx_cons (kx_cst (.int 2)) lx_nil))) (lx_cons (kx_tup (lx_cons (kx_cst (.int 2)) (lx_cons (kx_cst (.int 2)) lx_nil))) lx_nil))))) lx_nil) (kx_lst (lx_cons (kx_call cf 21 (lx_cons (kx_var 0) (lx_cons (kx_cst (.int 10)) (lx_cons (kx_tup (lx_cons (kx_cst (.int 4)) (lx_cons (kx_cst (.int 9)) lx_nil))) lx_nil)))) lx_nil)))) (sx_cons (sx_set 6 (kx_lst (lx_cons (kx_tup (lx_cons (kx_cst (.int 9)) (lx_cons (kx_cst (.int 4)) lx_nil))) (lx_cons (kx_tup (lx_cons (kx_cst (.int 5)) (lx_cons (kx_cst (.int 9)) lx_nil))) (lx_cons (kx_tup (lx_cons (kx_cst (.int 3)) (lx_cons (kx_cst (.int 9)) lx_nil))) (lx_cons (kx_tup (lx_cons (kx_cst (.int 4)) (lx_cons (kx_cst (.int 8)) lx_nil))) (lx_cons (kx_tup (lx_cons (kx_cst (.int 9)) (lx_cons (kx_cst (.int 9)) lx_nil))) (lx_cons (kx_lst (lx_cons (kx_cst (.int 4)) (lx_cons (kx_cst (.int 9)) lx_nil))) (lx_cons (kx_tup (lx_cons (kx_cst (.int 4)) (lx_cons (kx_cst (.int 9)) (lx_cons (kx_cst (.int 0)) lx_nil)))) (lx_cons (kx_tup (lx_cons (kx_cst (.int 4)) lx_nil)) (lx_cons (kx_tup (lx_cons (kx_cst (.int 4)) (lx_cons (kx_cst (.int 10)) lx_nil))) (lx_cons (kx_tup (lx_cons (kx_neg (kx_cst (.int 1))) (lx_cons (kx_cst (.int 9)) lx_nil))) (lx_cons (kx_tup (lx_cons (kx_cst (.int 4)) (lx_cons (kx_cst .non) lx_nil))) (lx_cons (kx_tup (lx_cons (kx_cst (.bl true)) (lx_cons (kx_cst (.int 9)) lx_nil))) lx_nil)))))))))))))) (sx_cons (sx_set 6 (kx_bin .add (kx_var 6) (kx_lst (lx_cons (kx_cst .non) (lx_cons (kx_cst (.str ⟨#[97, 98]⟩)) (lx_cons (kx_cst (.int 4)) (lx_cons (kx_tup lx_nil) (lx_cons (kx_tup (lx_cons (kx_bin .pow (kx_cst (.int 10)) (kx_cst (.int 30))) (lx_cons (kx_bin .pow (kx_cst (.int 10)) (kx_cst (.int 30))) lx_nil))) (lx_cons (kx_tup (lx_cons (kx_tup (lx_cons (kx_cst (.int 4)) (lx_cons (kx_cst (.int 9)) lx_nil))) (lx_cons (kx_tup (lx_cons (kx_cst (.int 4)) (lx_cons (kx_cst (.int 9)) lx_nil))) lx_nil))) (lx_cons (kx_tup (lx_cons (kx_cst (.str ⟨#[52]⟩)) (lx_cons (kx_cst (.str ⟨#[57]⟩)) lx_nil))) lx_nil)))))))))) (sx_cons (sx_set 3 (kx_bin .add (kx_var 3) (kx_lst (lx_cons (kx_var 5) (lx_cons (kx_lc [7] (kx_call cf 21 (lx_cons (kx_var 0) (lx_cons (kx_cst (.int 10)) (lx_cons (kx_var 7) lx_nil)))) (.nm 7) (tx_ex (kx_var 6)) lx_nil) (lx_cons (kx_call cf 21 (lx_cons (kx_var 0) (lx_cons (kx_cst (.int 0)) (lx_cons (kx_tup (lx_cons (kx_cst (.int 0)) (lx_cons (kx_cst (.int 0)) lx_nil))) lx_nil)))) (lx_cons (kx_call cf 21 (lx_cons (kx_var 1) (lx_cons (kx_cst (.int 2)) (lx_cons (kx_tup (lx_cons (kx_cst (.int 0)) (lx_cons (kx_cst (.int 2)) lx_nil))) lx_nil)))) lx_nil))))))) (sx_cons (sx_set 4 (kx_bin .add (kx_var 4) (kx_lst (lx_cons (kx_bin .mul (kx_lst (lx_cons (kx_cst (.bl true)) lx_nil)) (kx_cst (.int 4))) (lx_cons (kx_bin .mul (kx_lst (lx_cons (kx_cst (.bl false)) lx_nil)) (kx_cst (.int 19))) (lx_cons (kx_cst (.bl false)) (lx_cons (kx_cst (.bl false)) lx_nil))))))) (sx_cons (sx_set 3 (kx_bin .add (kx_bin .add (kx_var 3) (kx_lc [8] (kx_call cf 27 (lx_cons (kx_var 8) (lx_cons (kx_var 0) (lx_cons (kx_cst (.int 10)) lx_nil)))) (.nm 8) (tx_ex (kx_tup (lx_cons (kx_cst (.int 0)) (lx_cons (kx_cst (.int 1)) lx_nil)))) lx_nil)) (kx_lc [8] (kx_call cf 27 (lx_cons (kx_var 8) (lx_cons (kx_var 0) (lx_cons (kx_cst (.int 9)) lx_nil)))) (.nm 8) (tx_ex (kx_tup (lx_cons (kx_cst (.int 0)) (lx_cons (kx_cst (.int 1)) lx_nil)))) lx_nil))) (sx_cons (sx_set 4 (kx_bin .add (kx_var 4) (kx_lst (lx_cons (kx_cst (.int 11)) (lx_cons (kx_cst (.int 1)) (lx_cons (kx_cst (.int 10)) (lx_cons (kx_cst (.int 0)) lx_nil))))))) (sx_cons (sx_set 3 (kx_bin .add (kx_bin .add (kx_var 3) (kx_lc [8] (kx_call cf 27 (lx_cons (kx_var 8) (lx_cons (kx_var 1) (lx_cons (kx_cst (.int 3)) lx_nil)))) (.nm 8) (tx_ex (kx_tup (lx_cons (kx_cst (.int 0)) (lx_cons (kx_cst (.int 1)) lx_nil)))) lx_nil)) (kx_lc [8] (kx_call cf 27 (lx_cons (kx_var 8) (lx_cons (kx_var 2) (lx_cons (kx_cst (.int 3)) lx_nil)))) (.nm 8) (tx_ex (kx_tup (lx_cons (kx_cst (.int 0)) (lx_cons (kx_cst (.int 1)) lx_nil)))) lx_nil))) (sx_cons (sx_set 4 (kx_bin .add (kx_var 4) (kx_lst (lx_cons (kx_cst .non) (lx_cons (kx_cst .non) (lx_cons (kx_cst .non) (lx_cons (kx_cst (.int 1)) lx_nil))))))) (sx_cons (sx_set 3 (kx_bin .add (kx_var 3) (kx_lst (lx_cons (kx_call cf 27 (lx_cons (kx_cst (.int 0)) (lx_cons (kx_call cf 28 (lx_cons (kx_tup (lx_cons (kx_cst (.int 2)) (lx_cons (kx_cst (.int 2)) (lx_cons (kx_tup (lx_cons (kx_cst (.int 0)) lx_nil)) lx_nil)))) lx_nil)) (lx_cons (kx_cst (.int 3)) lx_nil)))) (lx_cons (kx_call cf 27 (lx_cons (kx_cst (.int 0)) (lx_cons (kx_call cf 28 (lx_cons (kx_tup (lx_cons (kx_cst (.int 7)) (lx_cons (kx_cst (.int 2)) (lx_cons (kx_tup (lx_cons (kx_cst (.int 0)) lx_nil)) lx_nil)))) lx_nil)) (lx_cons (kx_cst (.int 3)) lx_nil)))) lx_nil))))) (sx_cons (sx_set 3 (kx_bin .add (kx_bin .add (kx_var 3) (kx_lst (lx_cons (kx_call cf 27 (lx_cons (kx_cst (.int 0)) (lx_cons (kx_var 0) (lx_cons (kx_cst (.int 0)) lx_nil)))) (lx_cons (kx_call cf 27 (lx_cons (kx_cst (.int 1)) (lx_cons (kx_var 0) (lx_cons (kx_cst (.int 0)) lx_nil)))) lx_nil)))) (kx_lc [8] (kx_call cf 27 (lx_cons (kx_var 8) (lx_cons (kx_call cf 28 (lx_cons (kx_cst .non) lx_nil)) (lx_cons (kx_cst (.int 4)) lx_nil)))) (.nm 8) (tx_ex (kx_tup (lx_cons (kx_cst (.int 0)) (lx_cons (kx_cst (.int 1)) lx_nil)))) lx_nil))) (sx_cons (sx_set 3 (kx_bin .add (kx_var 3) (kx_lc [8] (kx_call cf 27 (lx_cons (kx_var 8) (lx_cons (kx_call cf 28 (lx_cons (kx_cst .non) lx_nil)) (lx_cons (kx_cst (.int 0)) lx_nil)))) (.nm 8) (tx_ex (kx_tup (lx_cons (kx_cst (.int 0)) (lx_cons (kx_cst (.int 1)) lx_nil)))) lx_nil))) (sx_cons (sx_ret (kx_call cf 24 (lx_cons (kx_var 3) (lx_cons (kx_bin .add (kx_bin .add (kx_var 4) (kx_lst (lx_cons (kx_cst (.int 2)) (lx_cons (kx_cst (.int 2)) (lx_cons (kx_cst (.int 4)) (lx_cons (kx_cst (.int 0)) lx_nil)))))) (kx_bin .mul (kx_lst (lx_cons (kx_lst (lx_cons (kx_cst (.str ⟨#[117, 110, 102, 105, 116]⟩)) (lx_cons (kx_cst (.bl true)) lx_nil))) lx_nil)) (kx_cst (.int 4)))) lx_nil)))) sx_nil)))))))))))))))))⟩
noncomputable def c31 : Cd := ⟨0, 4, fun cf => (sx_cons (sx_swap [0, 1] (lx_cons (kx_call cf 25 (lx_cons (kx_call cf 26 lx_nil) lx_nil)) (lx_cons (kx_call cf 17 (lx_cons (kx_call cf 26 lx_nil) (lx_cons (kx_cst (.int 1)) lx_nil))) lx_nil))) (sx_cons (sx_exp (kx_bm .append (kx_var 1) (lx_cons (kx_tup lx_nil) lx_nil))) (sx_cons (sx_set 2 (kx_lst (lx_cons (kx_callk cf 12 lx_nil [4, 3, 2, 1, 0] (lx_cons (kx_lst (lx_cons (kx_cst (.int 1)) (lx_cons (kx_cst (.int 0)) lx_nil))) (lx_cons (kx_lst (lx_cons (kx_cst (.int 1)) lx_nil)) (lx_cons (kx_cst (.int 5)) (lx_cons (kx_lst (lx_cons (kx_cst (.int 3)) (lx_cons (kx_cst (.int 4)) lx_nil))) (lx_cons (kx_var 0) lx_nil)))))) (lx_cons (kx_callk cf 14 lx_nil [0] (lx_cons (kx_var 0) lx_nil)) lx_nil)))) (sx_cons (sx_set 2 (kx_bin .add (kx_var 2) (kx_lst (lx_cons (kx_callk cf 13 lx_nil [5, 4, 3, 2, 1, 0] (lx_cons (kx_lst (lx_cons (kx_cst (.int 0)) (lx_cons (kx_cst (.int 0)) lx_nil))) (lx_cons (kx_lst lx_nil) (lx_cons (kx_cst (.int 5)) (lx_cons (kx_cst (.int 9)) (lx_cons (kx_lst (lx_cons (kx_cst (.int 3)) (lx_cons (kx_cst (.int 0)) lx_nil))) (lx_cons (kx_var 0) lx_nil))))))) lx_nil)))) (sx_cons (sx_set 2 (kx_bin .add (kx_var 2) (kx_lst (lx_cons (kx_callk cf 15 lx_nil [3, 2, 1, 0] (lx_cons (kx_cst (.int 0)) (lx_cons (kx_cst (.int 9)) (lx_cons (kx_cst (.int 1)) (lx_cons (kx_var 0) lx_nil))))) (lx_cons (kx_callk cf 17 lx_nil [1, 0] (lx_cons (kx_cst (.int 1)) (lx_cons (kx_var 0) lx_nil))) lx_nil))))) (sx_cons (sx_set 2 (kx_bin .add (kx_var 2) (kx_lst (lx_cons (kx_callk cf 18 lx_nil [1, 0] (lx_cons (kx_cst (.int 10)) (lx_cons (kx_var 0) lx_nil))) (lx_cons (kx_callk cf 19 lx_nil [1, 0] (lx_cons (kx_cst (.int 3)) (lx_cons (kx_var 0) lx_nil))) (lx_cons (kx_callk cf 20 lx_nil [1, 0] (lx_cons (kx_cst (.int 10)) (lx_cons (kx_var 0) lx_nil))) lx_nil)))))) (sx_cons (sx_set 2 (kx_bin .add (kx_var 2) (kx_lst (lx_cons (kx_callk cf 21 lx_nil [2, 1, 0] (lx_cons (kx_tup (lx_cons (kx_cst (.int 4)) (lx_cons (kx_cst (.int 9)) lx_nil))) (lx_cons (kx_cst (.int 10)) (lx_cons (kx_var 0) lx_nil)))) (lx_cons (kx_callk cf 22 lx_nil [1, 0] (lx_cons (kx_cst (.int 10)) (lx_cons (kx_var 0) lx_nil))) lx_nil))))) (sx_cons (sx_set 2 (kx_bin .add (kx_var 2) (kx_lst (lx_cons (kx_callk cf 23 lx_nil [1, 0] (lx_cons (kx_cst (.int 10)) (lx_cons (kx_var 0) lx_nil))) (lx_cons (kx_var 0) lx_nil))))) (sx_cons (sx_set 3 (kx_lst (lx_cons (kx_cst (.int 4)) (lx_cons (kx_tup (lx_cons (kx_cst (.int 6)) (lx_cons (kx_cst (.int 8)) lx_nil))) (lx_cons (kx_cst (.bl false)) (lx_cons (kx_cst (.int 10)) (lx_cons (kx_lst (lx_cons (kx_tup (lx_cons (kx_cst (.int 0)) (lx_cons (kx_tup (lx_cons (kx_cst (.int 0)) (lx_cons (kx_cst (.int 0)) lx_nil))) (lx_cons (kx_cst (.int 4)) lx_nil)))) (lx_cons (kx_tup (lx_cons (kx_cst (.int 1)) (lx_cons (kx_tup (lx_cons (kx_cst (.int 0)) (lx_cons (kx_cst (.int 0)) lx_nil))) (lx_cons (kx_cst (.int 9)) lx_nil)))) lx_nil))) (lx_cons (kx_tup (lx_cons (kx_cst (.int 9)) lx_nil)) (lx_cons (kx_tup (lx_cons (kx_cst (.int 0)) (lx_cons (kx_cst (.int 0)) (lx_cons (kx_cst (.int 2)) lx_nil)))) (lx_cons (kx_tup (lx_cons (kx_cst (.int 4)) (lx_cons (kx_cst (.int 9)) lx_nil))) (lx_cons (kx_cst (.bl true)) (lx_cons (kx_cst (.int 11)) (lx_cons (kx_cst (.int 1)) lx_nil))))))))))))) (sx_cons (sx_ret (kx_call cf 24 (lx_cons (kx_var 2) (lx_cons (kx_bin .add (kx_var 3) (kx_lst (lx_cons (kx_call cf 25 (lx_cons (kx_call cf 26 lx_nil) lx_nil)) lx_nil))) lx_nil)))) sx_nil))))))))))⟩
noncomputable def c32 : Cd := ⟨1, 1, fun cf => (sx_cons (sx_ret (kx_and (kx_call cf 29 lx_nil) (kx_and (kx_call cf 30 lx_nil) (kx_call cf 31 lx_nil)))) sx_nil)⟩
noncomputable def c33 : Cd := ⟨4, 8, fun cf => (sx_cons (sx_unp (ux_cons (ux_fld (kx_var 0) 3) (ux_cons (ux_fld (kx_var 0) 2) (ux_cons (ux_nm 4) ux_nil))) (kx_idx (kx_var 1) (kx_cst (.int 3)))) (sx_cons (sx_unp (ux_cons (ux_fld (kx_var 0) 1) (ux_cons (ux_fld (kx_var 0) 0) ux_nil)) (kx_tup (lx_cons (kx_lst lx_nil) (lx_cons (kx_lst lx_nil) lx_nil)))) (sx_cons (sx_set 5 (kx_cst (.int 0))) (sx_cons (sx_fors (.tp [(.nm 6), (.nm 7)]) (tx_enum (kx_call cf 19 (lx_cons (kx_var 1) (lx_cons (kx_var 2) lx_nil)))) (sx_cons (sx_exp (kx_bm .append (kx_att (kx_var 0) 1) (lx_cons (kx_var 5) lx_nil))) (sx_cons (sx_exp (kx_bm .append (kx_att (kx_var 0) 0) (lx_cons (kx_bin .add (kx_var 5) (kx_var 7)) lx_nil))) (sx_cons (sx_aug 5 .add (kx_bin .sub (kx_bin .sub (kx_var 7) (kx_idx (kx_var 4) (kx_bin .mod (kx_var 6) (kx_bi .len (lx_cons (kx_var 4) lx_nil))))) (kx_var 3))) sx_nil)))) sx_nil))))⟩
noncomputable def c34 : Cd := ⟨2, 2, fun cf => (sx_cons (sx_ifs (kx_cmp .eq (kx_var 1) (kx_cst (.int 0))) (sx_cons (sx_ret (kx_att (kx_var 0) 2)) sx_nil) sx_nil) (sx_cons (sx_ret (kx_att (kx_var 0) 3)) sx_nil))⟩
noncomputable def c35 : Cd := ⟨1, 4, fun cf => (sx_cons (sx_swap [1, 2] (lx_cons (kx_lst lx_nil) (lx_cons (kx_cst .non) lx_nil))) (sx_cons (sx_fors (.nm 3) (tx_revR1 (kx_bi .len (lx_cons (kx_att (kx_var 0) 1) lx_nil))) (sx_cons (sx_ifs (kx_or (kx_cmp .is (kx_var 2) (kx_cst .non)) (kx_cmp .gt (kx_idx (kx_att (kx_var 0) 0) (kx_var 3)) (kx_var 2))) (sx_cons (sx_set 2 (kx_idx (kx_att (kx_var 0) 0) (kx_var 3))) sx_nil) sx_nil) (sx_cons (sx_exp (kx_bm .append (kx_var 1) (lx_cons (kx_bin .sub (kx_var 2) (kx_idx (kx_att (kx_var 0) 1) (kx_var 3))) lx_nil))) sx_nil))) (sx_cons (sx_ret (kx_slr (kx_var 1))) sx_nil)))⟩
noncomputable def c36 : Cd := ⟨1, 3, fun cf => (sx_cons (sx_ret (kx_lc [1, 2] (kx_var 1) (.tp [(.nm 1), (.nm 2)]) (tx_enum (kx_mth tab cf 2 (kx_var 0) lx_nil)) (lx_cons (kx_cmp .gt (kx_var 2) (kx_mth tab cf 1 (kx_var 0) (lx_cons (kx_var 1) lx_nil))) lx_nil))) sx_nil)⟩
noncomputable def cs : List Cd := [c0, c1, c2, c3, c4, c5, c6, c7, c8, c9, c10, c11, c12, c13, c14, c15, c16, c17, c18, c19, c20, c21, c22, c23, c24, c25, c26, c27, c28, c29, c30, c31, c32, c33, c34, c35, c36]
theorem cs_eq : cs = fns.map (cdOf tab) := by kernel_rfl
theorem b29 : isT (cfnC cs 30 29 [] h0) = true := by kernel_rfl
theorem a29 : isT (cfnP tab fns 30 29 [] h0) = true := by
  rw [← cfnC_eq cs_eq]
  exact b29
theorem b30 : isT (cfnC cs 30 30 [] h0) = true := by kernel_rfl
theorem a30 : isT (cfnP tab fns 30 30 [] h0) = true := by
  rw [← cfnC_eq cs_eq]
  exact b30
theorem b31 : isT (cfnC cs 30 31 [] h0) = true := by kernel_rfl
theorem a31 : isT (cfnP tab fns 30 31 [] h0) = true := by
  rw [← cfnC_eq cs_eq]
  exact b31
abbrev ml : List Nat := [29, 30, 31]
noncomputable abbrev cM : Nat → List IV → Hh → Rk.R IV := memo (ml.map fun i => (i, true)) (cfnP tab (ds.map Df.fd) 30)
theorem hA : ∀ i ∈ ml, isT (cfnP tab fns 30 i [] h0) = true ∧ ∀ e, at? ds i = some e → e.ps.length = 0 := by
  intro i hi
  rcases (by simpa [ml] using hi : i = 29 ∨ i = 30 ∨ i = 31) with rfl | rfl | rfl
  · exact ⟨a29, fun e he => by
      have z : d29 = e := Option.some.inj he
      subst z
      rfl⟩
  · exact ⟨a30, fun e he => by
      have z : d30 = e := Option.some.inj he
      subst z
      rfl⟩
  · exact ⟨a31, fun e he => by
      have z : d31 = e := Option.some.inj he
      subst z
      rfl⟩
theorem ans (ns : List Int) (_ : ns.length ≤ 63) : ∃ h', Rk.body tab cM d32.fd [uS ns] h0 = .ok (.bl true) h' := ⟨_, by rfl⟩
end K52
open PySem PySem.W PySem.Calls PyProof.Rows
theorem PySem.Challenge.cw_manrods_k52_weights_steam_and_lacks_by_h_holds : PySem.Challenge.rw_manrods_k52_weights_steam_and_lacks_by_h.Holds := by
  w_on; o_law
  refine HandSHeadRun.head_any (r := OpenLaw.row PySem.Challenge.rw_manrods_k52_weights_steam_and_lacks_by_h) (q := view (OpenLaw.row PySem.Challenge.rw_manrods_k52_weights_steam_and_lacks_by_h).prog [40]) (H := K52.hk) (ob := K52.ob) (M := 4000) (loose := [(Str.ofString "__name__"), (Str.ofString "is_number"), (Str.ofString "is_tuple"), (Str.ofString "Unfit"), (Str.ofString "rising_rod"), (Str.ofString "dry_held"), (Str.ofString "brings"), (Str.ofString "_lift_all"), (Str.ofString "_spill"), (Str.ofString "water_told"), (Str.ofString "behind_rest"), (Str.ofString "plain_rest"), (Str.ofString "held_rows"), (Str.ofString "heights_of"), (Str.ofString "stroke_weight"), (Str.ofString "is_stroke_made"), (Str.ofString "greatest_weights"), (Str.ofString "steam_behind"), (Str.ofString "_lone_behind"), (Str.ofString "lone_rows"), (Str.ofString "missed_strokes"), (Str.ofString "weights_ahead"), (Str.ofString "Balance"), (Str.ofString "first_lack"), (Str.ofString "is_lack"), (Str.ofString "least_room"), (Str.ofString "least_more"), (Str.ofString "_law_same"), (Str.ofString "_law_lists"), (Str.ofString "_law_mill"), (Str.ofString "_law_heard"), (Str.ofString "_law_fired"), (Str.ofString "_law_strokes_right"), (Str.ofString "_law_lacks_right"), (Str.ofString "_law_names_right")]) (d := HandSHeadRun.topDef (OpenLaw.row PySem.Challenge.rw_manrods_k52_weights_steam_and_lacks_by_h).prog 40) (kwd := []) K52.ob_eq
    (by kernel_rfl) (fun s => by kernel_rfl) K52.run (by kernel_rfl) (by kernel_rfl) (by kernel_rfl) (by rfl) (by first | assumption | decide +kernel) (by decide +kernel) ⟨rfl, rfl, rfl, rfl, rfl, by decide +kernel⟩ ?hw ?hc
  case hw => w_witness2
  case hc =>
    refine LamX.walk_ofTsE (l := PySem.Challenge.rw_manrods_k52_weights_steam_and_lacks_by_h) (n := 63) (k := 64) (x := "script") (CX := fun w => L2.CX (PySem.Challenge.rw_manrods_k52_weights_steam_and_lacks_by_h).prog w) rfl (by decide) (by kernel_rfl) ⟨rfl, by decide, by decide⟩ ?F (fun w H s e s' => Rk.cx_false H s e s')
    intro w mg fa h Y G hmg0
    obtain ⟨K, KX, c⟩ := Y
    have hmg : mg K52.d32.name = some (.ref fa) := by
      have e : (HandSHeadRun.topDef (OpenLaw.row PySem.Challenge.rw_manrods_k52_weights_steam_and_lacks_by_h).prog 40).name = K52.d32.name := by kernel_rfl
      rw [← e]
      exact hmg0
    exact ⟨K, KX, Rk.law_at (p := K52.pd K) (n := 30) (fun base => K52.tp (P := (PySem.Challenge.rw_manrods_k52_weights_steam_and_lacks_by_h).prog) KX G c base) (Rk.memo_hl rfl K52.hA) (i := 32) (d := K52.d32) rfl rfl rfl hmg K52.ans⟩
