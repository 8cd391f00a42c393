import PyProof.Rows.All
import Wide.All
import OpenK.AllK
import Wide.FinOn
import HandS.ForMost
import HandS.Wide
import HandS.IsInst
import HandS.Style
import HandS.CallSlots
import HandS.TupAny
import HandS.Zip
import HandS.SetKeys
import HandS.More
import HandS.Deep
import HandS.CallLocal
import HandS.SetBool
import HandS.Strs
import KE.KDictPairs
import HandS.TupLe
import HandS.Words
import HandS.Defaults
import HandS.Head0
import HandS.Head1
import HandS.Head2
import HandS.HeadEnd
import HandS.HeadHook1
import HandS.HeadHook2
import HandS.HeadHook3
import HandS.HeadHook4
import KE.KEqSeq
import PySem.Challenge.RW_strangemill_k72_bounds_and_words
set_option Elab.async false
set_option maxRecDepth 100000
set_option maxHeartbeats 4000001
/-! A small language of my own (ir): what a def's body computes over plain data and a store of lists and dicts. -/
namespace Ir
open PySem

/-- a value: plain data (no list of its own), an object of the store, a def of the text -/
inductive D where
  | p (d : PyData)
  | ref (i : Nat)
  | fn (i : Nat)
inductive MO where
  | lst (ds : List D)
  | dic (kvs : List (Sum Int Str × D))
abbrev Sto := List MO
structure Ex where
  cls : Nat
  args : List PyData
inductive Out (α : Type) where
  | val (a : α) (S : Sto)
  | exc (e : Ex) (S : Sto)
  | bad
def M (α : Type) := Sto → Out α
def M.pure {α : Type} (a : α) : M α := fun S => .val a S
def M.bind {α β : Type} (m : M α) (f : α → M β) : M β := fun S => match m S with
  | .val a S' => f a S'
  | .exc e S' => .exc e S'
  | .bad => .bad
def M.bad {α : Type} : M α := fun _ => .bad
def M.opt {α : Type} (o : Option α) : M α := fun S => match o with
  | some a => .val a S
  | none => .bad
def wp {α : Type} (o : Out α) (ok : α → Sto → Prop) (ex : Ex → Sto → Prop) : Prop := match o with
  | .val a S => ok a S
  | .exc e S => ex e S
  | .bad => False
theorem wp_bind {α β : Type} {m : M α} {f : α → M β} {S : Sto} {ok : β → Sto → Prop} {ex : Ex → Sto → Prop} (h : wp (M.bind m f S) ok ex) : wp (m S) (fun a S' => wp (f a S') ok ex) ex := by
  unfold M.bind at h
  cases e : m S with
  | val a S' => rw [e] at h; exact h
  | exc x S' => rw [e] at h; exact h
  | bad => rw [e] at h; exact h
theorem wp_mono {α : Type} {o : Out α} {ok ok' : α → Sto → Prop} {ex ex' : Ex → Sto → Prop} (h : wp o ok ex) (h1 : ∀ a S, ok a S → ok' a S) (h2 : ∀ e S, ex e S → ex' e S) : wp o ok' ex' := by
  cases o with
  | val a S => exact h1 a S h
  | exc e S => exact h2 e S h
  | bad => exact h

/-! ### references: below n -/
def rb (n : Nat) : D → Bool
  | .ref j => decide (j < n)
  | _ => true
def rbO (n : Nat) : MO → Bool
  | .lst ds => ds.all (rb n)
  | .dic kvs => kvs.all fun kv => rb n kv.2

inductive BOp where
  | add | sub | mul | fdiv | mod | pow
inductive COp where
  | eq | ne | lt | le | gt | ge | in_ | notin | is_ | isnot
inductive Ty where
  | int | bool | str | tuple
mutual
inductive E where
  | var (i : Nat)
  | cst (d : D)
  | bin (o : BOp) (a b : E)
  | cmp (o : COp) (a b : E)
  | chain (o o' : COp) (a b c : E)
  | and (a b : E)
  | or (a b : E)
  | not (a : E)
  | ifx (t a b : E)
  | neg (a : E)
  | call (f : Nat) (as : Es)
  | callv (i : Nat) (as : Es)
  | tup (as : Es)
  | lst (l : L)
  | idx (a b : E)
  | idxL (l : L) (b : E)
  | slice (a : E) (lo hi : Option Int)
  | len (a : E)
  | lenset (a : E)
  | lensc (it : Wi) (tg : List Nat) (one : Bool) (elt : E)
  | isi (a : E) (t : Ty)
  | toInt (a : E)
  | all (l : L)
  | any (l : L)
  | tupOf (a : E)
  | dictOf (a : E)
  | dget (a k : E)
  | wget (kvs : List (Str × PyData)) (k : E)
  | popAt (a k : E)
  | append (a e : E)
  | eqLL (neg : Bool) (l l2 : L)
  | eqL (neg : Bool) (a : E) (l : L)
inductive Es where
  | nil
  | cons (e : E) (es : Es)
inductive L where
  | disp (es : Es)
  | lc (it : Wi) (tg : List Nat) (one : Bool) (elt : E)
  | of (e : E)
  | split (e : E) (sep : Str)
  | cat (a b : E)
inductive Wi where
  | tup (e : E)
  | lst (e : E)
  | str (e : E)
  | rng (e : E)
  | zip (a b : E)
end
mutual
inductive St where
  | asg (i : Nat) (e : E)
  | unp (is : List Nat) (e : E)
  | setI (o i v : E)
  | expr (e : E)
  | ite (t : E) (a b : Ss)
  | for_ (it : Wi) (tg : List Nat) (one : Bool) (body : Ss)
  | ret (e : E)
inductive Ss where
  | nil
  | cons (s : St) (r : Ss)
end

/-! ### operations over values -/
def valD (kvs : List (Sum Int Str × D)) (k : Sum Int Str) : Option D := (kvs.find? fun kv => decide (kv.1 = k)).map (·.2)
def putD (kvs : List (Sum Int Str × D)) (k : Sum Int Str) (v : D) : List (Sum Int Str × D) :=
  if (kvs.any fun kv => decide (kv.1 = k)) = true then kvs.map fun kv => if kv.1 = k then (kv.1, v) else kv else kvs ++ [(k, v)]
def keyOf : D → Option (Sum Int Str)
  | .p (.int i) => some (.inl i)
  | .p (.str s) => some (.inr s)
  | _ => none
def sameScal : PyData → PyData → Bool
  | .none, .none => true | .none, .int _ => true | .int _, .none => true | .none, .bool _ => true | .bool _, .none => true | .none, .str _ => true | .str _, .none => true
  | .int _, .int _ => true | .bool _, .bool _ => true | .str _, .str _ => true
  | .int _, .str _ => true | .str _, .int _ => true | .bool _, .str _ => true | .str _, .bool _ => true
  | _, _ => false
def eqD : D → D → Option Bool
  | .p a, .p b => if sameScal a b then some (PyData.eqv a b) else if SeqAt.shaped a && SeqAt.shaped b then some (PyData.eqv a b) else none
  | _, _ => none
def bop : BOp → D → D → Option D
  | .add, .p (.int i), .p (.int j) => some (.p (.int (i + j)))
  | .add, .p (.str x), .p (.str y) => if x.length + y.length ≤ sizeLine then some (.p (.str (x ++ y))) else none
  | .add, .p (.tuple x), .p (.tuple y) => if x.length + y.length ≤ sizeLine then some (.p (.tuple (x ++ y))) else none
  | .sub, .p (.int i), .p (.int j) => some (.p (.int (i - j)))
  | .mul, .p (.int i), .p (.int j) => if (-(2 ^ 64) < i ∧ i < 2 ^ 64) ∨ (-(2 ^ 64) < j ∧ j < 2 ^ 64) then some (.p (.int (i * j))) else none
  | .fdiv, .p (.int i), .p (.int j) => if 0 < j ∧ j.natAbs.log2 < 9000 then some (.p (.int (i / j))) else none
  | .mod, .p (.int i), .p (.int j) => if 0 < j then some (.p (.int (i % j))) else none
  | .pow, .p (.int i), .p (.int j) => if 0 ≤ j ∧ j ≤ 1000000 ∧ i.natAbs < 2 ^ 64 then some (.p (.int (i ^ j.toNat))) else none
  | _, _, _ => none
def flatP : PyData → Bool
  | .none => true | .bool _ => true | .int _ => true | .str _ => true
  | _ => false
def inStr (x y : Str) : Bool := !(Builtin.Str.occurrences y x 0 y.length 1).isEmpty
def inD (S : Sto) : D → D → Option Bool
  | .p (.str x), .p (.str y) => some (inStr x y)
  | .p x, .p (.tuple ys) => if flatP x && ys.all flatP then some (ys.any fun y => PyData.eqv y x) else none
  | d, .ref j => match S[j]? with
    | some (.dic kvs) => (keyOf d).map fun k => (valD kvs k).isSome
    | _ => none
  | _, _ => none
def isNonP : PyData → Bool
  | .none => true
  | _ => false
def cop (S : Sto) : COp → D → D → Option Bool
  | .eq, a, b => eqD a b
  | .ne, a, b => (eqD a b).map (!·)
  | .lt, .p (.int i), .p (.int j) => some (decide (i < j))
  | .le, .p (.int i), .p (.int j) => some (decide (i ≤ j))
  | .gt, .p (.int i), .p (.int j) => some (decide (j < i))
  | .ge, .p (.int i), .p (.int j) => some (decide (j ≤ i))
  | .in_, a, b => inD S a b
  | .notin, a, b => (inD S a b).map (!·)
  | .is_, .p (.bool a), .p (.bool b) => some (decide (a = b))
  | .isnot, .p (.bool a), .p (.bool b) => some (!decide (a = b))
  | .is_, .p a, .p .none => some (isNonP a)
  | .isnot, .p a, .p .none => some (!isNonP a)
  | _, _, _ => none
def getI (S : Sto) : D → D → Option D
  | .p (.tuple ds), .p (.int i) => (L2.atI ds i).map .p
  | .p (.str z), .p (.int i) => if z.length ≤ sizeLine then (L2.atI z.cps.toList i).map fun c => .p (.str ⟨#[c]⟩) else none
  | .ref j, .p (.int i) => match S[j]? with
    | some (.lst ds) => L2.atI ds i
    | _ => none
  | _, _ => none
def cutP (xs : List PyData) (lo hi : Option Int) : List PyData := (xs.drop (HT.sIx xs.length 0 lo)).take (HT.sIx xs.length xs.length hi - HT.sIx xs.length 0 lo)
def sliceD : D → Option Int → Option Int → Option D
  | .p (.tuple ds), lo, hi => some (.p (.tuple (cutP ds lo hi)))
  | .p (.str z), lo, hi => if z.length ≤ sizeLine then some (.p (.str (L2.cutS z lo hi))) else none
  | _, _, _ => none
def lenD (S : Sto) : D → Option Int
  | .p (.tuple ds) => some ds.length
  | .p (.str z) => if z.length ≤ sizeLine then some z.length else none
  | .ref j => match S[j]? with
    | some (.lst ds) => some ds.length
    | _ => none
  | _ => none
def isiD : D → Ty → Option Bool
  | .p .none, _ => some false
  | .p (.bool _), .int => some true
  | .p (.bool _), .bool => some true
  | .p (.bool _), _ => some false
  | .p (.int _), .int => some true
  | .p (.int _), _ => some false
  | .p (.str _), .str => some true
  | .p (.str _), _ => some false
  | .p (.tuple _), .tuple => some true
  | .p (.tuple _), _ => some false
  | _, _ => none
def boolsOf : List D → Option (List Bool)
  | [] => some []
  | .p (.bool b) :: r => (boolsOf r).map (b :: ·)
  | _ :: _ => none
def plainOf : List D → Option (List PyData)
  | [] => some []
  | .p d :: r => (plainOf r).map (d :: ·)
  | _ :: _ => none
def strsOf : List PyData → Option (List Str)
  | [] => some []
  | .str z :: r => (strsOf r).map (z :: ·)
  | _ :: _ => none
def pairsOf : List PyData → Option (List (Sum Int Str × D))
  | [] => some []
  | .tuple [k, v] :: r => (keyOf (.p k)).bind fun k => (pairsOf r).map ((k, .p v) :: ·)
  | _ :: _ => none
/-- how many unlike texts -/
def unlike : List Str → List Str
  | [] => []
  | x :: r => if x ∈ r then unlike r else x :: unlike r
def mergeD (more : List (Sum Int Str × D)) : List (Sum Int Str × D) := more.foldl (fun acc kv => putD acc kv.1 kv.2) []
def asBool : D → Option Bool
  | .p (.bool b) => some b
  | _ => none
def asInt : D → Option Int
  | .p (.int i) => some i
  | _ => none
def intOf : D → Option Int
  | .p (.int i) => some i
  | .p (.bool b) => some (if b then 1 else 0)
  | _ => none
/-- a list of the store, whole -/
def lstAt (S : Sto) : D → Option (List D)
  | .ref j => match S[j]? with
    | some (.lst ds) => some ds
    | _ => none
  | _ => none
/-- what a loop walks: a fixed row of values, or the list at j as it stands -/
inductive Src where
  | fix (ds : List D)
  | dyn (j : Nat)
def Src.at (s : Src) (i : Nat) (S : Sto) : Option (Option D) := match s with
  | .fix ds => some ds[i]?
  | .dyn j => match S[j]? with
    | some (.lst ds) => some ds[i]?
    | _ => none
def Src.size (s : Src) (S : Sto) : Option Nat := match s with
  | .fix ds => some ds.length
  | .dyn j => match S[j]? with
    | some (.lst ds) => some ds.length
    | _ => none
def lensetD : D → Option D
  | .p (.tuple ds) => (strsOf ds).bind fun zs => if zs.length ≤ 1 then some (.p (.int (unlike zs).length)) else none
  | _ => none
def strD : D → Option D
  | .p (.str z) => some (.p (.str z))
  | _ => none
def lensetLD (ds : List D) : Option D := (plainOf ds).bind fun ps => (strsOf ps).bind fun zs => if zs.length ≤ 1000 then some (.p (.int (unlike zs).length)) else none
def tupD (S : Sto) (x : D) : Option D := (lstAt S x).bind fun ds => (plainOf ds).map fun ps => .p (.tuple ps)
def dictD : D → Option (List (Sum Int Str × D))
  | .p (.tuple ds) => (pairsOf ds).bind fun kvs => if kvs.length ≤ 1000 then some (mergeD kvs) else none
  | _ => none
def dicAt (S : Sto) : D → Option (List (Sum Int Str × D))
  | .ref j => match S[j]? with
    | some (.dic kvs) => some kvs
    | _ => none
  | _ => none
def dgetD (S : Sto) (x y : D) : Option D := (dicAt S x).bind fun kvs => (keyOf y).map fun k => (valD kvs k).getD (.p .none)
def wgetD (kvs : List (Str × PyData)) : D → Option D
  | .p (.str z) => some (.p ((kvs.lookup z).getD .none))
  | _ => none
def popD : D → D → M D
  | .ref j, .p (.int i) => fun S => if i = 0 then (match S[j]? with
    | some (.lst (d :: ds)) => .val d (S.set j (.lst ds))
    | _ => .bad) else .bad
  | _, _ => M.bad
def appD : D → D → M D
  | .ref j, y => fun S => match S[j]? with
    | some (.lst ds) => if rb j y = true ∧ ds.length < 100000 then .val (.p .none) (S.set j (.lst (ds ++ [y]))) else .bad
    | _ => .bad
  | _, _ => M.bad
def setD : D → D → D → M Unit
  | .ref j, .p (.int k), d => fun S => match S[j]? with
    | some (.lst ds) => match L2.ixN ds.length k with
      | some n => if rb j d = true then .val () (S.set j (.lst (ds.set n d))) else .bad
      | none => .bad
    | _ => .bad
  | _, _, _ => M.bad
def eqLD (neg : Bool) (ds es : List D) : Option D := (plainOf ds).bind fun ps => (plainOf es).bind fun qs =>
  if SeqAt.shaped (.list ps) = true ∧ SeqAt.shaped (.list qs) = true then some (.p (.bool (if neg then !PyData.eqvAll ps qs else PyData.eqvAll ps qs))) else none
def ofD (S : Sto) : D → Option (List D)
  | .ref j => lstAt S (.ref j)
  | .p (.tuple ds) => some (ds.map .p)
  | .p (.list ds) => some (ds.map .p)
  | _ => none
def splitD (sep : Str) : D → Option (List D)
  | .p (.str z) => if sep.length ≠ 0 ∧ z.length ≤ 100000 then some ((Txt.split z sep).map fun t => .p (.str t)) else none
  | _ => none
def catD (S : Sto) (x y : D) : Option (List D) := (lstAt S x).bind fun ds => (lstAt S y).bind fun es => if ds.length + es.length ≤ 100000 then some (ds ++ es) else none
def srcTup : D → Option Src
  | .p (.tuple ds) => some (.fix (ds.map .p))
  | _ => none
def srcLst (S : Sto) : D → Option Src
  | .ref j => match S[j]? with
    | some (.lst _) => some (.dyn j)
    | _ => none
  | _ => none
def srcStr : D → Option Src
  | .p (.str z) => some (.fix (z.cps.toList.map fun c => .p (.str ⟨#[c]⟩)))
  | _ => none
def srcRng : D → Option Src
  | .p (.int n) => if n ≤ 100000 ∧ -100000 ≤ n then some (.fix ((List.range n.toNat).map fun (i : Nat) => .p (.int (i : Int)))) else none
  | _ => none
def srcZip : D → D → Option Src
  | .p (.tuple xs), .p (.tuple ys) => some (.fix ((xs.zip ys).map fun q => .p (.tuple [q.1, q.2])))
  | _, _ => none
abbrev Sl := List (Option D)
def wipeD (ρ : Sl) : List Nat → Sl
  | [] => ρ
  | v :: vs => (wipeD ρ vs).set v none
def setAll : List Nat → List D → Sl → Option Sl
  | [], [], ρ => some ρ
  | i :: is, d :: ds, ρ => setAll is ds (ρ.set i (some d))
  | _, _, _ => none
/-- a target: one name, or names of a tuple -/
def tgt (tg : List Nat) (one : Bool) (d : D) (ρ : Sl) : Option Sl :=
  if one then (match tg with | [i] => some (ρ.set i (some d)) | _ => none)
  else match d with
    | .p (.tuple ds) => if ds.length = tg.length then setAll tg (ds.map .p) ρ else none
    | _ => none
def lcGo (src : Src) (body : D → M D) : Nat → Nat → List D → M (List D)
  | 0, i, acc => fun S => match src.at i S with
    | some none => .val acc S
    | _ => .bad
  | n + 1, i, acc => fun S => match src.at i S with
    | some none => .val acc S
    | some (some d) => M.bind (body d) (fun e => lcGo src body n (i + 1) (acc ++ [e])) S
    | none => .bad
/-- no exception may leave -/
def M.calm {α : Type} (m : M α) : M α := fun S => match m S with
  | .val a S' => .val a S'
  | _ => .bad
inductive Ctl where
  | next | brk | cont
  | ret (d : D)
def forGo (src : Src) (body : D → Sl → M (Ctl × Sl)) : Nat → Nat → Sl → M (Ctl × Sl)
  | 0, i, ρ => fun S => match src.at i S with
    | some none => .val (.next, ρ) S
    | _ => .bad
  | n + 1, i, ρ => fun S => match src.at i S with
    | some none => .val (.next, ρ) S
    | some (some d) => M.bind (body d ρ) (fun c => match c with
      | (.next, ρ') => forGo src body n (i + 1) ρ'
      | (.cont, ρ') => forGo src body n (i + 1) ρ'
      | (.brk, ρ') => M.pure (.next, ρ')
      | (.ret d, ρ') => M.pure (.ret d, ρ')) S
    | none => .bad
def alloc (o : MO) : M D := fun S => if rbO S.length o then .val (.ref S.length) (S ++ [o]) else .bad

section
variable (cal : Nat → List D → M D)
mutual
def evE : E → Sl → M D
  | .var i, ρ => M.opt (match ρ[i]? with | some (some d) => some d | _ => none)
  | .cst d, _ => M.pure d
  | .bin o a b, ρ => M.bind (evE a ρ) fun x => M.bind (evE b ρ) fun y => M.opt (bop o x y)
  | .cmp o a b, ρ => M.bind (evE a ρ) fun x => M.bind (evE b ρ) fun y => fun S => M.opt ((cop S o x y).map fun k => .p (.bool k)) S
  | .chain o o' a b c, ρ => M.bind (evE a ρ) fun x => M.bind (evE b ρ) fun y => M.bind (fun S => M.opt (cop S o x y) S) fun k =>
      if k = true then M.bind (evE c ρ) fun z => fun S => M.opt ((cop S o' y z).map fun k => .p (.bool k)) S else M.pure (.p (.bool false))
  | .and a b, ρ => M.bind (evE a ρ) fun x => M.bind (M.opt (asBool x)) fun k => if k = true then evE b ρ else M.pure (.p (.bool false))
  | .or a b, ρ => M.bind (evE a ρ) fun x => M.bind (M.opt (asBool x)) fun k => if k = true then M.pure (.p (.bool true)) else evE b ρ
  | .not a, ρ => M.bind (evE a ρ) fun x => M.bind (M.opt (asBool x)) fun k => M.pure (.p (.bool (!k)))
  | .ifx t a b, ρ => M.bind (evE t ρ) fun x => M.bind (M.opt (asBool x)) fun k => if k = true then evE a ρ else evE b ρ
  | .neg a, ρ => M.bind (evE a ρ) fun x => M.opt ((asInt x).map fun i => .p (.int (-i)))
  | .call f as, ρ => M.bind (evEs as ρ) fun ds => cal f ds
  | .callv i as, ρ => match ρ[i]? with
    | some (some (.fn f)) => M.bind (evEs as ρ) fun ds => cal f ds
    | _ => M.bad
  | .tup as, ρ => M.bind (evEs as ρ) fun ds => M.opt (if ds.length ≤ sizeLine then (plainOf ds).map fun ps => .p (.tuple ps) else none)
  | .lst l, ρ => M.bind (evL l ρ) fun ds => alloc (.lst ds)
  | .idx a b, ρ => M.bind (evE a ρ) fun x => M.bind (evE b ρ) fun y => fun S => M.opt (getI S x y) S
  | .idxL l b, ρ => M.bind (evL l ρ) fun ds => M.bind (evE b ρ) fun y => M.opt ((asInt y).bind fun i => L2.atI ds i)
  | .slice a lo hi, ρ => M.bind (evE a ρ) fun x => M.opt (sliceD x lo hi)
  | .len a, ρ => M.bind (evE a ρ) fun x => fun S => M.opt ((lenD S x).map fun n => .p (.int n)) S
  | .lenset a, ρ => M.bind (evE a ρ) fun x => M.opt (lensetD x)
  | .lensc it tg one elt, ρ => M.bind (evI it ρ) fun src => M.bind (fun S => match src.size S with
    | some n => if n ≤ 1000 then lcGo src (fun d => M.calm (M.bind (match tgt tg one d (wipeD ρ tg) with
        | some ρ' => evE elt ρ'
        | none => M.bad) fun x => M.opt (strD x))) n 0 [] S else .bad
    | none => .bad) fun ds => M.opt (lensetLD ds)
  | .isi a t, ρ => M.bind (evE a ρ) fun x => M.opt ((isiD x t).map fun k => .p (.bool k))
  | .toInt a, ρ => M.bind (evE a ρ) fun x => M.opt ((intOf x).map fun i => .p (.int i))
  | .all l, ρ => M.bind (evL l ρ) fun ds => M.opt ((boolsOf ds).map fun bs => .p (.bool (bs.all id)))
  | .any l, ρ => M.bind (evL l ρ) fun ds => M.opt ((boolsOf ds).map fun bs => .p (.bool (bs.any id)))
  | .tupOf a, ρ => M.bind (evE a ρ) fun x => fun S => M.opt (tupD S x) S
  | .dictOf a, ρ => M.bind (evE a ρ) fun x => M.bind (M.opt (dictD x)) fun kvs => alloc (.dic kvs)
  | .dget a k, ρ => M.bind (evE a ρ) fun x => M.bind (fun S => M.opt (dicAt S x) S) fun _ => M.bind (evE k ρ) fun y => fun S => M.opt (dgetD S x y) S
  | .wget kvs k, ρ => M.bind (evE k ρ) fun y => M.opt (wgetD kvs y)
  | .popAt a k, ρ => M.bind (evE a ρ) fun x => M.bind (fun S => M.opt (lstAt S x) S) fun _ => M.bind (evE k ρ) fun y => popD x y
  | .append a e, ρ => M.bind (evE a ρ) fun x => M.bind (fun S => M.opt (lstAt S x) S) fun _ => M.bind (evE e ρ) fun y => appD x y
  | .eqLL neg l l2, ρ => M.bind (evL l ρ) fun ds => M.bind (evL l2 ρ) fun es => M.opt (eqLD neg ds es)
  | .eqL neg a l, ρ => M.bind (evE a ρ) fun x => M.bind (evL l ρ) fun es => fun S => M.opt ((lstAt S x).bind fun ds => eqLD neg ds es) S
def evEs : Es → Sl → M (List D)
  | .nil, _ => M.pure []
  | .cons e es, ρ => M.bind (evE e ρ) fun d => M.bind (evEs es ρ) fun ds => M.pure (d :: ds)
/-- a list that is made on the way and that nothing keeps -/
def evL : L → Sl → M (List D)
  | .disp es, ρ => M.bind (evEs es ρ) fun ds => M.opt (if ds.length ≤ 100000 then some ds else none)
  | .lc it tg one elt, ρ => M.bind (evI it ρ) fun src => fun S => match src.size S with
    | some n => if n ≤ 100000 then lcGo src (fun d => M.calm (match tgt tg one d (wipeD ρ tg) with
        | some ρ' => evE elt ρ'
        | none => M.bad)) n 0 [] S else .bad
    | none => .bad
  | .of e, ρ => M.bind (evE e ρ) fun x => fun S => M.opt (ofD S x) S
  | .split e sep, ρ => M.bind (evE e ρ) fun x => M.opt (splitD sep x)
  | .cat a b, ρ => M.bind (evE a ρ) fun x => M.bind (evE b ρ) fun y => fun S => M.opt (catD S x y) S
def evI : Wi → Sl → M Src
  | .tup e, ρ => M.bind (evE e ρ) fun x => M.opt (srcTup x)
  | .lst e, ρ => M.bind (evE e ρ) fun x => fun S => M.opt (srcLst S x) S
  | .str e, ρ => M.bind (evE e ρ) fun x => M.opt (srcStr x)
  | .rng e, ρ => M.bind (evE e ρ) fun x => M.opt (srcRng x)
  | .zip a b, ρ => M.bind (evE a ρ) fun x => M.bind (evE b ρ) fun y => M.opt (srcZip x y)
end
mutual
def exS : St → Sl → M (Ctl × Sl)
  | .asg i e, ρ => M.bind (evE cal e ρ) fun d => M.pure (.next, ρ.set i (some d))
  | .unp is e, ρ => M.bind (evE cal e ρ) fun d => M.bind (M.opt (tgt is false d ρ)) fun ρ' => M.pure (.next, ρ')
  | .setI o i v, ρ => M.bind (evE cal v ρ) fun d => M.bind (evE cal o ρ) fun x => M.bind (evE cal i ρ) fun y => M.bind (setD x y d) fun _ => M.pure (.next, ρ)
  | .expr e, ρ => M.bind (evE cal e ρ) fun _ => M.pure (.next, ρ)
  | .ite t a b, ρ => M.bind (evE cal t ρ) fun x => M.bind (M.opt (asBool x)) fun k => if k = true then exSs a ρ else exSs b ρ
  | .for_ it tg one body, ρ => M.bind (evI cal it ρ) fun src => fun S => match src.size S with
    | some n => forGo src (fun d ρ' => match tgt tg one d ρ' with
        | some ρ'' => exSs body ρ''
        | none => M.bad) n 0 ρ S
    | none => .bad
  | .ret e, ρ => M.bind (evE cal e ρ) fun d => M.pure (.ret d, ρ)
def exSs : Ss → Sl → M (Ctl × Sl)
  | .nil, ρ => M.pure (.next, ρ)
  | .cons s r, ρ => M.bind (exS s ρ) fun c => match c with
    | (.next, ρ') => exSs r ρ'
    | c => M.pure c
end
end
/-- a def: how many parameters, how many names, its body -/
structure Fn where
  ar : Nat
  sz : Nat
  body : Ss
/-- what a call leaves behind: the objects that it made go, but what it hands back -/
def fix (n : Nat) (d : D) (S : Sto) : Out D := match d with
  | .ref j => if j < n then .val d (S.take n) else match S[j]? with
    | some o => if rbO n o then .val (.ref n) (S.take n ++ [o]) else .val d S
    | none => .bad
  | _ => .val d (S.take n)
def callF (cal : Nat → List D → M D) (f : Fn) (ds : List D) : M D := fun S =>
  if ds.length = f.ar then match exSs cal f.body (ds.map some ++ List.replicate (f.sz - f.ar) none) S with
    | .val (.ret d, _) S' => fix S.length d S'
    | .val (.next, _) S' => fix S.length (.p .none) S'
    | _ => .bad
  else .bad
def calK (fs : Nat → Option Fn) : Nat → Nat → List D → M D
  | 0 => fun _ _ _ => .bad
  | k + 1 => fun f ds => match fs f with
    | some g => callF (calK fs k) g ds
    | none => M.bad
end Ir
set_option Elab.async false
set_option maxRecDepth 100000
set_option maxHeartbeats 4000001
/-! How the values and the store stand in the layer's heap; readings by a run of the small language. -/
namespace Ir
open PySem L2 PySem.Spec PyProof.Rows

/-- a tuple whose object is known to have no dict of its own -/
def Ht (K : PySem.W.Frag) (H : Hp) (a : Addr) (xs : List V) : Prop := (∃ o : Obj, H a = some (.frz o (.tup xs)) ∧ o.dict = none) ∨
  ∃ (o : Obj) (its : Array Value) (n : Nat), K.lookup a = some o ∧ o.cls = .type "tuple" ∧ o.dict = none ∧ o.data = .seq its n ∧ its.size ≤ sizeLine ∧ Vals xs its.toList
theorem Ht.sq {K : PySem.W.Frag} {H : Hp} {a : Addr} {xs : List V} (h : Ht K H a xs) : SqT K H a xs := by
  rcases h with ⟨o, h, _⟩ | ⟨o, its, n, h1, h2, _, h4, h5, h6⟩
  · exact .inl (.inr ⟨o, h⟩)
  · exact .inr ⟨o, its, n, h1, h2, h4, h5, h6⟩
/-- a list that nobody changes: handed in, or written by the top -/
def Lf (K : PySem.W.Frag) (H : Hp) (a : Addr) (xs : List V) : Prop := (∃ o : Obj, H a = some (.frz o (.lst xs))) ∨
  ∃ (o : Obj) (its : Array Value) (n : Nat), K.lookup a = some o ∧ o.cls = .type "list" ∧ o.dict = none ∧ o.data = .seq its n ∧ its.size ≤ sizeLine ∧ Vals xs its.toList
theorem Lf.sq {K : PySem.W.Frag} {H : Hp} {a : Addr} {xs : List V} (h : Lf K H a xs) : SqL K H a xs := by
  rcases h with ⟨o, h⟩ | h
  · exact .inl (.inr ⟨o, h⟩)
  · exact .inr h
theorem Lf.of {K : PySem.W.Frag} {H : Hp} {a : Addr} {xs : List V} (ho : Only H) (h : SqL K H a xs) : Lf K H a xs := by
  rcases h with (h | h) | h
  · rcases ho a with e | ⟨o, ys, e⟩
    · rw [e] at h; cases h
    · rw [e] at h; cases h
  · exact .inl h
  · exact .inr h
mutual
inductive Tp (K : PySem.W.Frag) (H : Hp) : PyData → V → Prop
  | non : Tp K H .none .non
  | bl (b : Bool) : Tp K H (.bool b) (.bl b)
  | int (i : Int) : Tp K H (.int i) (.int i)
  | str (x : Str) : Tp K H (.str x) (.str x)
  | tup {a : Addr} {xs : List V} {ds : List PyData} : Ht K H a xs → TpA K H ds xs → Tp K H (.tuple ds) (.ref a)
  | lst {a : Addr} {xs : List V} {ds : List PyData} : Lf K H a xs → TpA K H ds xs → Tp K H (.list ds) (.ref a)
inductive TpA (K : PySem.W.Frag) (H : Hp) : List PyData → List V → Prop
  | nil : TpA K H [] []
  | cons {d : PyData} {v : V} {ds : List PyData} {vs : List V} : Tp K H d v → TpA K H ds vs → TpA K H (d :: ds) (v :: vs)
end
section
variable {K : PySem.W.Frag} {H : Hp}
theorem TpA.length : ∀ {ds : List PyData} {xs : List V}, TpA K H ds xs → ds.length = xs.length
  | [], _, h => by cases h; rfl
  | _ :: _, _, h => by
    cases h with
    | cons a b => rw [List.length_cons, List.length_cons, TpA.length b]
theorem TpA.get : ∀ {ds : List PyData} {xs : List V} {i : Nat} {d : PyData}, TpA K H ds xs → ds[i]? = some d → ∃ v, xs[i]? = some v ∧ Tp K H d v
  | [], _, _, _, _, e => by simp at e
  | d :: ds, _, 0, _, h, e => by
    cases h with
    | cons a b => simp at e; subst e; exact ⟨_, rfl, a⟩
  | d :: ds, _, i + 1, _, h, e => by
    cases h with
    | cons a b =>
      obtain ⟨v, h1, h2⟩ := TpA.get (i := i) b (by simpa using e)
      exact ⟨v, by simpa using h1, h2⟩
theorem TpA.append : ∀ {ds es : List PyData} {xs ys : List V}, TpA K H ds xs → TpA K H es ys → TpA K H (ds ++ es) (xs ++ ys)
  | [], _, _, _, h, k => by cases h; exact k
  | _ :: _, _, _, _, h, k => by
    cases h with
    | cons a b => exact .cons a (TpA.append b k)
theorem TpA.take : ∀ {ds : List PyData} {xs : List V} (n : Nat), TpA K H ds xs → TpA K H (ds.take n) (xs.take n)
  | _, _, 0, _ => by simp; exact .nil
  | [], _, n + 1, h => by cases h; exact .nil
  | _ :: _, _, n + 1, h => by
    cases h with
    | cons a b => exact .cons a (TpA.take n b)
theorem TpA.drop : ∀ {ds : List PyData} {xs : List V} (n : Nat), TpA K H ds xs → TpA K H (ds.drop n) (xs.drop n)
  | _, _, 0, h => h
  | [], _, n + 1, h => by cases h; exact .nil
  | _ :: _, _, n + 1, h => by
    cases h with
    | cons a b => exact TpA.drop n b
mutual
theorem Tp.dp : ∀ {d : PyData} {v : V}, Tp K H d v → Dp K H v d
  | .none, _, h => by cases h; exact .non
  | .bool _, _, h => by cases h; exact .bl _
  | .int _, _, h => by cases h; exact .int _
  | .str _, _, h => by cases h; exact .str _
  | .tuple ds, _, h => by
    cases h with
    | tup a b => exact .tup a.sq (TpA.dp b)
  | .list ds, _, h => by
    cases h with
    | lst a b => exact .lst a.sq (TpA.dp b)
  | .dict _, _, h => by cases h
theorem TpA.dp : ∀ {ds : List PyData} {xs : List V}, TpA K H ds xs → DpAll K H xs ds
  | [], _, h => by cases h; exact .nil
  | _ :: _, _, h => by
    cases h with
    | cons a b => exact .cons (Tp.dp a) (TpA.dp b)
end
end

/-- a value tells D: α the store's addresses, ph the defs' -/
def Tl (K : PySem.W.Frag) (ph : Nat → Option Addr) (α : List Addr) (H : Hp) : D → V → Prop
  | .p d, v => Tp K H d v
  | .ref i, v => ∃ a, α[i]? = some a ∧ v = .ref a
  | .fn i, v => ∃ a, ph i = some a ∧ v = .ref a
abbrev TlA (K : PySem.W.Frag) (ph : Nat → Option Addr) (α : List Addr) (H : Hp) : List D → List V → Prop := Paired (Tl K ph α H)
def ObT (K : PySem.W.Frag) (ph : Nat → Option Addr) (α : List Addr) (H : Hp) (a : Addr) : MO → Prop
  | .lst ds => ∃ xs, H a = some (.lst xs) ∧ TlA K ph α H ds xs
  | .dic kvs => ∃ ws : List (Key × V), H a = some (.dK ws) ∧ Paired (fun (p : Key × D) (q : Key × V) => p.1 = q.1 ∧ Tl K ph α H p.2 q.2) kvs ws
structure At (K : PySem.W.Frag) (ph : Nat → Option Addr) (α : List Addr) (H : Hp) (S : Sto) : Prop where
  len : α.length = S.length
  nd : α.Nodup
  obj : ∀ (i : Nat) (o : MO) (a : Addr), S[i]? = some o → α[i]? = some a → ObT K ph α H a o
  wf : ∀ (i : Nat) (o : MO), S[i]? = some o → rbO i o = true
structure Ext (α α' : List Addr) (H H' : Hp) : Prop where
  pre : ∀ (i : Nat) (a : Addr), α[i]? = some a → α'[i]? = some a
  keep : ∀ (a : Addr) (o : HO), H a = some o → a ∉ α → H' a = some o
  new : ∀ (a : Addr), a ∈ α' → a ∈ α ∨ H a = none
section
variable {K : PySem.W.Frag} {ph : Nat → Option Addr} {α α' α'' : List Addr} {H H' H'' : Hp} {S S' : Sto}
theorem Ext.refl (α : List Addr) (H : Hp) : Ext α α H H := ⟨fun _ _ h => h, fun _ _ h _ => h, fun _ h => .inl h⟩
theorem Ext.trans (x : Ext α α' H H') (y : Ext α' α'' H' H'') : Ext α α'' H H'' where
  pre := fun i a h => y.pre i a (x.pre i a h)
  keep := fun a o h n => y.keep a o (x.keep a o h n) fun m => by
    rcases x.new a m with z | z
    · exact n z
    · rw [h] at z; cases z
  new := fun a h => by
    rcases y.new a h with z | z
    · exact x.new a z
    · cases e : H a with
      | none => exact .inr rfl
      | some o =>
        by_cases m : a ∈ α
        · exact .inl m
        · rw [x.keep a o e m] at z; cases z
theorem At.mut (x : At K ph α H S) {a : Addr} (h : a ∈ α) : (∃ xs, H a = some (.lst xs)) ∨ ∃ ws, H a = some (.dK ws) := by
  obtain ⟨i, hi, e⟩ := List.getElem_of_mem h
  have e1 : α[i]? = some a := by rw [List.getElem?_eq_getElem hi, e]
  have hs : i < S.length := by rw [← x.len]; exact hi
  have e2 : S[i]? = some S[i] := List.getElem?_eq_getElem hs
  have q := x.obj i _ a e2 e1
  cases o : S[i] with
  | lst ds => rw [o] at q; obtain ⟨xs, h1, _⟩ := q; exact .inl ⟨xs, h1⟩
  | dic kvs => rw [o] at q; obtain ⟨ws, h1, _⟩ := q; exact .inr ⟨ws, h1⟩
theorem At.tupK (x : At K ph α H S) {a : Addr} {xs : List V} (h : H a = some (.tup xs)) : a ∉ α := fun m => by
  rcases x.mut m with ⟨_, z⟩ | ⟨_, z⟩ <;> (rw [h] at z; cases z)
theorem At.frzK (x : At K ph α H S) {a : Addr} {o : Obj} {u : HO} (h : H a = some (.frz o u)) : a ∉ α := fun m => by
  rcases x.mut m with ⟨_, z⟩ | ⟨_, z⟩ <;> (rw [h] at z; cases z)
/-- tuples and what is locked stay -/
structure KT (H H' : Hp) : Prop where
  tup : ∀ (a : Addr) (xs : List V), H a = some (.tup xs) → H' a = some (.tup xs)
  frz : ∀ (a : Addr) (o : Obj) (u : HO), H a = some (.frz o u) → H' a = some (.frz o u)
theorem KT.of (k : ∀ (a : Addr) (o : HO), H a = some o → a ∉ α → H' a = some o) (x : At K ph α H S) : KT H H' := ⟨fun a _ h => k a _ h (x.tupK h), fun a _ _ h => k a _ h (x.frzK h)⟩
theorem KT.lst {p : Addr} {xs : List V} {u : HO} (h : H p = some (.lst xs)) : KT H (L2.upd H p u) :=
  ⟨fun a _ q => by rw [upd_ne (fun z => by rw [z, h] at q; cases q)]; exact q, fun a _ _ q => by rw [upd_ne (fun z => by rw [z, h] at q; cases q)]; exact q⟩
theorem sqT_keep (k : KT H H') {a : Addr} {xs : List V} (h : SqT K H a xs) : SqT K H' a xs := by
  rcases h with (h | ⟨o, h⟩) | h
  · exact .inl (.inl (k.tup _ _ h))
  · exact .inl (.inr ⟨o, k.frz _ _ _ h⟩)
  · exact .inr h
theorem ht_keep (k : KT H H') {a : Addr} {xs : List V} (h : Ht K H a xs) : Ht K H' a xs := by
  rcases h with ⟨o, h, d⟩ | h
  · exact .inl ⟨o, k.frz _ _ _ h, d⟩
  · exact .inr h
mutual
theorem Tp.keep (k : KT H H') : ∀ {d : PyData} {v : V}, Tp K H d v → Tp K H' d v
  | .none, _, h => by cases h; exact .non
  | .bool _, _, h => by cases h; exact .bl _
  | .int _, _, h => by cases h; exact .int _
  | .str _, _, h => by cases h; exact .str _
  | .tuple ds, _, h => by
    cases h with
    | tup a b => exact .tup (ht_keep k a) (TpA.keep k b)
  | .list ds, _, h => by
    cases h with
    | lst a b => exact .lst (a.imp (fun ⟨o, z⟩ => ⟨o, k.frz _ _ _ z⟩) id) (TpA.keep k b)
  | .dict _, _, h => by cases h
theorem TpA.keep (k : KT H H') : ∀ {ds : List PyData} {xs : List V}, TpA K H ds xs → TpA K H' ds xs
  | [], _, h => by cases h; exact .nil
  | _ :: _, _, h => by
    cases h with
    | cons a b => exact .cons (Tp.keep k a) (TpA.keep k b)
end
theorem Ext.kt (e : Ext α α' H H') (x : At K ph α H S) : KT H H' := KT.of e.keep x
theorem Tl.ext (e : Ext α α' H H') (x : At K ph α H S) : ∀ {d : D} {v : V}, Tl K ph α H d v → Tl K ph α' H' d v
  | .p _, _, h => Tp.keep (e.kt x) h
  | .ref _, _, ⟨a, h1, h2⟩ => ⟨a, e.pre _ _ h1, h2⟩
  | .fn _, _, h => h
theorem TlA.ext (e : Ext α α' H H') (x : At K ph α H S) {ds : List D} {vs : List V} (h : TlA K ph α H ds vs) : TlA K ph α' H' ds vs := Paired.mapP h fun _ _ q => q.ext e x
/-- all tells stay when the heap changes at the store's own objects alone -/
theorem Tl.keep (k : KT H H') : ∀ {d : D} {v : V}, Tl K ph α H d v → Tl K ph α H' d v
  | .p _, _, h => Tp.keep k h
  | .ref _, _, h => h
  | .fn _, _, h => h
theorem TlA.plain : ∀ {ds : List D} {ps : List PyData} {vs : List V}, TlA K ph α H ds vs → plainOf ds = some ps → TpA K H ps vs
  | [], _, _, h, e => by
    cases h
    cases e
    exact .nil
  | .p d :: r, ps, _, h, e => by
    cases h with
    | cons a b =>
      unfold plainOf at e
      cases q : plainOf r with
      | none => rw [q] at e; cases e
      | some rs =>
        rw [q] at e
        cases e
        exact .cons a (TlA.plain b q)
  | .ref _ :: _, _, _, _, e => by cases e
  | .fn _ :: _, _, _, _, e => by cases e
theorem TpA.toTl : ∀ {ps : List PyData} {vs : List V}, TpA K H ps vs → TlA K ph α H (ps.map D.p) vs
  | [], _, h => by cases h; exact .nil
  | _ :: _, _, h => by
    cases h with
    | cons a b => exact .cons a (TpA.toTl b)
theorem Paired.get {A B : Type} {F : A → B → Prop} : ∀ {l : List A} {m : List B} {i : Nat} {a : A}, Paired F l m → l[i]? = some a → ∃ b, m[i]? = some b ∧ F a b
  | [], _, _, _, _, e => by simp at e
  | _ :: _, _, 0, _, h, e => by
    cases h with
    | cons x y => simp at e; subst e; exact ⟨_, rfl, x⟩
  | _ :: _, _, i + 1, _, h, e => by
    cases h with
    | cons x y =>
      obtain ⟨b, h1, h2⟩ := Paired.get (i := i) y (by simpa using e)
      exact ⟨b, by simpa using h1, h2⟩
theorem Paired.setAt {A B : Type} {F : A → B → Prop} {a : A} {b : B} (r : F a b) : ∀ {l : List A} {m : List B} (i : Nat), Paired F l m → Paired F (l.set i a) (m.set i b)
  | [], _, _, h => by cases h; exact .nil
  | _ :: _, _, 0, h => by
    cases h with
    | cons x y => exact .cons r y
  | _ :: _, _, i + 1, h => by
    cases h with
    | cons x y => exact .cons x (Paired.setAt r i y)
theorem Paired.app {A B : Type} {F : A → B → Prop} : ∀ {l l' : List A} {m m' : List B}, Paired F l m → Paired F l' m' → Paired F (l ++ l') (m ++ m')
  | [], _, _, _, h, k => by cases h; exact k
  | _ :: _, _, _, _, h, k => by
    cases h with
    | cons x y => exact .cons x (Paired.app y k)
/-- a store's list or dict at its address -/
theorem At.lst (x : At K ph α H S) {j : Nat} {ds : List D} (h : S[j]? = some (.lst ds)) : ∃ a xs, α[j]? = some a ∧ H a = some (.lst xs) ∧ TlA K ph α H ds xs := by
  have hj : j < α.length := by rw [x.len]; exact (List.getElem?_eq_some_iff.mp h).1
  have e : α[j]? = some α[j] := List.getElem?_eq_getElem hj
  obtain ⟨xs, h1, h2⟩ := x.obj j _ _ h e
  exact ⟨_, xs, e, h1, h2⟩
theorem At.dic (x : At K ph α H S) {j : Nat} {kvs : List (Key × D)} (h : S[j]? = some (.dic kvs)) : ∃ a ws, α[j]? = some a ∧ H a = some (.dK ws) ∧ Paired (fun (p : Key × D) (q : Key × V) => p.1 = q.1 ∧ Tl K ph α H p.2 q.2) kvs ws := by
  have hj : j < α.length := by rw [x.len]; exact (List.getElem?_eq_some_iff.mp h).1
  have e : α[j]? = some α[j] := List.getElem?_eq_getElem hj
  obtain ⟨xs, h1, h2⟩ := x.obj j _ _ h e
  exact ⟨_, xs, e, h1, h2⟩
theorem nd_at {A : Type} {l : List A} (hN : l.Nodup) {i j : Nat} {x : A} (a : l[i]? = some x) (b : l[j]? = some x) : i = j := by
  obtain ⟨h1, e1⟩ := List.getElem?_eq_some_iff.mp a
  obtain ⟨h2, e2⟩ := List.getElem?_eq_some_iff.mp b
  exact (List.getElem_inj hN).mp (e1.trans e2.symm)
theorem mem_at {A : Type} {l : List A} {i : Nat} {x : A} (a : l[i]? = some x) : x ∈ l := List.mem_of_getElem? a
/-- objects stay as told where the heap changed elsewhere -/
theorem ObT.keep (k : KT H H') {a : Addr} {o : MO} (e : H' a = H a) (h : ObT K ph α H a o) : ObT K ph α H' a o := by
  cases o with
  | lst ds =>
    obtain ⟨xs, h1, h2⟩ := h
    exact ⟨xs, e.trans h1, Paired.mapP h2 fun _ _ q => q.keep k⟩
  | dic kvs =>
    obtain ⟨ws, h1, h2⟩ := h
    exact ⟨ws, e.trans h1, Paired.mapP h2 fun _ _ q => ⟨q.1, q.2.keep k⟩⟩
/-- the list at j changed -/
theorem At.upd (x : At K ph α H S) {j : Nat} {a : Addr} {u : HO} {o : MO} (ha : α[j]? = some a) (hb : rbO j o = true) (ho : ∀ H' : Hp, KT H H' → H' a = some u → ObT K ph α H' a o) :
    Ext α α H (L2.upd H a u) ∧ At K ph α (L2.upd H a u) (S.set j o) := by
  have k : ∀ (b : Addr) (w : HO), H b = some w → b ∉ α → (L2.upd H a u) b = some w := fun b w hb n => by
    rw [upd_ne (fun z => n (by rw [z]; exact mem_at ha))]
    exact hb
  refine ⟨⟨fun _ _ h => h, k, fun _ h => .inl h⟩, ⟨by rw [List.length_set]; exact x.len, x.nd, fun i w b hi hba => ?_, fun i w hi => ?_⟩⟩
  · by_cases e : i = j
    · subst e
      rw [ha] at hba
      cases hba
      have hl : i < S.length := by rw [← x.len]; exact (List.getElem?_eq_some_iff.mp ha).1
      rw [List.getElem?_set_self hl] at hi
      cases hi
      exact ho _ (KT.of k x) upd_same
    · rw [List.getElem?_set_ne (Ne.symm e)] at hi
      refine (x.obj i w b hi hba).keep (KT.of k x) (upd_ne fun z => e ?_)
      subst z
      exact nd_at x.nd hba ha
  · by_cases e : i = j
    · subst e
      have hl : i < S.length := by rw [← x.len]; exact (List.getElem?_eq_some_iff.mp ha).1
      rw [List.getElem?_set_self hl] at hi
      cases hi
      exact hb
    · rw [List.getElem?_set_ne (Ne.symm e)] at hi
      exact x.wf i w hi
/-- a new object that the store does not know -/
theorem At.fresh (x : At K ph α H S) {p : Addr} {u : HO} (hp : H p = none) : Ext α α H (L2.upd H p u) ∧ At K ph α (L2.upd H p u) S := by
  have np : ∀ (b : Addr) (w : HO), H b = some w → b ≠ p := fun b w hb z => by rw [z, hp] at hb; cases hb
  have k : ∀ (b : Addr) (w : HO), H b = some w → b ∉ α → (L2.upd H p u) b = some w := fun b w hb _ => by rw [upd_ne (np b w hb)]; exact hb
  refine ⟨⟨fun _ _ h => h, k, fun _ h => .inl h⟩, ⟨x.len, x.nd, fun i w b hi hb => ?_, x.wf⟩⟩
  refine (x.obj i w b hi hb).keep (KT.of k x) ?_
  rcases x.mut (mem_at hb) with ⟨_, z⟩ | ⟨_, z⟩ <;> exact upd_ne (np _ _ z)
/-- a list apart from the store changes -/
theorem At.apart (x : At K ph α H S) {p : Addr} {xs : List V} {u : HO} (hp : H p = some (.lst xs)) (hn : p ∉ α) : At K ph α (L2.upd H p u) S :=
  ⟨x.len, x.nd, fun i w b hi hb => (x.obj i w b hi hb).keep (KT.lst hp) (upd_ne fun z => hn (by rw [← z]; exact mem_at hb)), x.wf⟩
/-- an object that lies in the heap comes into the store -/
theorem At.take_in (x : At K ph α H S) {p : Addr} {o : MO} (hn : p ∉ α) (ho : ObT K ph α H p o) (hb : rbO S.length o = true) : At K ph (α ++ [p]) H (S ++ [o]) ∧ ∀ (i : Nat) (a : Addr), α[i]? = some a → (α ++ [p])[i]? = some a := by
  have pre : ∀ (i : Nat) (a : Addr), α[i]? = some a → (α ++ [p])[i]? = some a := fun i a h => by rw [List.getElem?_append_left (List.getElem?_eq_some_iff.mp h).1]; exact h
  have tl : ∀ {d : D} {v : V}, Tl K ph α H d v → Tl K ph (α ++ [p]) H d v := fun {d v} h => by
    cases d with
    | p d => exact h
    | ref i => obtain ⟨a, h1, h2⟩ := h; exact ⟨a, pre _ _ h1, h2⟩
    | fn i => exact h
  have ot : ∀ {a : Addr} {o : MO}, ObT K ph α H a o → ObT K ph (α ++ [p]) H a o := fun {a o} h => by
    cases o with
    | lst ds => obtain ⟨xs, h1, h2⟩ := h; exact ⟨xs, h1, Paired.mapP h2 fun _ _ q => tl q⟩
    | dic kvs => obtain ⟨xs, h1, h2⟩ := h; exact ⟨xs, h1, Paired.mapP h2 fun _ _ q => ⟨q.1, tl q.2⟩⟩
  refine ⟨⟨by rw [List.length_append, List.length_append, x.len]; rfl, ?_, fun i w a hi ha => ?_, fun i w hi => ?_⟩, pre⟩
  · rw [List.nodup_append]
    exact ⟨x.nd, by simp, fun a h1 b h2 z => by simp at h2; subst h2; subst z; exact hn h1⟩
  · by_cases e : i < S.length
    · rw [List.getElem?_append_left e] at hi
      rw [List.getElem?_append_left (by rw [x.len]; exact e)] at ha
      exact ot (x.obj i w a hi ha)
    · have e1 : i = S.length := by
        have := (List.getElem?_eq_some_iff.mp hi).1
        rw [List.length_append, List.length_singleton] at this
        omega
      subst e1
      rw [List.getElem?_append_right (Nat.le_refl _)] at hi
      rw [← x.len, List.getElem?_append_right (Nat.le_refl _)] at ha
      simp at hi ha
      subst hi
      subst ha
      exact ot ho
  · by_cases e : i < S.length
    · rw [List.getElem?_append_left e] at hi
      exact x.wf i w hi
    · have e1 : i = S.length := by
        have := (List.getElem?_eq_some_iff.mp hi).1
        rw [List.length_append, List.length_singleton] at this
        omega
      subst e1
      rw [List.getElem?_append_right (Nat.le_refl _)] at hi
      simp at hi
      subst hi
      exact hb
theorem rb_mono {n m : Nat} (h : n ≤ m) {d : D} (r : rb n d = true) : rb m d = true := by
  cases d with
  | p _ => rfl
  | ref j => exact decide_eq_true (Nat.lt_of_lt_of_le (of_decide_eq_true r) h)
  | fn _ => rfl
theorem rbO_mono {n m : Nat} (h : n ≤ m) {o : MO} (r : rbO n o = true) : rbO m o = true := by
  cases o with
  | lst ds =>
    unfold rbO at r ⊢
    rw [List.all_eq_true] at r ⊢
    exact fun d hd => rb_mono h (r d hd)
  | dic kvs =>
    unfold rbO at r ⊢
    rw [List.all_eq_true] at r ⊢
    exact fun d hd => rb_mono h (r d hd)
theorem Tl.cut {n : Nat} {d : D} {v : V} (r : rb n d = true) (h : Tl K ph α H d v) : Tl K ph (α.take n) H d v := by
  cases d with
  | p _ => exact h
  | ref j =>
    obtain ⟨a, h1, h2⟩ := h
    have hj : j < n := of_decide_eq_true r
    exact ⟨a, by rw [List.getElem?_take_of_lt hj]; exact h1, h2⟩
  | fn _ => exact h
theorem pair_all {A B : Type} {F G : A → B → Prop} {P : A → Bool} : ∀ {l : List A} {m : List B}, Paired F l m → l.all P = true → (∀ a b, P a = true → F a b → G a b) → Paired G l m
  | [], _, h, _, _ => by cases h; exact .nil
  | a :: l, _, h, q, k => by
    cases h with
    | cons x y =>
      rw [List.all_cons, Bool.and_eq_true] at q
      exact .cons (k _ _ q.1 x) (pair_all y q.2 k)
theorem ObT.cut {n : Nat} {o : MO} {a : Addr} (r : rbO n o = true) (h : ObT K ph α H a o) : ObT K ph (α.take n) H a o := by
  cases o with
  | lst ds =>
    obtain ⟨xs, h1, h2⟩ := h
    exact ⟨xs, h1, pair_all h2 r fun _ _ q z => z.cut q⟩
  | dic kvs =>
    obtain ⟨xs, h1, h2⟩ := h
    exact ⟨xs, h1, pair_all h2 r fun _ _ q z => ⟨z.1, z.2.cut q⟩⟩
theorem At.cut (x : At K ph α H S) (n : Nat) : At K ph (α.take n) H (S.take n) := by
  refine ⟨by rw [List.length_take, List.length_take, x.len], x.nd.sublist (List.take_sublist _ _), fun i o a hi ha => ?_, fun i o hi => ?_⟩
  · have hn : i < n := by
      have := (List.getElem?_eq_some_iff.mp hi).1
      rw [List.length_take] at this
      omega
    rw [List.getElem?_take_of_lt hn] at hi ha
    exact (x.obj i o a hi ha).cut (rbO_mono (Nat.le_of_lt hn) (x.wf i o hi))
  · have hn : i < n := by
      have := (List.getElem?_eq_some_iff.mp hi).1
      rw [List.length_take] at this
      omega
    rw [List.getElem?_take_of_lt hn] at hi
    exact x.wf i o hi
/-- the slots -/
structure Sr (K : PySem.W.Frag) (ph : Nat → Option Addr) (α : List Addr) (H : Hp) (σ : L2.St) (ρ : Sl) : Prop where
  len : σ.length = ρ.length
  at_ : ∀ (i : Nat) (d : D), ρ[i]? = some (some d) → ∃ v, σ[i]? = some (some v) ∧ Tl K ph α H d v
theorem Sr.ext {σ : L2.St} {ρ : Sl} (r : Sr K ph α H σ ρ) (e : Ext α α' H H') (x : At K ph α H S) : Sr K ph α' H' σ ρ := ⟨r.len, fun i d h => let ⟨v, h1, h2⟩ := r.at_ i d h; ⟨v, h1, h2.ext e x⟩⟩
theorem Sr.keep {σ : L2.St} {ρ : Sl} (r : Sr K ph α H σ ρ) (k : KT H H') : Sr K ph α H' σ ρ := ⟨r.len, fun i d h => let ⟨v, h1, h2⟩ := r.at_ i d h; ⟨v, h1, h2.keep k⟩⟩
theorem Sr.set {σ : L2.St} {ρ : Sl} (r : Sr K ph α H σ ρ) {i : Nat} {d : D} {v : V} (h : Tl K ph α H d v) : Sr K ph α H (σ.set i (some v)) (ρ.set i (some d)) := by
  refine ⟨by rw [List.length_set, List.length_set, r.len], fun j e hj => ?_⟩
  by_cases q : i = j
  · subst q
    have hl : i < ρ.length := by
      have := (List.getElem?_eq_some_iff.mp hj).1
      rwa [List.length_set] at this
    rw [List.getElem?_set_self hl] at hj
    cases hj
    exact ⟨v, by rw [List.getElem?_set_self (by rw [r.len]; exact hl)], h⟩
  · rw [List.getElem?_set_ne q] at hj
    rw [List.getElem?_set_ne q]
    exact r.at_ j e hj
theorem Sr.none {σ : L2.St} {ρ : Sl} (r : Sr K ph α H σ ρ) (i : Nat) : Sr K ph α H (σ.set i Option.none) (ρ.set i Option.none) := by
  refine ⟨by rw [List.length_set, List.length_set, r.len], fun j e hj => ?_⟩
  by_cases q : i = j
  · subst q
    have hl : i < ρ.length := by
      have := (List.getElem?_eq_some_iff.mp hj).1
      rwa [List.length_set] at this
    rw [List.getElem?_set_self hl] at hj
    cases hj
  · rw [List.getElem?_set_ne q] at hj
    rw [List.getElem?_set_ne q]
    exact r.at_ j e hj
theorem Sr.wipe {σ : L2.St} {ρ : Sl} (r : Sr K ph α H σ ρ) : ∀ vs : List Nat, Sr K ph α H (L2.wipe σ vs) (wipeD ρ vs)
  | [] => r
  | v :: vs => (Sr.wipe r vs).none v
end
end Ir
set_option Elab.async false
set_option maxRecDepth 100000
set_option maxHeartbeats 4000001
/-! Readings by a run of the small language; a rule for each of its words. -/
namespace Ir
open PySem L2 PySem.Spec PyProof.Rows

/-- what a whole law has in common: the written part, the defs' addresses, how an exception lies -/
structure Gc where
  K : PySem.W.Frag
  ph : Nat → Option Addr
  TX : Ex → Value → Option Addr → Hp → Prop
abbrev Gc.At (g : Gc) := Ir.At g.K g.ph
abbrev Gc.Tl (g : Gc) := Ir.Tl g.K g.ph
abbrev Gc.TlA (g : Gc) := Ir.TlA g.K g.ph
abbrev Gc.Sr (g : Gc) := Ir.Sr g.K g.ph
def exW (g : Gc) (W : WX) (α : List Addr) (σ : L2.St) (H : Hp) (e : Ex) (S' : Sto) : Prop := ∀ cls dx α' H', Ext α α' H H' → g.At α' H' S' → g.TX e cls dx H' → W cls dx σ H'
/-- from the store S at α: m runs to its end, and k holds of what it gives, however the heap grew -/
def rAt (g : Gc) (W : WX) (α : List Addr) (S : Sto) {β : Type} (m : Sl → M β) (σ : L2.St) (H : Hp) (k : β → Sto → List Addr → Hp → Prop) : Prop :=
  ∃ ρ, g.At α H S ∧ g.Sr α H σ ρ ∧ wp (m ρ S) (fun b S' => ∀ α' H', Ext α α' H H' → g.At α' H' S' → k b S' α' H') (exW g W α σ H)
def rM (g : Gc) (W : WX) {β : Type} (m : Sl → M β) (σ : L2.St) (H : Hp) (k : β → Sto → List Addr → Hp → Prop) : Prop := ∃ α S, rAt g W α S m σ H k
section
variable {g : Gc} {W : WX} {α : List Addr} {S : Sto} {β γ : Type} {m : Sl → M β} {f : β → Sl → M γ} {σ : L2.St} {H : Hp}
theorem rAt.imp {k k' : β → Sto → List Addr → Hp → Prop} (h : rAt g W α S m σ H k) (i : ∀ b S' α' H', Ext α α' H H' → g.At α' H' S' → k b S' α' H' → k' b S' α' H') : rAt g W α S m σ H k' := by
  obtain ⟨ρ, a, r, h⟩ := h
  exact ⟨ρ, a, r, wp_mono h (fun b S' q α' H' e a' => i b S' α' H' e a' (q α' H' e a')) fun _ _ z => z⟩
theorem rAt.bind {k : γ → Sto → List Addr → Hp → Prop} (h : rAt g W α S (fun ρ => M.bind (m ρ) fun b => f b ρ) σ H k) : rAt g W α S m σ H (fun b S' α' H' => rAt g W α' S' (f b) σ H' k) := by
  obtain ⟨ρ, a, r, h⟩ := h
  refine ⟨ρ, a, r, wp_mono (wp_bind h) (fun b S' q α' H' e a' => ⟨ρ, a', r.ext e a, wp_mono q (fun c S2 q2 α2 H2 e2 a2 => q2 α2 H2 (e.trans e2) a2) fun x S2 z cls dx α2 H2 e2 a2 t => z cls dx α2 H2 (e.trans e2) a2 t⟩) fun _ _ z => z⟩
theorem rAt.opt {o : Sto → Option γ} {k : γ → Sto → List Addr → Hp → Prop} (h : rAt g W α S (fun _ => fun S => M.opt (o S) S) σ H k) : ∃ z, o S = some z ∧ ∀ α' H', Ext α α' H H' → g.At α' H' S → k z S α' H' := by
  obtain ⟨ρ, a, r, h⟩ := h
  cases e : o S with
  | none =>
    simp only [M.opt, e] at h
    exact h.elim
  | some z =>
    simp only [M.opt, e] at h
    exact ⟨z, rfl, h⟩
theorem rAt.here {k : β → Sto → List Addr → Hp → Prop} {b : β} (h : rAt g W α S (fun _ => M.pure b) σ H k) : ∀ α' H', Ext α α' H H' → g.At α' H' S → k b S α' H' := by
  obtain ⟨ρ, a, r, h⟩ := h
  exact h
theorem rAt.at_ {k : β → Sto → List Addr → Hp → Prop} (h : rAt g W α S m σ H k) : g.At α H S := let ⟨_, a, _⟩ := h; a
end

/-! ### the readings -/
def rE (g : Gc) (W : WX) (m : Sl → M D) : TE := fun σ H Q => rM g W m σ H fun d _ α' H' => ∀ v, g.Tl α' H' d v → Q v H'
def rT (g : Gc) (W : WX) (m : Sl → M D) : TT := fun σ H Q => rM g W m σ H fun d _ _ H' => ∃ b, d = .p (.bool b) ∧ Q b H'
def rA (g : Gc) (W : WX) (m : Sl → M (List D)) : TA := fun σ H Q => rM g W m σ H fun ds _ α' H' => ∀ vs, g.TlA α' H' ds vs → Q vs H'
/-- a list that lies apart from the store -/
def rL (g : Gc) (W : WX) (m : Sl → M (List D)) : TE := fun σ H Q => rM g W m σ H fun ds _ α' H' => ∀ p xs, p ∉ α' → SqL g.K H' p xs → H' p = some (.lst xs) → g.TlA α' H' ds xs → Q (.ref p) H'
section
variable {X : Cx} {g : Gc} {W : WX}
theorem pe_imp {e : Expr} {t t' : TE} (h : PE X e t) (i : ∀ σ H Q, t' σ H Q → t σ H Q) : PE X e t' := ⟨fun pins s σ H Q I q => h.run pins s σ H Q I (i σ H Q q)⟩
theorem pt_imp {e : Expr} {t t' : TT} (h : PT X e t) (i : ∀ σ H Q, t' σ H Q → t σ H Q) : PT X e t' := ⟨fun pins s σ H Q I q => h.run pins s σ H Q I (i σ H Q q)⟩
theorem pw_imp {e : Expr} {t t' : TT} (h : PW X e t) (i : ∀ σ H Q, t' σ H Q → t σ H Q) : PW X e t' := ⟨fun w pins s σ H Q I q => h.run w pins s σ H Q I (i σ H Q q)⟩
theorem pa_imp {e : List Expr} {t t' : TA} (h : PA X e t) (i : ∀ σ H Q, t' σ H Q → t σ H Q) : PA X e t' := ⟨fun p pins s σ H Q I q => h.run p pins s σ H Q I (i σ H Q q)⟩
theorem ps_imp {e : Stmt} {t t' : TS} (h : PS X e t) (i : ∀ D σ H, t' D σ H → t D σ H) : PS X e t' := ⟨fun pins s σ H D I q => h.run pins s σ H D I (i D σ H q)⟩
theorem pss_imp {e : List Stmt} {t t' : TS} (h : PSs X e t) (i : ∀ D σ H, t' D σ H → t D σ H) : PSs X e t' := ⟨fun pins s σ H D I q => h.run pins s σ H D I (i D σ H q)⟩
theorem pi_imp {tg iter : Expr} {t t' : TI} (h : PI X tg iter t) (i : ∀ σ H R, t' σ H R → t σ H R) : PI X tg iter t' := ⟨fun pins s σ H R I q => h.run pins s σ H R I (i σ H R q)⟩
end

section
variable {X : Cx} {g : Gc} {W : WX} {cal : Nat → List D → M D} {pos : Pos}
/-! ### names and constants -/
theorem e_var (i : Nat) {x : Str} (hN : X.N[i]? = some x := by rfl) (hv : Vis X.env.scope x := by first | exact Or.inl rfl | exact Or.inr (Or.inl rfl) | exact Or.inr (Or.inr rfl)) (hd : (x == ("__debug__" : Str)) = false := by decide)
    (hcd : (x == ("__classdict__" : Str)) = false := by decide) : PE X (.Name x pos) (rE g W (evE cal (.var i))) := by
  refine pe_imp (pe_var hN hv hd hcd) fun σ H Q h => ?_
  obtain ⟨α, S, ρ, a, r, h⟩ := h
  have h : wp ((M.opt (match ρ[i]? with | some (some d) => some d | _ => none) : M D) S) (fun b S' => ∀ α' H', Ext α α' H H' → g.At α' H' S' → ∀ v, g.Tl α' H' b v → Q v H') (exW g W α σ H) := h
  cases e : ρ[i]? with
  | none => simp only [e, M.opt] at h; exact h.elim
  | some o =>
    cases o with
    | none => simp only [e, M.opt] at h; exact h.elim
    | some d =>
      simp only [e, M.opt] at h
      obtain ⟨v, h1, h2⟩ := r.at_ i d e
      exact ⟨v, h1, h α H (Ext.refl α H) a v h2⟩
theorem cst_of {d : D} {v : V} {σ : L2.St} {H : Hp} {Q : VK} (h : rE g W (evE cal (.cst d)) σ H Q) (t : ∀ α, g.Tl α H d v) : Q v H := by
  obtain ⟨α, S, ρ, a, r, h⟩ := h
  exact h α H (Ext.refl α H) a v (t α)
theorem e_int {i : Int} {j : Nat} : PE X (.Constant (.int i) j pos) (rE g W (evE cal (.cst (.p (.int i))))) := pe_imp pe_int fun _ _ _ h => cst_of h fun _ => .int i
theorem e_bl {b : Bool} {j : Nat} : PE X (.Constant (.bool b) j pos) (rE g W (evE cal (.cst (.p (.bool b))))) := pe_imp pe_bl fun _ _ _ h => cst_of h fun _ => .bl b
theorem e_non {j : Nat} : PE X (.Constant .none j pos) (rE g W (evE cal (.cst (.p .none)))) := pe_imp pe_non fun _ _ _ h => cst_of h fun _ => .non
theorem e_str {x : Str} {j : Nat} : PE X (.Constant (.str x) j pos) (rE g W (evE cal (.cst (.p (.str x))))) := pe_imp pe_str fun _ _ _ h => cst_of h fun _ => .str x
/-- a constant of the module: its value tells d in every heap -/
structure Gv (g : Gc) (mg : Str → Option Value) (x : Str) (d : D) : Prop where
  ex : ∃ v u, mg x = some u ∧ RelV v u ∧ ∀ α H, g.Tl α H d v
theorem e_glob {x : Str} {d : D} (c : Gv g X.mg x d) (hg : Gl X x := by rfl) (hd : (x == ("__debug__" : Str)) = false := by decide) : PE X (.Name x pos) (rE g W (evE cal (.cst d))) := by
  obtain ⟨v, u, h1, h2, h3⟩ := c.ex
  exact pe_imp (pe_glob hg h1 h2 hd) fun σ H Q h => cst_of h fun α => h3 α H

/-! ### operators -/
/-- an operation by values, the heap as it stands or one new object more -/
def Op2 (g : Gc) (f : Sto → D → D → Option D) (r : R2) : Prop := ∀ α H S dx dy dz x y (Q : VK), g.At α H S → g.Tl α H dx x → g.Tl α H dy y → f S dx dy = some dz →
  (∀ α' H', Ext α α' H H' → g.At α' H' S → ∀ v, g.Tl α' H' dz v → Q v H') → r x y H Q
theorem tOp_of {r : R2} {ma mb : Sl → M D} {f : Sto → D → D → Option D} (o : Op2 g f r) {σ : L2.St} {H : Hp} {Q : VK}
    (h : rE g W (fun ρ => M.bind (ma ρ) fun x => M.bind (mb ρ) fun y => fun S => M.opt (f S x y) S) σ H Q) : tOp r (rE g W ma) (rE g W mb) σ H Q := by
  obtain ⟨α, S, h⟩ := h
  refine ⟨α, S, h.bind.imp fun x S1 α1 H1 e1 a1 h1 v tv => ⟨α1, S1, h1.bind.imp fun y S2 α2 H2 e2 a2 h2 u tu => ?_⟩⟩
  obtain ⟨z, hz, q⟩ := h2.opt
  exact o α2 H2 S2 x y z v u Q a2 (tv.ext e2 a1) tu hz q
theorem e_bin {op : Operator} {o : BOp} {r : R2} {a b : Expr} {ia ib : E} (ho : OpR X (binaryOp op) r) (oo : Op2 g (fun _ => bop o) r) (ha : PE X a (rE g W (evE cal ia))) (hb : PE X b (rE g W (evE cal ib))) :
    PE X (.BinOp a op b pos) (rE g W (evE cal (.bin o ia ib))) := pe_imp (pe_op ho ha hb) fun _ _ _ h => tOp_of oo h
theorem e_cmp {op : CmpOp} {o : COp} {r : R2} {a b : Expr} {ia ib : E} (ho : OpR X (compareOp op) r) (oo : Op2 g (fun S x y => (cop S o x y).map fun k => .p (.bool k)) r) (ha : PE X a (rE g W (evE cal ia))) (hb : PE X b (rE g W (evE cal ib)))
    (hm : behindInMarks op b = false := by first | exact nomark _ (by decide) (by decide) | rfl) : PE X (.Compare a [op] [b] pos) (rE g W (evE cal (.cmp o ia ib))) := pe_imp (pe_cmpR ho ha hb hm) fun _ _ _ h => tOp_of oo h
theorem t_of {t : TE} {m : Sl → M D} {σ : L2.St} {H : Hp} {Q : Bool → Hp → Prop} (i : ∀ Q', rE g W m σ H Q' → t σ H Q') (h : rT g W m σ H Q) : t σ H fun x H' => ∃ k, x = .bl k ∧ Q k H' := by
  refine i _ ?_
  obtain ⟨α, S, h⟩ := h
  refine ⟨α, S, h.imp fun d S1 α1 H1 e1 a1 q v tv => ?_⟩
  obtain ⟨b, rfl, q⟩ := q
  cases tv
  exact ⟨b, rfl, q⟩
theorem t_cmp {op : CmpOp} {o : COp} {r : R2} {a b : Expr} {ia ib : E} (ho : OpR X (compareOp op) r) (oo : Op2 g (fun S x y => (cop S o x y).map fun k => .p (.bool k)) r) (ha : PE X a (rE g W (evE cal ia))) (hb : PE X b (rE g W (evE cal ib)))
    (hm : behindInMarks op b = false := by first | exact nomark _ (by decide) (by decide) | rfl) : PT X (.Compare a [op] [b] pos) (rT g W (evE cal (.cmp o ia ib))) :=
  pt_imp (pt_cmpR ho ha hb hm) fun _ _ _ h => t_of (fun _ q => tOp_of oo q) h
theorem t_val {e : Expr} {ie : E} (h : PE X e (rE g W (evE cal ie))) (he : ∀ whole, isTrue e X.env whole = (do let v ← whole; standAt e.pos; holding [v] (truthy v)) := by intro _; rfl) : PT X e (rT g W (evE cal ie)) :=
  pt_imp (pt_val h he) fun _ _ _ q => t_of (fun _ z => z) q
theorem tChain_of {r r' : R2} {ma mb mc : Sl → M D} {o o' : COp} (oo : Op2 g (fun S x y => (cop S o x y).map fun k => .p (.bool k)) r) (oo' : Op2 g (fun S x y => (cop S o' x y).map fun k => .p (.bool k)) r') {σ : L2.St} {H : Hp} {Q : VK}
    (h : rE g W (fun ρ => M.bind (ma ρ) fun x => M.bind (mb ρ) fun y => M.bind (fun S => M.opt (cop S o x y) S) fun k =>
      if k = true then M.bind (mc ρ) fun z => fun S => M.opt ((cop S o' y z).map fun k => .p (.bool k)) S else M.pure (.p (.bool false))) σ H Q) : tChain r r' (rE g W ma) (rE g W mb) (rE g W mc) σ H Q := by
  obtain ⟨α, S, h⟩ := h
  refine ⟨α, S, h.bind.imp fun x S1 α1 H1 e1 a1 h1 v tv => ⟨α1, S1, h1.bind.imp fun y S2 α2 H2 e2 a2 h2 u tu => ?_⟩⟩
  have h3 := (rAt.bind (m := fun _ => fun S => M.opt (cop S o x y) S) (f := fun k ρ => if k = true then M.bind (mc ρ) fun z => fun S => M.opt ((cop S o' y z).map fun k => D.p (.bool k)) S else M.pure (.p (.bool false))) h2).opt
  obtain ⟨k, hk, q⟩ := h3
  refine oo α2 H2 S2 x y (.p (.bool k)) v u _ a2 (tv.ext e2 a1) tu (by show Option.map _ (cop S2 o x y) = _; rw [hk]; rfl) fun α3 H3 e3 a3 z tz => ?_
  cases tz
  refine ⟨k, rfl, ?_⟩
  have q3 := q α3 H3 e3 a3
  cases k with
  | false => exact q3.here α3 H3 (Ext.refl _ _) a3 _ (.bl false)
  | true =>
    refine ⟨α3, S2, (rAt.bind (m := mc) (f := fun z _ => fun S => M.opt ((cop S o' y z).map fun k => D.p (.bool k)) S) q3).imp fun z S4 α4 H4 e4 a4 h4 t tt => ?_⟩
    obtain ⟨zz, hz, q4⟩ := h4.opt
    exact oo' α4 H4 S4 y z zz u t Q a4 ((tu.ext e3 a2).ext e4 a3) tt hz q4
theorem e_chain {op op' : CmpOp} {o o' : COp} {r r' : R2} {a b c : Expr} {ia ib ic : E} (ho : OpR X (compareOp op) r) (ho' : OpR X (compareOp op') r') (oo : Op2 g (fun S x y => (cop S o x y).map fun k => .p (.bool k)) r)
    (oo' : Op2 g (fun S x y => (cop S o' x y).map fun k => .p (.bool k)) r') (ha : PE X a (rE g W (evE cal ia))) (hb : PE X b (rE g W (evE cal ib))) (hc : PE X c (rE g W (evE cal ic))) (hm : lastMarks [op, op'] [b, c] = false := by with_unfolding_all rfl) :
    PE X (.Compare a [op, op'] [b, c] pos) (rE g W (evE cal (.chain o o' ia ib ic))) := pe_imp (pe_chain ho ho' ha hb hc hm) fun _ _ _ h => tChain_of oo oo' h
theorem t_chain {op op' : CmpOp} {o o' : COp} {r r' : R2} {a b c : Expr} {ia ib ic : E} (ho : OpR X (compareOp op) r) (ho' : OpR X (compareOp op') r') (oo : Op2 g (fun S x y => (cop S o x y).map fun k => .p (.bool k)) r)
    (oo' : Op2 g (fun S x y => (cop S o' x y).map fun k => .p (.bool k)) r') (ha : PE X a (rE g W (evE cal ia))) (hb : PE X b (rE g W (evE cal ib))) (hc : PE X c (rE g W (evE cal ic))) (hm : lastMarks [op, op'] [b, c] = false := by with_unfolding_all rfl) :
    PT X (.Compare a [op, op'] [b, c] pos) (rT g W (evE cal (.chain o o' ia ib ic))) := pt_imp (pt_chain ho ho' ha hb hc hm) fun _ _ _ h => t_of (fun _ q => tChain_of oo oo' q) h

/-! ### and, or, not -/
theorem asBool_of {d : D} {b : Bool} (h : asBool d = some b) : d = .p (.bool b) := by
  cases d with
  | p d => cases d <;> simp [asBool] at h; rw [h]
  | ref _ => simp [asBool] at h
  | fn _ => simp [asBool] at h
theorem e_one {op : BoolOp} {a : Expr} {m : Sl → M D} (h : PE X a (rE g W m)) : PE X (.BoolOp op [a] pos) (rE g W m) := pe_one h
theorem andV_of {ma mb : Sl → M D} {σ : L2.St} {H : Hp} {Q : VK} (h : rE g W (fun ρ => M.bind (ma ρ) fun x => M.bind (M.opt (asBool x)) fun k => if k = true then mb ρ else M.pure (.p (.bool false))) σ H Q) :
    tAndV (rE g W ma) (rE g W mb) σ H Q := by
  obtain ⟨α, S, h⟩ := h
  refine ⟨α, S, h.bind.imp fun x S1 α1 H1 e1 a1 h1 v tv => ?_⟩
  obtain ⟨k, hk, q⟩ := (rAt.bind (m := fun _ => M.opt (asBool x)) (f := fun k ρ => if k = true then mb ρ else M.pure (.p (.bool false))) h1).opt
  rw [asBool_of hk] at tv
  cases tv
  refine ⟨k, rfl, ?_⟩
  have q := q α1 H1 (Ext.refl _ _) a1
  cases k with
  | true => exact ⟨α1, S1, q⟩
  | false => exact q.here α1 H1 (Ext.refl _ _) a1 _ (.bl false)
theorem orV_of {ma mb : Sl → M D} {σ : L2.St} {H : Hp} {Q : VK} (h : rE g W (fun ρ => M.bind (ma ρ) fun x => M.bind (M.opt (asBool x)) fun k => if k = true then M.pure (.p (.bool true)) else mb ρ) σ H Q) :
    tOrV (rE g W ma) (rE g W mb) σ H Q := by
  obtain ⟨α, S, h⟩ := h
  refine ⟨α, S, h.bind.imp fun x S1 α1 H1 e1 a1 h1 v tv => ?_⟩
  obtain ⟨k, hk, q⟩ := (rAt.bind (m := fun _ => M.opt (asBool x)) (f := fun k ρ => if k = true then M.pure (.p (.bool true)) else mb ρ) h1).opt
  rw [asBool_of hk] at tv
  cases tv
  refine ⟨k, rfl, ?_⟩
  have q := q α1 H1 (Ext.refl _ _) a1
  cases k with
  | true => exact q.here α1 H1 (Ext.refl _ _) a1 _ (.bl true)
  | false => exact ⟨α1, S1, q⟩
theorem e_and {a b : Expr} {rest : List Expr} {ia ib : E} (ha : PE X a (rE g W (evE cal ia))) (hb : PE X (.BoolOp .And (b :: rest) pos) (rE g W (evE cal ib))) : PE X (.BoolOp .And (a :: b :: rest) pos) (rE g W (evE cal (.and ia ib))) := pe_imp (pe_and ha hb) fun _ _ _ h => andV_of h
theorem e_or {a b : Expr} {rest : List Expr} {ia ib : E} (ha : PE X a (rE g W (evE cal ia))) (hb : PE X (.BoolOp .Or (b :: rest) pos) (rE g W (evE cal ib))) : PE X (.BoolOp .Or (a :: b :: rest) pos) (rE g W (evE cal (.or ia ib))) := pe_imp (pe_or ha hb) fun _ _ _ h => orV_of h
theorem e_not {a : Expr} {ia : E} (ha : PE X a (rE g W (evE cal ia))) : PE X (.UnaryOp .Not a pos) (rE g W (evE cal (.not ia))) := pe_imp (pe_not ha) fun σ H Q h => by
  obtain ⟨α, S, h⟩ := h
  refine ⟨α, S, (rAt.bind (m := evE cal ia) (f := fun x _ => M.bind (M.opt (asBool x)) fun k => M.pure (D.p (.bool (!k)))) h).imp fun x S1 α1 H1 e1 a1 h1 v tv => ?_⟩
  obtain ⟨k, hk, q⟩ := (rAt.bind (m := fun _ => M.opt (asBool x)) (f := fun k _ => M.pure (D.p (.bool (!k)))) h1).opt
  rw [asBool_of hk] at tv
  cases tv
  exact ⟨k, rfl, (q α1 H1 (Ext.refl _ _) a1).here α1 H1 (Ext.refl _ _) a1 _ (.bl _)⟩
/-- tests: the answer of the first, then the rest -/
theorem and_of {ma mb : Sl → M D} {σ : L2.St} {H : Hp} {Q : Bool → Hp → Prop} (h : rT g W (fun ρ => M.bind (ma ρ) fun x => M.bind (M.opt (asBool x)) fun k => if k = true then mb ρ else M.pure (.p (.bool false))) σ H Q) :
    tAnd (rT g W ma) (rT g W mb) σ H Q := by
  obtain ⟨α, S, h⟩ := h
  refine ⟨α, S, h.bind.imp fun x S1 α1 H1 e1 a1 h1 => ?_⟩
  obtain ⟨k, hk, q⟩ := (rAt.bind (m := fun _ => M.opt (asBool x)) (f := fun k ρ => if k = true then mb ρ else M.pure (.p (.bool false))) h1).opt
  refine ⟨k, asBool_of hk, ?_⟩
  have q := q α1 H1 (Ext.refl _ _) a1
  cases k with
  | true => exact ⟨α1, S1, q⟩
  | false =>
    obtain ⟨b, e, q⟩ := q.here α1 H1 (Ext.refl _ _) a1
    cases e
    exact q
theorem or_of {ma mb : Sl → M D} {σ : L2.St} {H : Hp} {Q : Bool → Hp → Prop} (h : rT g W (fun ρ => M.bind (ma ρ) fun x => M.bind (M.opt (asBool x)) fun k => if k = true then M.pure (.p (.bool true)) else mb ρ) σ H Q) :
    tOr (rT g W ma) (rT g W mb) σ H Q := by
  obtain ⟨α, S, h⟩ := h
  refine ⟨α, S, h.bind.imp fun x S1 α1 H1 e1 a1 h1 => ?_⟩
  obtain ⟨k, hk, q⟩ := (rAt.bind (m := fun _ => M.opt (asBool x)) (f := fun k ρ => if k = true then M.pure (.p (.bool true)) else mb ρ) h1).opt
  refine ⟨k, asBool_of hk, ?_⟩
  have q := q α1 H1 (Ext.refl _ _) a1
  cases k with
  | true =>
    obtain ⟨b, e, q⟩ := q.here α1 H1 (Ext.refl _ _) a1
    cases e
    exact q
  | false => exact ⟨α1, S1, q⟩
theorem w_and1 {a : Expr} {m : Sl → M D} (h : PT X a (rT g W m)) : PW X (.BoolOp .And [a] pos) (rT g W m) := pw_and1 h
theorem w_or1 {a : Expr} {m : Sl → M D} (h : PT X a (rT g W m)) : PW X (.BoolOp .Or [a] pos) (rT g W m) := pw_or1 h
theorem w_and {a b : Expr} {rest : List Expr} {ia ib : E} (ha : PT X a (rT g W (evE cal ia))) (hb : PW X (.BoolOp .And (b :: rest) pos) (rT g W (evE cal ib))) : PW X (.BoolOp .And (a :: b :: rest) pos) (rT g W (evE cal (.and ia ib))) := pw_imp (pw_and ha hb) fun _ _ _ h => and_of h
theorem w_or {a b : Expr} {rest : List Expr} {ia ib : E} (ha : PT X a (rT g W (evE cal ia))) (hb : PW X (.BoolOp .Or (b :: rest) pos) (rT g W (evE cal ib))) : PW X (.BoolOp .Or (a :: b :: rest) pos) (rT g W (evE cal (.or ia ib))) := pw_imp (pw_or ha hb) fun _ _ _ h => or_of h
theorem t_w {e : Expr} {m : Sl → M D} (h : PW X e (rT g W m)) : PT X e (rT g W m) := h.pt
theorem t_not {a : Expr} {ia : E} (ha : PT X a (rT g W (evE cal ia))) : PT X (.UnaryOp .Not a pos) (rT g W (evE cal (.not ia))) := pt_imp (pt_not ha) fun σ H Q h => by
  obtain ⟨α, S, h⟩ := h
  refine ⟨α, S, (rAt.bind (m := evE cal ia) (f := fun x _ => M.bind (M.opt (asBool x)) fun k => M.pure (D.p (.bool (!k)))) h).imp fun x S1 α1 H1 e1 a1 h1 => ?_⟩
  obtain ⟨k, hk, q⟩ := (rAt.bind (m := fun _ => M.opt (asBool x)) (f := fun k _ => M.pure (D.p (.bool (!k)))) h1).opt
  obtain ⟨b, e, q⟩ := (q α1 H1 (Ext.refl _ _) a1).here α1 H1 (Ext.refl _ _) a1
  cases e
  exact ⟨k, asBool_of hk, q⟩
theorem e_ifx {c a b : Expr} {ic ia ib : E} (hc : PT X c (rT g W (evE cal ic))) (ha : PE X a (rE g W (evE cal ia))) (hb : PE X b (rE g W (evE cal ib))) : PE X (.IfExp c a b pos) (rE g W (evE cal (.ifx ic ia ib))) := pe_imp (pe_ifExp hc ha hb) fun σ H Q h => by
  obtain ⟨α, S, h⟩ := h
  refine ⟨α, S, (rAt.bind (m := evE cal ic) (f := fun x ρ => M.bind (M.opt (asBool x)) fun k => if k = true then evE cal ia ρ else evE cal ib ρ) h).imp fun x S1 α1 H1 e1 a1 h1 => ?_⟩
  obtain ⟨k, hk, q⟩ := (rAt.bind (m := fun _ => M.opt (asBool x)) (f := fun k ρ => if k = true then evE cal ia ρ else evE cal ib ρ) h1).opt
  refine ⟨k, asBool_of hk, ?_⟩
  have q := q α1 H1 (Ext.refl _ _) a1
  cases k with
  | true => exact ⟨α1, S1, q⟩
  | false => exact ⟨α1, S1, q⟩
end
end Ir
set_option Elab.async false
set_option maxRecDepth 100000
set_option maxHeartbeats 4000001
/-! Operators by values, calls, displays, subscripts, built-ins. -/
namespace Ir
open PySem L2 PySem.Spec PyProof.Rows

section
variable {g : Gc} {α α' : List Addr} {H H' : Hp} {S S' : Sto}
theorem Ext.none {K : PySem.W.Frag} {ph : Nat → Option Addr} (e : Ext α α' H H') (x' : At K ph α' H' S') {p : Addr} (h : H' p = none) : H p = none := by
  cases q : H p with
  | none => rfl
  | some o =>
    by_cases m : p ∈ α
    · obtain ⟨i, hi, e1⟩ := List.getElem_of_mem m
      have m' := mem_at (e.pre i p (by rw [List.getElem?_eq_getElem hi, e1]))
      rcases x'.mut m' with ⟨_, z⟩ | ⟨_, z⟩ <;> (rw [h] at z; cases z)
    · rw [e.keep p o q m] at h; cases h
theorem At.notin {K : PySem.W.Frag} {ph : Nat → Option Addr} (x : At K ph α H S) {p : Addr} (h : H p = none) : p ∉ α := fun m => by
  rcases x.mut m with ⟨_, z⟩ | ⟨_, z⟩ <;> (rw [h] at z; cases z)
theorem Ext.notin {p : Addr} {o : HO} (e : Ext α α' H H') (h : H p = some o) (n : p ∉ α) : p ∉ α' := fun m => by
  rcases e.new p m with z | z
  · exact n z
  · rw [h] at z; cases z

/-! ### operators -/
theorem two_p {f : D → D → Option D} {dx dy dz : D} (h : f dx dy = some dz) (h1 : ∀ i y, f (.ref i) y = none) (h2 : ∀ i y, f (.fn i) y = none) (h3 : ∀ x i, f (.p x) (.ref i) = none) (h4 : ∀ x i, f (.p x) (.fn i) = none) :
    ∃ x y, dx = .p x ∧ dy = .p y := by
  cases dx with
  | p x =>
    cases dy with
    | p y => exact ⟨x, y, rfl, rfl⟩
    | ref i => rw [h3] at h; cases h
    | fn i => rw [h4] at h; cases h
  | ref i => rw [h1] at h; cases h
  | fn i => rw [h2] at h; cases h
/-- two ints -/
theorem o_int {o : BOp} {C : Int → Int → Prop} {gv : Int → Int → V} {f : Int → Int → Int} (hg : ∀ i j, gv i j = .int (f i j))
    (h : ∀ dx dy dz, bop o dx dy = some dz → ∃ i j, dx = .p (.int i) ∧ dy = .p (.int j) ∧ C i j ∧ dz = .p (.int (f i j))) : Op2 g (fun _ => bop o) (rI C gv) := by
  intro α H S dx dy dz x y Q a tx ty hz k
  obtain ⟨i, j, rfl, rfl, c, rfl⟩ := h _ _ _ hz
  cases tx
  cases ty
  exact ⟨i, j, rfl, rfl, c, by rw [hg]; exact k α H (Ext.refl _ _) a _ (.int _)⟩
theorem o_sub : Op2 g (fun _ => bop .sub) (rI0 fun i j => .int (i - j)) := by
  intro α H S dx dy dz x y Q a tx ty hz k
  have h : bop .sub dx dy = some dz := hz
  unfold bop at h
  split at h <;> first | (cases h; done) | skip
  all_goals (try (exfalso; simp_all; done))
  cases h
  cases tx
  cases ty
  exact ⟨_, _, rfl, rfl, k α H (Ext.refl _ _) a _ (.int _)⟩
/-- a new tuple, its object known -/
def rCatF (K : PySem.W.Frag) : R2 := fun x y H Q => ∃ a b xs ys, x = .ref a ∧ y = .ref b ∧ SqT K H a xs ∧ SqT K H b ys ∧ xs.length + ys.length ≤ sizeLine ∧
  (xs = [] → Q (.ref b) H) ∧ (ys = [] → Q (.ref a) H) ∧ ∀ p o, H p = none → o.dict = none → Q (.ref p) (upd H p (.frz o (.tup (xs ++ ys))))
theorem frz_new {P : Program} {w : World} {H : Hp} {h : Heap} {vs : List V} {us : List Value} (r : Vals vs us) (hz : vs.length ≤ sizeLine) :
    ObjOk P w H (h.push { cls := .type "tuple", data := .seq us.toArray }) h.objs.size (.frz { cls := .type "tuple", data := .seq us.toArray } (.tup vs)) :=
  ⟨Heap.get?_push_size _ rfl, hz, us, r, IsTup.new _ _⟩
theorem op_catF {X : Cx} : OpR X (binaryOp .Add) (rCatF X.K) := by
  intro pins s σ H x y v u Q I rx ry h
  obtain ⟨a, b, xs, ys, rfl, rfl, ha, hb, hz, q0, q1, q2⟩ := h
  cases rx
  cases ry
  obtain ⟨us, r1, p1, _⟩ := I.tuple ha
  obtain ⟨ws, r2, p2, _⟩ := I.tuple hb
  by_cases hx : us = []
  · subst hx
    cases r1
    exact cat_tup0 p1 p2 ⟨.ref b, H, I, rfl, q0 rfl⟩
  · refine HT.cat_tup p1 p2 hx (fun z => ⟨.ref a, H, I, rfl, q1 (by subst z; cases r2; rfl)⟩) (fun z => ?_) (by rw [← r1.length, ← r2.length]; exact hz)
    refine ⟨.ref s.heap.objs.size, upd H s.heap.objs.size (.frz { cls := .type "tuple", data := .seq (us ++ ws).toArray } (.tup (xs ++ ys))), I.laid (t' := s.toks) (fun b o q => Heap.get?_push_of_some _ q) (Nat.le_refl _) ?_, rfl, q2 _ _ (I.hok.fresh (Nat.le_refl _)) rfl⟩
    exact frz_new (r1.append r2) (by rw [List.length_append]; exact hz)
theorem o_add : Op2 g (fun _ => bop .add) (fun x y H Q => (rI0 (fun i j => .int (i + j)) x y H Q ∨ ∃ i j, x = .str i ∧ y = .str j ∧ i.length + j.length ≤ sizeLine ∧ Q (.str (i ++ j)) H) ∨ rCatF g.K x y H Q) := by
  intro α H S dx dy dz x y Q a tx ty hz k
  have h : bop .add dx dy = some dz := hz
  unfold bop at h
  split at h <;> first | (cases h; done) | skip
  all_goals (try (exfalso; simp_all; done))
  · cases h
    cases tx
    cases ty
    exact .inl (.inl ⟨_, _, rfl, rfl, k α H (Ext.refl _ _) a _ (.int _)⟩)
  · split at h
    · rename_i hl
      cases h
      cases tx
      cases ty
      exact .inl (.inr ⟨_, _, rfl, rfl, hl, k α H (Ext.refl _ _) a _ (.str _)⟩)
    · cases h
  · split at h
    · rename_i hl
      cases h
      cases tx with
      | @tup b xs _ hq ha =>
        cases ty with
        | @tup c ys _ hr hb =>
          refine .inr ⟨b, c, xs, ys, rfl, rfl, hq.sq, hr.sq, by rw [← ha.length, ← hb.length]; exact hl, fun e => ?_, fun e => ?_, fun p o hp ho => ?_⟩
          · subst e
            cases ha
            exact k α H (Ext.refl _ _) a _ (.tup hr hb)
          · subst e
            cases hb
            exact k α H (Ext.refl _ _) a _ (.tup hq (by rw [List.append_nil]; exact ha))
          · obtain ⟨e1, a1⟩ := At.fresh a hp (u := .frz o (.tup (xs ++ ys)))
            exact k α _ e1 a1 _ (.tup (.inl ⟨o, upd_same, ho⟩) (TpA.append (ha.keep (e1.kt a)) (hb.keep (e1.kt a))))
    · cases h
theorem o_mul : Op2 g (fun _ => bop .mul) (rI CMul fun i j => .int (i * j)) := by
  refine o_int (f := fun i j => i * j) (fun _ _ => rfl) fun dx dy dz h => ?_
  unfold bop at h
  split at h <;> first | (cases h; done) | skip
  all_goals (try (exfalso; simp_all; done))
  split at h
  · rename_i c
    cases h
    exact ⟨_, _, rfl, rfl, c, rfl⟩
  · cases h
theorem o_fdiv : Op2 g (fun _ => bop .fdiv) (rI CDivW fun i j => .int (i / j)) := by
  refine o_int (f := fun i j => i / j) (fun _ _ => rfl) fun dx dy dz h => ?_
  unfold bop at h
  split at h <;> first | (cases h; done) | skip
  all_goals (try (exfalso; simp_all; done))
  split at h
  · rename_i c
    cases h
    exact ⟨_, _, rfl, rfl, c, rfl⟩
  · cases h
theorem o_mod : Op2 g (fun _ => bop .mod) (rI (fun _ j => 0 < j) fun i j => .int (i % j)) := by
  refine o_int (f := fun i j => i % j) (fun _ _ => rfl) fun dx dy dz h => ?_
  unfold bop at h
  split at h <;> first | (cases h; done) | skip
  all_goals (try (exfalso; simp_all; done))
  split at h
  · rename_i c
    cases h
    exact ⟨_, _, rfl, rfl, c, rfl⟩
  · cases h
theorem o_pow : Op2 g (fun _ => bop .pow) (rI CPow fun i j => .int (i ^ j.toNat)) := by
  refine o_int (f := fun i j => i ^ j.toNat) (fun _ _ => rfl) fun dx dy dz h => ?_
  unfold bop at h
  split at h <;> first | (cases h; done) | skip
  all_goals (try (exfalso; simp_all; done))
  split at h
  · rename_i c
    cases h
    exact ⟨_, _, rfl, rfl, c, rfl⟩
  · cases h
abbrev OpC (g : Gc) (o : COp) (r : R2) := Op2 g (fun S x y => (cop S o x y).map fun k => .p (.bool k)) r
theorem o_cmpI {o : COp} {f : Int → Int → Bool} (h : ∀ S dx dy k, cop S o dx dy = some k → ∃ i j, dx = .p (.int i) ∧ dy = .p (.int j) ∧ k = f i j) : OpC g o (rI0 fun i j => .bl (f i j)) := by
  intro α H S dx dy dz x y Q a tx ty hz k
  cases e : cop S o dx dy with
  | none => simp [e] at hz
  | some b =>
    simp [e] at hz
    subst hz
    obtain ⟨i, j, rfl, rfl, rfl⟩ := h _ _ _ _ e
    cases tx
    cases ty
    exact ⟨i, j, rfl, rfl, k α H (Ext.refl _ _) a _ (.bl _)⟩
theorem o_lt : OpC g .lt (rI0 fun i j => .bl (decide (i < j))) := o_cmpI fun S dx dy k h => by
  unfold cop at h
  split at h <;> first | (cases h; done) | skip
  all_goals (try (exfalso; simp_all; done))
  cases h
  exact ⟨_, _, rfl, rfl, rfl⟩
theorem o_le : OpC g .le (rI0 fun i j => .bl (decide (i ≤ j))) := o_cmpI fun S dx dy k h => by
  unfold cop at h
  split at h <;> first | (cases h; done) | skip
  all_goals (try (exfalso; simp_all; done))
  cases h
  exact ⟨_, _, rfl, rfl, rfl⟩
theorem o_gt : OpC g .gt (rI0 fun i j => .bl (decide (j < i))) := o_cmpI fun S dx dy k h => by
  unfold cop at h
  split at h <;> first | (cases h; done) | skip
  all_goals (try (exfalso; simp_all; done))
  cases h
  exact ⟨_, _, rfl, rfl, rfl⟩
theorem o_ge : OpC g .ge (rI0 fun i j => .bl (decide (j ≤ i))) := o_cmpI fun S dx dy k h => by
  unfold cop at h
  split at h <;> first | (cases h; done) | skip
  all_goals (try (exfalso; simp_all; done))
  cases h
  exact ⟨_, _, rfl, rfl, rfl⟩
theorem eqv_scal {K : PySem.W.Frag} {dx dy : PyData} {x y : V} (tx : Tp K H dx x) (ty : Tp K H dy y) (h : sameScal dx dy = true) : scal x y = true ∧ decide (x = y) = PyData.eqv dx dy := by
  cases dx <;> cases dy <;> first | (simp [sameScal] at h; done) | skip
  all_goals (cases tx; cases ty; refine ⟨rfl, ?_⟩)
  all_goals first | (simp [PyData.eqv]; done) | exact dec_bl.trans (by simp [PyData.eqv]) | exact dec_int.trans (by simp [PyData.eqv]) | exact dec_str.trans (by simp [PyData.eqv])
theorem o_eq : OpC g .eq (fun x y H Q => rEq x y H Q ∨ rEqD g.K x y H Q) := by
  intro α H S dx dy dz x y Q a tx ty hz k
  have hz : (eqD dx dy).map (fun k => D.p (.bool k)) = some dz := hz
  unfold eqD at hz
  split at hz
  · split at hz
    · rename_i u v hs
      obtain ⟨h1, h2⟩ := eqv_scal tx ty hs
      simp at hz
      subst hz
      exact .inl ⟨h1, by rw [h2]; exact k α H (Ext.refl _ _) a _ (.bl _)⟩
    · split at hz
      · rename_i hs
        rw [Bool.and_eq_true] at hs
        simp at hz
        subst hz
        exact .inr ⟨_, _, Tp.dp tx, Tp.dp ty, hs.1, hs.2, k α H (Ext.refl _ _) a _ (.bl _)⟩
      · simp at hz
  · simp at hz
theorem o_ne : OpC g .ne (fun x y H Q => rNe x y H Q ∨ rNeD g.K x y H Q) := by
  intro α H S dx dy dz x y Q a tx ty hz k
  have hz : ((eqD dx dy).map (!·)).map (fun k => D.p (.bool k)) = some dz := hz
  unfold eqD at hz
  split at hz
  · split at hz
    · rename_i u v hs
      obtain ⟨h1, h2⟩ := eqv_scal tx ty hs
      simp at hz
      subst hz
      exact .inl ⟨h1, by rw [h2]; exact k α H (Ext.refl _ _) a _ (.bl _)⟩
    · split at hz
      · rename_i hs
        rw [Bool.and_eq_true] at hs
        simp at hz
        subst hz
        exact .inr ⟨_, _, Tp.dp tx, Tp.dp ty, hs.1, hs.2, k α H (Ext.refl _ _) a _ (.bl _)⟩
      · simp at hz
  · simp at hz
theorem flat_of {K : PySem.W.Frag} {d : PyData} {v : V} (t : Tp K H d v) (h : flatP d = true) : flatV v = true := by
  cases d <;> first | (simp [flatP] at h; done) | skip
  all_goals (cases t; rfl)
theorem eqV_of {K : PySem.W.Frag} {d e : PyData} {v u : V} (t : Tp K H d v) (t' : Tp K H e u) (h : flatP d = true) (h' : flatP e = true) : eqV v u = PyData.eqv d e := by
  cases d <;> first | (simp [flatP] at h; done) | skip
  all_goals (cases e <;> first | (simp [flatP] at h'; done) | skip)
  all_goals (cases t; cases t'; first | rfl | (simp [eqV, PyData.eqv]; done))
theorem flats_of {K : PySem.W.Frag} : ∀ {ds : List PyData} {vs : List V}, TpA K H ds vs → ds.all flatP = true → vs.all flatV = true
  | [], _, h, _ => by cases h; rfl
  | d :: ds, _, h, q => by
    cases h with
    | cons a b =>
      rw [List.all_cons, Bool.and_eq_true] at q
      rw [List.all_cons, Bool.and_eq_true]
      exact ⟨flat_of a q.1, flats_of b q.2⟩
theorem inV_of {K : PySem.W.Frag} {d : PyData} {v : V} (t : Tp K H d v) (h : flatP d = true) : ∀ {ds : List PyData} {vs : List V}, TpA K H ds vs → ds.all flatP = true → inV v vs = ds.any fun y => PyData.eqv y d
  | [], _, q, _ => by cases q; rfl
  | e :: ds, _, q, r => by
    cases q with
    | cons a b =>
      rw [List.all_cons, Bool.and_eq_true] at r
      have ih := inV_of t h b r.2
      unfold inV at ih ⊢
      rw [List.any_cons, List.any_cons, ih, eqV_of a t r.1 h]
theorem key_V {K : PySem.W.Frag} {ph : Nat → Option Addr} {d : D} {v : V} {k : Key} (t : Ir.Tl K ph α H d v) (h : keyOf d = some k) : v = kV k := by
  cases d with
  | p d =>
    cases d <;> simp [keyOf] at h
    · subst h; cases t; rfl
    · subst h; cases t; rfl
  | ref _ => simp [keyOf] at h
  | fn _ => simp [keyOf] at h
theorem val_of {K : PySem.W.Frag} {ph : Nat → Option Addr} {k : Key} : ∀ {kvs : List (Key × D)} {ws : List (Key × V)}, Paired (fun (p : Key × D) (q : Key × V) => p.1 = q.1 ∧ Ir.Tl K ph α H p.2 q.2) kvs ws →
    match valD kvs k, valV ws k with
    | some d, some v => Ir.Tl K ph α H d v
    | .none, .none => True
    | _, _ => False
  | [], _, h => by cases h; trivial
  | (k', d) :: r, _, h => by
    cases h with
    | @cons _ q _ l2 a b =>
      obtain ⟨k2, v⟩ := q
      obtain ⟨e, t⟩ := a
      have e : k' = k2 := e
      subst e
      by_cases z : k' = k
      · have h1 : valD ((k', d) :: r) k = some d := by simp [valD, z]
        have h2 : valV ((k', v) :: l2) k = some v := valV_pos z
        rw [h1, h2]
        exact t
      · have h1 : valD ((k', d) :: r) k = valD r k := by simp [valD, z]
        have h2 : valV ((k', v) :: l2) k = valV l2 k := valV_neg z
        rw [h1, h2]
        exact val_of b
/-- in: a text in a text, a flat value in a tuple of such, a key in a dict -/
def rInA (K : PySem.W.Frag) (neg : Bool) : R2 := fun x y H Q => ((∃ i j, x = .str i ∧ y = .str j ∧ Q (.bl (if neg then !inStr i j else inStr i j)) H) ∨ rIn K neg x y H Q) ∨ ∃ b ws k, y = .ref b ∧ x = kV k ∧ H b = some (.dK ws) ∧ Q (.bl (if neg then !(valV ws k).isSome else (valV ws k).isSome)) H
theorem o_in_ (neg : Bool) {dx dy dz : D} {x y : V} {Q : VK} (a : g.At α H S) (tx : g.Tl α H dx x) (ty : g.Tl α H dy y) {b : Bool} (hz : inD S dx dy = some b) (e : dz = .p (.bool (if neg then !b else b)))
    (k : ∀ v, g.Tl α H dz v → Q v H) : rInA g.K neg x y H Q := by
  subst e
  have k : Q (.bl (if neg then !b else b)) H := k _ (.bl _)
  unfold inD at hz
  split at hz
  · cases hz
    cases tx
    cases ty
    exact .inl (.inl ⟨_, _, rfl, rfl, k⟩)
  · split at hz
    · rename_i hf
      rw [Bool.and_eq_true] at hf
      cases hz
      cases ty with
      | tup hq ha =>
        refine .inl (.inr ⟨_, _, rfl, .inr hq.sq, flat_of tx hf.1, flats_of ha hf.2, ?_⟩)
        rw [inV_of tx hf.1 ha hf.2]
        exact k
    · cases hz
  · rename_i j
    split at hz
    · rename_i kvs hj
      obtain ⟨p, ws, h1, h2, h3⟩ := At.dic a hj
      obtain ⟨p', h1', rfl⟩ := ty
      rw [h1] at h1'
      cases h1'
      cases hk : keyOf dx with
      | none => simp [hk] at hz
      | some key =>
        simp [hk] at hz
        have vo := val_of (k := key) h3
        refine .inr ⟨p, ws, key, rfl, key_V tx hk, h2, ?_⟩
        have e : (valV ws key).isSome = b := by
          rw [← hz]
          revert vo
          cases valD kvs key <;> cases valV ws key <;> simp
        rw [e]
        exact k
    · cases hz
  · cases hz
theorem o_in : OpC g .in_ (rInA g.K false) := by
  intro α H S dx dy dz x y Q a tx ty hz k
  cases e : inD S dx dy with
  | none => have hz : (inD S dx dy).map (fun k => D.p (.bool k)) = some dz := hz; simp [e] at hz
  | some b =>
    have hz : (inD S dx dy).map (fun k => D.p (.bool k)) = some dz := hz
    simp [e] at hz
    exact o_in_ false a tx ty e hz.symm fun v t => k α H (Ext.refl _ _) a v t
theorem o_notin : OpC g .notin (rInA g.K true) := by
  intro α H S dx dy dz x y Q a tx ty hz k
  cases e : inD S dx dy with
  | none => have hz : ((inD S dx dy).map (!·)).map (fun k => D.p (.bool k)) = some dz := hz; simp [e] at hz
  | some b =>
    have hz : ((inD S dx dy).map (!·)).map (fun k => D.p (.bool k)) = some dz := hz
    simp [e] at hz
    exact o_in_ true a tx ty e hz.symm fun v t => k α H (Ext.refl _ _) a v t
theorem tp_none {K : PySem.W.Frag} {d : PyData} {v : V} (t : Tp K H d v) : decide (v = .non) = isNonP d := by
  cases d <;> cases t <;> rfl
theorem o_is : OpC g .is_ (fun x y H Q => rIsB x y H Q ∨ (y = .non ∧ Q (.bl (decide (x = .non))) H)) := by
  intro α H S dx dy dz x y Q a tx ty hz k
  have hz : (cop S .is_ dx dy).map (fun k => D.p (.bool k)) = some dz := hz
  unfold cop at hz
  split at hz <;> first | (simp at hz; done) | skip
  all_goals (try (exfalso; simp_all; done))
  · simp at hz
    subst hz
    cases tx
    cases ty
    exact .inl ⟨_, _, rfl, rfl, k α H (Ext.refl _ _) a _ (.bl _)⟩
  · simp at hz
    subst hz
    cases ty
    exact .inr ⟨rfl, by rw [tp_none tx]; exact k α H (Ext.refl _ _) a _ (.bl _)⟩
theorem o_isnot : OpC g .isnot (fun x y H Q => (∃ a b : Bool, x = .bl a ∧ y = .bl b ∧ Q (.bl (!decide (a = b))) H) ∨ (y = .non ∧ Q (.bl (!decide (x = .non))) H)) := by
  intro α H S dx dy dz x y Q a tx ty hz k
  have hz : (cop S .isnot dx dy).map (fun k => D.p (.bool k)) = some dz := hz
  unfold cop at hz
  split at hz <;> first | (simp at hz; done) | skip
  all_goals (try (exfalso; simp_all; done))
  · simp at hz
    subst hz
    cases tx
    cases ty
    exact .inl ⟨_, _, rfl, rfl, by simpa using k α H (Ext.refl _ _) a _ (.bl _)⟩
  · simp at hz
    subst hz
    cases ty
    exact .inr ⟨rfl, by rw [tp_none tx]; exact k α H (Ext.refl _ _) a _ (.bl _)⟩
end
end Ir
set_option Elab.async false
set_option maxRecDepth 100000
set_option maxHeartbeats 4000001
namespace Ir
open PySem L2 PySem.Spec PyProof.Rows

section
variable {g : Gc} {α α' : List Addr} {H H' : Hp} {S S' : Sto}
/-! ### subscripts -/
theorem atI_P {K : PySem.W.Frag} {ds : List PyData} {xs : List V} {i : Int} {d : PyData} (h : TpA K H ds xs) (e : atI ds i = some d) : ∃ v, atI xs i = some v ∧ Tp K H d v := by
  unfold atI at e ⊢
  rw [← h.length]
  cases q : ixN ds.length i with
  | none => rw [q] at e; cases e
  | some j => rw [q] at e; exact h.get e
theorem atI_D {F : D → V → Prop} {ds : List D} {xs : List V} {i : Int} {d : D} (h : Paired F ds xs) (e : atI ds i = some d) : ∃ v, atI xs i = some v ∧ F d v := by
  unfold atI at e ⊢
  rw [← Paired.length h]
  cases q : ixN ds.length i with
  | none => rw [q] at e; cases e
  | some j => rw [q] at e; exact Paired.get h e
theorem o_get : Op2 g getI (rIx g.K) := by
  intro α H S dx dy dz x y Q a tx ty hz k
  have h : getI S dx dy = some dz := hz
  unfold getI at h
  split at h
  · cases e : atI _ _ with
    | none => rw [e] at h; cases h
    | some d =>
      rw [e] at h
      cases h
      cases ty
      cases tx with
      | tup hq ha =>
        obtain ⟨v, h1, h2⟩ := atI_P ha e
        exact .inr (.inl ⟨_, _, _, v, rfl, rfl, hq.sq, h1, k α H (Ext.refl _ _) a _ h2⟩)
  · split at h
    · rename_i hl
      cases e : atI _ _ with
      | none => rw [e] at h; cases h
      | some c =>
        rw [e] at h
        cases h
        cases tx
        cases ty
        exact .inr (.inr ⟨_, _, c, rfl, rfl, hl, e, k α H (Ext.refl _ _) a _ (.str _)⟩)
    · cases h
  · split at h
    · rename_i hj
      obtain ⟨b, xs, h1, h2, h3⟩ := At.lst a hj
      obtain ⟨b', h1', rfl⟩ := tx
      rw [h1] at h1'
      cases h1'
      cases ty
      obtain ⟨v, h4, h5⟩ := atI_D h3 h
      exact .inl ⟨b, xs, _, v, rfl, rfl, SqL.of h2, h4, k α H (Ext.refl _ _) a v h5⟩
    · cases h
  · cases h
end
section
variable {X : Cx} {g : Gc} {W : WX} {cal : Nat → List D → M D} {pos : Pos}
theorem e_idx {a b : Expr} {ia ib : E} (hK : X.K = g.K) (ha : PE X a (rE g W (evE cal ia))) (hb : PE X b (rE g W (evE cal ib))) (hs : PlainIx b := by exact fun _ _ => rfl) : PE X (.Subscript a b pos) (rE g W (evE cal (.idx ia ib))) := by
  have h := ix_seq (X := X)
  rw [hK] at h
  exact pe_imp (pe_ix h ha hb hs) fun _ _ _ h => tOp_of o_get h
theorem cut_P {K : PySem.W.Frag} {H : Hp} {ds : List PyData} {xs : List V} (h : TpA K H ds xs) (lo hi : Option Int) : TpA K H (cutP ds lo hi) (cutV xs lo hi) := by
  unfold cutP cutV
  rw [h.length]
  exact (h.drop _).take _
theorem cut_whole {xs : List V} {lo hi : Option Int} (h : HT.sIx xs.length 0 lo = 0 ∧ HT.sIx xs.length xs.length hi = xs.length) : cutV xs lo hi = xs := by
  unfold cutV
  rw [h.1, h.2]
  simp
/-- a written part of a slice: left out, or an int -/
def tPt (o : Option Int) : TO := fun _ H Q => Q o H
theorem pt_none : PO X none (tPt none) := ⟨fun pins s σ H Q I h => po_none.run pins s σ H Q I h⟩
theorem pt_int {i : Int} {j : Nat} {p : Pos} : PO X (some (.Constant (.int i) j p)) (tPt (some i)) := ⟨fun pins s σ H Q I h => (po_some pe_int).run pins s σ H Q I ⟨i, rfl, h⟩⟩
theorem pt_neg {i : Int} {j : Nat} {p p2 : Pos} : PO X (some (.UnaryOp .USub (.Constant (.int i) j p) p2)) (tPt (some (-i))) := ⟨fun pins s σ H Q I h => (po_some (pe_un un_neg pe_int)).run pins s σ H Q I ⟨i, rfl, -i, rfl, h⟩⟩
/-- t[lo:hi]: the whole of it is t itself, else a new tuple, its object known -/
def rSlF (K : PySem.W.Frag) : V → Option Int → Option Int → Hp → VK → Prop := fun x lo hi H Q => ∃ a xs, x = .ref a ∧ SqT K H a xs ∧
  (HT.sIx xs.length 0 lo = 0 ∧ HT.sIx xs.length xs.length hi = xs.length → Q (.ref a) H) ∧ ∀ p o, H p = none → o.dict = none → Q (.ref p) (upd H p (.frz o (.tup (cutV xs lo hi))))
theorem sl_tupF : SlR X (rSlF X.K) := by
  intro pins s σ H x v vl vu lo hi sl Q I rx hs pl pu h
  obtain ⟨a, xs, rfl, hx, q1, q2⟩ := h
  cases rx
  obtain ⟨us, r, ht, hz⟩ := I.tuple hx
  have hl : us.toArray.size = xs.length := by rw [List.size_toArray, ← r.length]
  refine ⟨"tuple", _, PyProof.Rows.slot_tuple_getitem.lookup, ht.typeIs, ?_⟩
  by_cases hw : HT.sIx xs.length 0 lo = 0 ∧ HT.sIx xs.length xs.length hi = xs.length
  · exact getItem_tuple_whole ht hs pl pu (by rw [hl]; exact hw) ⟨.ref a, H, I, rfl, q1 hw⟩
  · refine HT.getItem_tuple_cut ht hs pl pu (by rw [hl]; exact hw) ?_ (by rw [hl]; exact hz)
    rw [hl]
    have rc := (r.drop (HT.sIx xs.length 0 lo)).take (HT.sIx xs.length xs.length hi - HT.sIx xs.length 0 lo)
    exact ⟨.ref s.heap.objs.size, _, I.laid (t' := s.toks) (fun b o q => Heap.get?_push_of_some _ q) (Nat.le_refl _) (frz_new rc (Nat.le_trans (cutV_length xs lo hi) hz)), rfl, q2 _ _ (I.hok.fresh (Nat.le_refl _)) rfl⟩
theorem e_slice {a : Expr} {ia : E} {lo hi : Option Expr} {l h : Option Int} {p2 : Pos} (hK : X.K = g.K) (ha : PE X a (rE g W (evE cal ia))) (hl : PO X lo (tPt l)) (hh : PO X hi (tPt h)) : PE X (.Subscript a (.Slice lo hi none p2) pos) (rE g W (evE cal (.slice ia l h))) := by
  have s1 := SlR.or (sl_tupF (X := X)) sl_str
  rw [hK] at s1
  refine pe_imp (pe_slice s1 ha hl hh) fun σ H Q q => ?_
  obtain ⟨α, S, q⟩ := q
  refine ⟨α, S, (rAt.bind (m := evE cal ia) (f := fun x _ => M.opt (sliceD x l h)) q).imp fun x S1 α1 H1 e1 a1 h1 v tv => ?_⟩
  obtain ⟨z, hz, k⟩ := (rAt.opt (o := fun _ => sliceD x l h) h1)
  have hz : sliceD x l h = some z := hz
  show (fun x lo hi H Q => rSlF g.K x lo hi H Q ∨ rSlS x lo hi H Q) v l h H1 Q
  unfold sliceD at hz
  split at hz
  · cases hz
    cases tv with
    | @tup b xs _ hq hv =>
      refine .inl ⟨b, xs, rfl, hq.sq, fun w => ?_, fun p o hp ho => ?_⟩
      · have hc := cut_P hv l h
        rw [cut_whole w] at hc
        exact k α1 H1 (Ext.refl _ _) a1 _ (.tup hq hc)
      · obtain ⟨e2, a2⟩ := At.fresh a1 hp (u := .frz o (.tup (cutV xs l h)))
        exact k α1 _ e2 a2 _ (.tup (.inl ⟨o, upd_same, ho⟩) ((cut_P hv l h).keep (e2.kt a1)))
  · split at hz
    · rename_i hz2
      cases hz
      cases tv
      exact .inr ⟨_, rfl, hz2, k α1 H1 (Ext.refl _ _) a1 _ (.str _)⟩
    · cases hz
  · cases hz

/-! ### arguments, displays -/
theorem a_nil : PA X [] (rA g W (evEs cal .nil)) := pa_imp pa_nil fun σ H Q h => by
  obtain ⟨α, S, ρ, a, r, h⟩ := h
  exact h α H (Ext.refl _ _) a [] .nil
theorem a_cons {e : Expr} {es : List Expr} {i : E} {is : Es} (h1 : PE X e (rE g W (evE cal i))) (h2 : PA X es (rA g W (evEs cal is))) (hs : starEach (e :: es) X.env = (false, eval e X.env) :: starEach es X.env := by rfl) : PA X (e :: es) (rA g W (evEs cal (.cons i is))) := pa_imp (pa_cons h1 h2 hs) fun σ H Q h => by
  obtain ⟨α, S, h⟩ := h
  refine ⟨α, S, (rAt.bind (m := evE cal i) (f := fun d ρ => M.bind (evEs cal is ρ) fun ds => M.pure (d :: ds)) h).imp fun d S1 α1 H1 e1 a1 h1 v tv => ⟨α1, S1, (rAt.bind (m := evEs cal is) (f := fun ds _ => M.pure (d :: ds)) h1).imp fun ds S2 α2 H2 e2 a2 h2 vs tvs => ?_⟩⟩
  exact h2.here α2 H2 (Ext.refl _ _) a2 _ (.cons (tv.ext e2 a1) tvs)
def tTupF (t : TA) : TE := fun σ H Q => t σ H fun xs H1 => xs.length ≤ sizeLine ∧ ∀ p o, H1 p = none → o.dict = none → Q (.ref p) (upd H1 p (.frz o (.tup xs)))
theorem pe_tupF {es : List Expr} {t : TA} {k : Nat} (h : PA X es t) : PE X (.Tuple es k pos) (tTupF t) := by
  refine ⟨fun pins s σ H Q I q => ?_⟩
  refine wpAny_Tuple_spliced (thn (h.run pos pins s σ H _ I q) fun us s1 ⟨xs, H1, I1, r, z, q⟩ => ⟨by rw [← r.length]; exact z, ?_⟩)
  exact ⟨.ref s1.heap.objs.size, _, I1.laid (t' := s1.toks) (fun b u e => Heap.get?_push_of_some _ e) (Nat.le_refl _) (frz_new r z), rfl, q _ _ (I1.hok.fresh (Nat.le_refl _)) rfl⟩
theorem e_tup {es : List Expr} {is : Es} {k : Nat} (h : PA X es (rA g W (evEs cal is))) : PE X (.Tuple es k pos) (rE g W (evE cal (.tup is))) := pe_imp (pe_tupF h) fun σ H Q q => by
  obtain ⟨α, S, q⟩ := q
  refine ⟨α, S, (rAt.bind (m := evEs cal is) (f := fun ds _ => M.opt (if ds.length ≤ sizeLine then (plainOf ds).map fun ps => D.p (.tuple ps) else none)) q).imp fun ds S1 α1 H1 e1 a1 h1 vs tvs => ?_⟩
  obtain ⟨z, hz, k⟩ := (rAt.opt (o := fun _ => if ds.length ≤ sizeLine then (plainOf ds).map fun ps => D.p (.tuple ps) else none) h1)
  have hz : (if ds.length ≤ sizeLine then (plainOf ds).map fun ps => D.p (.tuple ps) else none) = some z := hz
  split at hz
  · rename_i hl
    cases e : plainOf ds with
    | none => rw [e] at hz; cases hz
    | some ps =>
      rw [e] at hz
      cases hz
      refine ⟨by rw [← Paired.length tvs]; exact hl, fun p o hp ho => ?_⟩
      obtain ⟨e2, a2⟩ := At.fresh a1 hp (u := .frz o (.tup vs))
      exact k α1 _ e2 a2 _ (.tup (.inl ⟨o, upd_same, ho⟩) ((TlA.plain tvs e).keep (e2.kt a1)))
  · cases hz

/-! ### lists on the way -/
/-- p is new since H -/
def rLn (g : Gc) (W : WX) (m : Sl → M (List D)) : TE := fun σ H Q => ∃ α S, rAt g W α S m σ H fun ds _ α' H' => ∀ p xs, H p = none → p ∉ α' → H' p = some (.lst xs) → g.TlA α' H' ds xs → Q (.ref p) H'
theorem l_disp {es : List Expr} {is : Es} (h : PA X es (rA g W (evEs cal is))) : PE X (.List es pos) (rLn g W (evL cal (.disp is))) := pe_imp (pe_lst h) fun σ H Q q => by
  obtain ⟨α, S, q⟩ := q
  have q1 := q
  obtain ⟨ρ, a, r, w⟩ := q
  have w : wp (M.bind (evEs cal is ρ) (fun ds => M.opt (if ds.length ≤ 100000 then some ds else none)) S) _ _ := w
  refine ⟨α, S, ρ, a, r, wp_mono (wp_bind w) (fun ds S1 h1 α1 H1 e1 a1 vs tvs => ?_) fun _ _ z => z⟩
  unfold M.opt at h1
  by_cases hl : ds.length ≤ 100000
  · simp only [hl, if_true] at h1
    refine ⟨by rw [← Paired.length tvs]; exact Nat.le_trans hl (by rw [sizeLine_eq]; decide), fun p hp => ?_⟩
    obtain ⟨e2, a2⟩ := At.fresh a1 hp (u := .lst vs)
    exact h1 α1 _ (e1.trans e2) a2 p vs (e1.none a1 hp) (a1.notin hp) upd_same (TlA.ext e2 a1 tvs)
  · simp only [hl, if_false] at h1
    exact h1.elim
theorem e_lst {e : Expr} {l : L} (h : PE X e (rLn g W (evL cal l))) : PE X e (rE g W (evE cal (.lst l))) := pe_imp h fun σ H Q q => by
  obtain ⟨α, S, ρ, a, r, w⟩ := q
  have w : wp (M.bind (evL cal l ρ) (fun ds => alloc (.lst ds)) S) _ _ := w
  refine ⟨α, S, ρ, a, r, wp_mono (wp_bind w) (fun ds S1 h1 α1 H1 e1 a1 p xs hp hn hx tx => ?_) fun _ _ z => z⟩
  unfold alloc at h1
  by_cases hb : rbO S1.length (.lst ds) = true
  · simp only [hb, if_true] at h1
    obtain ⟨a2, pre⟩ := At.take_in a1 hn (o := .lst ds) ⟨xs, hx, tx⟩ hb
    refine h1 (α1 ++ [p]) H1 ⟨fun i b h => pre i b (e1.pre i b h), e1.keep, fun b hb => ?_⟩ a2 _ ⟨p, ?_, rfl⟩
    · rcases List.mem_append.mp hb with z | z
      · exact e1.new b z
      · rw [List.mem_singleton] at z
        rw [z]
        exact .inr hp
    · rw [← a1.len, List.getElem?_append_right (Nat.le_refl _)]
      simp
  · simp only [hb] at h1
    exact h1.elim
theorem e_idxL {a b : Expr} {l : L} {ib : E} (hK : X.K = g.K) (ha : PE X a (rLn g W (evL cal l))) (hb : PE X b (rE g W (evE cal ib))) (hs : PlainIx b := by exact fun _ _ => rfl) : PE X (.Subscript a b pos) (rE g W (evE cal (.idxL l ib))) := by
  have h := ix_list (X := X)
  rw [hK] at h
  refine pe_imp (pe_ix h ha hb hs) fun σ H Q q => ?_
  obtain ⟨α, S, q⟩ := q
  refine ⟨α, S, (rAt.bind (m := evL cal l) (f := fun ds ρ => M.bind (evE cal ib ρ) fun y => M.opt ((asInt y).bind fun i => atI ds i)) q).imp fun ds S1 α1 H1 e1 a1 h1 p xs hp hn hx tx => ⟨α1, S1, (rAt.bind (m := evE cal ib) (f := fun y _ => M.opt ((asInt y).bind fun i => atI ds i)) h1).imp fun y S2 α2 H2 e2 a2 h2 u tu => ?_⟩⟩
  obtain ⟨z, hz, k⟩ := rAt.opt (o := fun _ => (asInt y).bind fun i => atI ds i) h2
  have hz : ((asInt y).bind fun i => atI ds i) = some z := hz
  cases y with
  | p d =>
    cases d <;> simp [asInt] at hz
    cases tu
    obtain ⟨v, h4, h5⟩ := atI_D tx hz
    exact ⟨p, xs, _, v, rfl, rfl, SqL.of (e2.keep p _ hx hn), h4, k α2 H2 (Ext.refl _ _) a2 v (h5.ext e2 a1)⟩
  | ref _ => simp [asInt] at hz
  | fn _ => simp [asInt] at hz

/-! ### calls of defs -/
def spI (g : Gc) (m : List D → M D) : Sp := fun vs H Q E => ∃ α S ds, g.At α H S ∧ g.TlA α H ds vs ∧ wp (m ds S) (fun d S' => ∀ α' H', Ext α α' H H' → g.At α' H' S' → ∀ v, g.Tl α' H' d v → Q v H')
  (fun e S' => ∀ cls dx α' H', Ext α α' H H' → g.At α' H' S' → g.TX e cls dx H' → E cls dx H')
/-- where a piece of a def's body is read -/
structure Gd (X : Cx) (g : Gc) (W : WX) (CX : CXT) (cal : Nat → List D → M D) (k : Nat) : Prop where
  K : X.K = g.K
  calm : X.calm = true
  nd : X.N.Nodup
  room : Room k X.A
  pass : ∀ σ, PassesAt CX X σ (WE W σ)
  none : ∀ (l : List Env) (H : Hp) (s : Shared) (e : Value) (s' : Shared), CX l H s (fun _ _ _ => False) e s' → False
  tab : ∀ i f, g.ph i = some f → ∃ fd ps, FnOk X.prog X.w X.K X.mg X.base CX k f fd ps (spI g (cal i)) ∧ PySem.W.keepIn X.K (.ref f) = true ∧ Binds X.K fd ps []
abbrev W0 : WX := fun _ _ _ _ => False
theorem Gd.hu {CX : CXT} {k : Nat} (G : Gd X g W CX cal k) : X.A.units + 64 < cLine := G.room.units
theorem Gd.pass0 {CX : CXT} {k : Nat} (G : Gd X g W CX cal k) : Passes CX X (fun _ _ _ => False) := fun _ _ _ _ _ _ _ h => (G.none _ _ _ _ _ h).elim
theorem Gd.blk {CX : CXT} {k : Nat} (G : Gd X g W CX cal k) (s : Shared) (H : Hp) (scope : Scope) (ce : Env) (fp : List Addr) : Gd (X.blk s H scope ce fp) g W0 CX cal k :=
  ⟨G.K, G.calm, G.nd, G.room, fun _ _ _ _ _ _ _ h => (G.none _ _ _ _ _ h).elim, G.none, G.tab⟩
theorem call_of {ds : List D} {vs : List V} {m : List D → M D} {α : List Addr} {S : Sto} {σ : L2.St} {H : Hp} {Q : VK} {E : XK} (tv : g.TlA α H ds vs) (h : rAt g W α S (fun _ => m ds) σ H (fun d _ α' H' => ∀ v, g.Tl α' H' d v → Q v H'))
    (hE : ∀ cls dx H', W cls dx σ H' → E cls dx H') : spI g m vs H Q E := by
  obtain ⟨ρ, a, r, h⟩ := h
  exact ⟨α, S, ds, a, tv, wp_mono h (fun d S' q => q) fun e S' q cls dx α' H' e1 a1 t => hE _ _ _ (q cls dx α' H' e1 a1 t)⟩
theorem e_call {CX : CXT} {k i : Nat} {f : Addr} {x : Str} {p : Pos} {e : Expr} {es : List Expr} {is : Es} (G : Gd X g W CX cal k) (hph : g.ph i = some f) (hm : X.mg x = some (.ref f)) (ha : PA X (e :: es) (rA g W (evEs cal is)))
    (hg : Gl X x := by rfl) (hdb : (x == ("__debug__" : Str)) = false := by decide) (he : starEach (e :: es) X.env = (false, eval e X.env) :: starEach es X.env := by rfl) (hpl : (backTo pos (starEach es X.env)).any (·.1) = false := by rfl) :
    PE X (.Call (.Name x p) (e :: es) [] pos) (rE g W (evE cal (.call i is))) := by
  obtain ⟨fd, ps, F, hk, hb⟩ := G.tab i f hph
  refine pe_imp (pe_callSD (E := WE W) F G.room hg hm hk hb .nil G.pass ha hdb he hpl) fun σ H Q h => ?_
  obtain ⟨α, S, h⟩ := h
  refine ⟨α, S, (rAt.bind (m := evEs cal is) (f := fun ds _ => cal i ds) h).imp fun ds S1 α1 H1 e1 a1 h1 vs tv => ?_⟩
  show spI g (cal i) (vs ++ []) H1 Q (WE W σ)
  rw [List.append_nil]
  exact call_of tv h1 fun _ _ _ z => z
theorem e_call0 {CX : CXT} {k i : Nat} {f : Addr} {x : Str} {p : Pos} (G : Gd X g W0 CX cal k) (hph : g.ph i = some f) (hm : X.mg x = some (.ref f)) (hg : Gl X x := by rfl) (hdb : (x == ("__debug__" : Str)) = false := by decide) :
    PE X (.Call (.Name x p) [] [] pos) (rE g W0 (evE cal (.call i .nil))) := by
  obtain ⟨fd, ps, F, hk, hb⟩ := G.tab i f hph
  refine pe_imp (pe_call0 (E := fun _ _ _ => False) F G.room hg hm hk hb .nil G.pass0 hdb) fun σ H Q h => ?_
  obtain ⟨α, S, h⟩ := h
  have h1 := rAt.bind (m := fun _ => M.pure []) (f := fun ds _ => cal i ds) h
  have a1 := h1.at_
  exact call_of (ds := []) .nil (h1.here α H (Ext.refl _ _) a1) fun _ _ _ z => z
theorem e_callv {CX : CXT} {k : Nat} (i : Nat) {x : Str} {p : Pos} {e : Expr} {es : List Expr} {is : Es} (G : Gd X g W0 CX cal k) (ha : PA X (e :: es) (rA g W0 (evEs cal is))) (hN : X.N[i]? = some x := by rfl)
    (hv : Vis X.env.scope x := by first | exact Or.inl rfl | exact Or.inr (Or.inl rfl) | exact Or.inr (Or.inr rfl)) (hdb : (x == ("__debug__" : Str)) = false := by decide) (hcd : (x == ("__classdict__" : Str)) = false := by decide)
    (he : starEach (e :: es) X.env = (false, eval e X.env) :: starEach es X.env := by rfl) (hpl : (backTo pos (starEach es X.env)).any (·.1) = false := by rfl) :
    PE X (.Call (.Name x p) (e :: es) [] pos) (rE g W0 (evE cal (.callv i is))) := by
  refine ⟨fun pins s σ H Q I h => ?_⟩
  obtain ⟨α, S, ρ, a, r, h⟩ := h
  have h : wp ((match ρ[i]? with | some (some (.fn f)) => M.bind (evEs cal is ρ) fun ds => cal f ds | _ => M.bad) S) (fun b S' => ∀ α' H', Ext α α' H H' → g.At α' H' S' → ∀ v, g.Tl α' H' b v → Q v H') (exW g W0 α σ H) := h
  cases q : ρ[i]? with
  | none => rw [q] at h; exact h.elim
  | some o =>
    rw [q] at h
    cases o with
    | none => exact h.elim
    | some d =>
      cases d with
      | p _ => exact h.elim
      | ref _ => exact h.elim
      | fn j =>
        obtain ⟨v, hs, f, hf, rfl⟩ := r.at_ i _ q
        obtain ⟨fd, ps, F, hk, hb⟩ := G.tab j f hf
        refine (pe_callL (i := i) (E := fun _ _ _ => False) F G.room hN hv hk hb .nil G.pass0 ha hdb hcd he hpl).run pins s σ H Q I ⟨hs, α, S, ?_⟩
        have h2 : rAt g W0 α S (fun ρ => M.bind (evEs cal is ρ) fun ds => cal j ds) σ H (fun d _ α' H' => ∀ v, g.Tl α' H' d v → Q v H') := ⟨ρ, a, r, h⟩
        refine (rAt.bind (m := evEs cal is) (f := fun ds _ => cal j ds) h2).imp fun ds S1 α1 H1 e1 a1 h1 vs tv => ?_
        show spI g (cal j) (vs ++ []) H1 Q fun _ _ _ => False
        rw [List.append_nil]
        exact call_of tv h1 fun _ _ _ z => z
end
end Ir
set_option Elab.async false
set_option maxRecDepth 100000
set_option maxHeartbeats 4000001
namespace Ir
open PySem L2 PySem.Spec PyProof.Rows
section
variable {X : Cx} {g : Gc} {W : WX} {cal : Nat → List D → M D} {pos : Pos} {K : PySem.W.Frag}
theorem bools_of {ph : Nat → Option Addr} {α : List Addr} {H : Hp} : ∀ {ds : List D} {vs : List V} {bs : List Bool}, TlA K ph α H ds vs → boolsOf ds = some bs → vs = bs.map V.bl
  | [], _, _, h, e => by cases h; cases e; rfl
  | d :: r, _, bs, h, e => by
    cases h with
    | cons a b =>
      cases d with
      | p d =>
        cases d <;> first | (simp [boolsOf] at e; done) | skip
        rename_i b0
        unfold boolsOf at e
        cases q : boolsOf r with
        | none => rw [q] at e; cases e
        | some rs =>
          rw [q] at e
          cases e
          cases a
          rw [bools_of b q]
          rfl
      | ref _ => simp [boolsOf] at e
      | fn _ => simp [boolsOf] at e
theorem dpAll_of {ph : Nat → Option Addr} {α : List Addr} {H : Hp} {ds : List D} {vs : List V} {ps : List PyData} (h : TlA K ph α H ds vs) (e : plainOf ds = some ps) : DpAll K H vs ps := (TlA.plain h e).dp

theorem lst_at {α : List Addr} {H : Hp} {S : Sto} {x : D} {v : V} {ds : List D} (a : g.At α H S) (t : g.Tl α H x v) (h : lstAt S x = some ds) : ∃ b xs, v = .ref b ∧ H b = some (.lst xs) ∧ g.TlA α H ds xs := by
  unfold lstAt at h
  split at h
  · split at h
    · rename_i hj
      cases h
      obtain ⟨b, xs, h1, h2, h3⟩ := At.lst a hj
      obtain ⟨b', h1', rfl⟩ := t
      rw [h1] at h1'
      cases h1'
      exact ⟨b, xs, rfl, h2, h3⟩
    · cases h
  · cases h
theorem dic_at {α : List Addr} {H : Hp} {S : Sto} {x : D} {v : V} {kvs : List (Key × D)} (a : g.At α H S) (t : g.Tl α H x v) (h : dicAt S x = some kvs) : ∃ b ws, v = .ref b ∧ H b = some (.dK ws) ∧ Paired (fun (p : Key × D) (q : Key × V) => p.1 = q.1 ∧ g.Tl α H p.2 q.2) kvs ws := by
  unfold dicAt at h
  split at h
  · split at h
    · rename_i hj
      cases h
      obtain ⟨b, xs, h1, h2, h3⟩ := At.dic a hj
      obtain ⟨b', h1', rfl⟩ := t
      rw [h1] at h1'
      cases h1'
      exact ⟨b, xs, rfl, h2, h3⟩
    · cases h
  · cases h
theorem e_neg {a : Expr} {ia : E} (ha : PE X a (rE g W (evE cal ia))) : PE X (.UnaryOp .USub a pos) (rE g W (evE cal (.neg ia))) := pe_imp (pe_un un_neg ha) fun σ H Q h => by
  obtain ⟨α, S, h⟩ := h
  refine ⟨α, S, (rAt.bind (m := evE cal ia) (f := fun x _ => M.opt ((asInt x).map fun i => D.p (.int (-i)))) h).imp fun x S1 α1 H1 e1 a1 h1 v tv => ?_⟩
  obtain ⟨z, hz, k⟩ := rAt.opt (o := fun _ => (asInt x).map fun i => D.p (.int (-i))) h1
  have hz : ((asInt x).map fun i => D.p (.int (-i))) = some z := hz
  cases x with
  | p d =>
    cases d <;> simp [asInt] at hz
    subst hz
    cases tv
    exact ⟨_, rfl, k α1 H1 (Ext.refl _ _) a1 _ (.int _)⟩
  | ref _ => simp [asInt] at hz
  | fn _ => simp [asInt] at hz
theorem len_of {α : List Addr} {H : Hp} {S : Sto} {x : D} {v : V} {n : Int} (a : g.At α H S) (t : g.Tl α H x v) (h : lenD S x = some n) : ∃ m : Nat, n = (m : Int) ∧ LenV g.K v H m := by
  unfold lenD at h
  split at h
  · cases h
    cases t with
    | tup hq ha => exact ⟨_, rfl, .inr ⟨_, hq.sq, ha.length⟩⟩
  · split at h
    · rename_i hl
      cases h
      cases t
      exact ⟨_, rfl, hl, rfl⟩
    · cases h
  · split at h
    · rename_i hj
      cases h
      obtain ⟨b, xs, h1, h2, h3⟩ := At.lst a hj
      obtain ⟨b', h1', rfl⟩ := t
      rw [h1] at h1'
      cases h1'
      exact ⟨_, rfl, .inl ⟨xs, SqL.of h2, Paired.length h3⟩⟩
    · cases h
  · cases h
theorem e_len {a : Expr} {ia : E} {p : Pos} (hK : X.K = g.K) (hm : X.mg "len" = none) (ha : PE X a (rE g W (evE cal ia))) (hg : Gl X "len" := by rfl) (hs : starEach [a] X.env = (false, eval a X.env) :: starEach [] X.env := by rfl) :
    PE X (.Call (.Name "len" p) [a] [] pos) (rE g W (evE cal (.len ia))) := by
  have h := call_len (X := X)
  rw [hK] at h
  refine pe_imp (pe_callB h hg hm boot_len (pa_cons ha pa_nil hs) (he := hs)) fun σ H Q h => ?_
  obtain ⟨α, S, h⟩ := h
  refine ⟨α, S, (rAt.bind (m := evE cal ia) (f := fun x _ => fun S => M.opt ((lenD S x).map fun n => D.p (.int n)) S) h).imp fun x S1 α1 H1 e1 a1 h1 v tv => ?_⟩
  obtain ⟨z, hz, k⟩ := h1.opt
  cases e : lenD S1 x with
  | none => simp [e] at hz
  | some n =>
    simp [e] at hz
    subst hz
    obtain ⟨m, rfl, hl⟩ := len_of a1 tv e
    exact ⟨v, m, rfl, hl, k α1 H1 (Ext.refl _ _) a1 _ (.int _)⟩
theorem e_all {a : Expr} {l : L} {p : Pos} (G : X.calm = true) (hK : X.K = g.K) (hm : X.mg "all" = none) (ha : PE X a (rLn g W (evL cal l))) (hg : Gl X "all" := by rfl) (hs : starEach [a] X.env = (false, eval a X.env) :: starEach [] X.env := by rfl) :
    PE X (.Call (.Name "all" p) [a] [] pos) (rE g W (evE cal (.all l))) := by
  have h := cr_all (X := X) G
  rw [hK] at h
  refine pe_imp (pe_callB h hg hm boot_all (pa_cons ha pa_nil hs) (he := hs)) fun σ H Q h => ?_
  obtain ⟨α, S, h⟩ := h
  refine ⟨α, S, (rAt.bind (m := evL cal l) (f := fun ds _ => M.opt ((boolsOf ds).map fun bs => D.p (.bool (bs.all id)))) h).imp fun ds S1 α1 H1 e1 a1 h1 q xs hp hn hx tx => ?_⟩
  obtain ⟨z, hz, k⟩ := rAt.opt (o := fun _ => (boolsOf ds).map fun bs => D.p (.bool (bs.all id))) h1
  cases e : boolsOf ds with
  | none => simp [e] at hz
  | some bs =>
    simp [e] at hz
    subst hz
    have e2 := bools_of tx e
    subst e2
    refine ⟨q, bs, rfl, SqL.of hx, ?_⟩
    exact k α1 H1 (Ext.refl _ _) a1 _ (Tp.bl _)
theorem e_any {a : Expr} {l : L} {p : Pos} (G : X.calm = true) (hK : X.K = g.K) (hm : X.mg "any" = none) (ha : PE X a (rLn g W (evL cal l))) (hg : Gl X "any" := by rfl) (hs : starEach [a] X.env = (false, eval a X.env) :: starEach [] X.env := by rfl) :
    PE X (.Call (.Name "any" p) [a] [] pos) (rE g W (evE cal (.any l))) := by
  have h := cr_any (X := X) G
  rw [hK] at h
  refine pe_imp (pe_callB h hg hm boot_any (pa_cons ha pa_nil hs) (he := hs)) fun σ H Q h => ?_
  obtain ⟨α, S, h⟩ := h
  refine ⟨α, S, (rAt.bind (m := evL cal l) (f := fun ds _ => M.opt ((boolsOf ds).map fun bs => D.p (.bool (bs.any id)))) h).imp fun ds S1 α1 H1 e1 a1 h1 q xs hp hn hx tx => ?_⟩
  obtain ⟨z, hz, k⟩ := rAt.opt (o := fun _ => (boolsOf ds).map fun bs => D.p (.bool (bs.any id))) h1
  cases e : boolsOf ds with
  | none => simp [e] at hz
  | some bs =>
    simp [e] at hz
    subst hz
    have e2 := bools_of tx e
    subst e2
    refine ⟨q, bs, rfl, SqL.of hx, ?_⟩
    exact k α1 H1 (Ext.refl _ _) a1 _ (Tp.bl _)

/-! ### isinstance -/
def tyN : Ty → String
  | .int => "int" | .bool => "bool" | .str => "str" | .tuple => "tuple"
theorem tyX_tup {K : PySem.W.Frag} {H : Hp} {a : Addr} {xs : List V} (h : SqT K H a xs) : TyX K H (.ref a) (.type "tuple") := by
  rcases h with (h | ⟨o, h⟩) | ⟨o, its, n, h, hc, _⟩
  · exact .base (.tup h)
  · exact .fTuple h
  · exact .kTuple h hc
theorem isi_of {α : List Addr} {H : Hp} {x : D} {v : V} {t : Ty} {b : Bool} (tv : g.Tl α H x v) (h : isiD x t = some b) : ∃ tt, TyX g.K H v tt ∧ PySem.W.kitOne g.K tt (.type (tyN t)) = some b := by
  cases x with
  | ref _ => cases t <;> simp [isiD] at h
  | fn _ => cases t <;> simp [isiD] at h
  | p d =>
    cases d with
    | none => cases tv; cases t <;> (simp [isiD] at h; subst h; exact ⟨_, .base .non, kit_ty (by decide +kernel)⟩)
    | bool k => cases tv; cases t <;> (simp [isiD] at h; subst h; exact ⟨_, .base (.bl k), kit_ty (by decide +kernel)⟩)
    | int i => cases tv; cases t <;> (simp [isiD] at h; subst h; exact ⟨_, .base (.int i), kit_ty (by decide +kernel)⟩)
    | str s => cases tv; cases t <;> (simp [isiD] at h; subst h; exact ⟨_, .base (.str s), kit_ty (by decide +kernel)⟩)
    | tuple ds =>
      cases tv with
      | tup hq ha => cases t <;> (simp [isiD] at h; subst h; exact ⟨_, tyX_tup hq.sq, kit_ty (by decide +kernel)⟩)
    | list ds => cases t <;> simp [isiD] at h
    | dict ds => cases t <;> simp [isiD] at h
theorem e_isi {a : Expr} {ia : E} {p p2 : Pos} (t : Ty) {T : Str} (hT : bootBuiltins T = some (.type (tyN t))) (hK : X.K = g.K) (hm : X.mg "isinstance" = none) (hmT : X.mg T = none) (ha : PE X a (rE g W (evE cal ia))) (hg : Gl X "isinstance" := by rfl) (hgT : Gl X T := by rfl)
    (hn : T ≠ "__name__" := by decide) (hd : (T == ("__debug__" : Str)) = false := by decide) (hs : starEach [a, .Name T p2] X.env = (false, eval a X.env) :: starEach [.Name T p2] X.env := by rfl) :
    PE X (.Call (.Name "isinstance" p) [a, .Name T p2] [] pos) (rE g W (evE cal (.isi ia t))) := by
  have h := call_isi (X := X)
  rw [hK] at h
  refine pe_imp (pe_callB h hg hm boot_isinstance (pa_cons ha (pa_cons (pe_bltn (v := .ty (tyN t)) hgT hmT hT rfl hn hd) pa_nil) hs) (he := hs)) fun σ H Q h => ?_
  obtain ⟨α, S, h⟩ := h
  refine ⟨α, S, (rAt.bind (m := evE cal ia) (f := fun x _ => M.opt ((isiD x t).map fun k => D.p (.bool k))) h).imp fun x S1 α1 H1 e1 a1 h1 v tv => ?_⟩
  obtain ⟨z, hz, k⟩ := rAt.opt (o := fun _ => (isiD x t).map fun k => D.p (.bool k)) h1
  cases e : isiD x t with
  | none => simp [e] at hz
  | some b =>
    simp [e] at hz
    subst hz
    obtain ⟨tt, h3, h4⟩ := isi_of tv e
    exact ⟨v, _, tt, _, b, rfl, .ty _, h3, h4, k α1 H1 (Ext.refl _ _) a1 _ (.bl _)⟩
theorem e_toInt {a : Expr} {ia : E} {p : Pos} (hm : X.mg "int" = none) (ha : PE X a (rE g W (evE cal ia))) (hg : Gl X "int" := by rfl) (hs : starEach [a] X.env = (false, eval a X.env) :: starEach [] X.env := by rfl) :
    PE X (.Call (.Name "int" p) [a] [] pos) (rE g W (evE cal (.toInt ia))) := by
  refine pe_imp (pe_callTy call_int1 hg hm (by decide +kernel) (pa_cons ha pa_nil hs) (he := hs)) fun σ H Q h => ?_
  obtain ⟨α, S, h⟩ := h
  refine ⟨α, S, (rAt.bind (m := evE cal ia) (f := fun x _ => M.opt ((intOf x).map fun i => D.p (.int i))) h).imp fun x S1 α1 H1 e1 a1 h1 v tv => ?_⟩
  obtain ⟨z, hz, k⟩ := rAt.opt (o := fun _ => (intOf x).map fun i => D.p (.int i)) h1
  cases x with
  | p d =>
    cases d <;> first | (simp [intOf] at hz; done) | skip
    · simp [intOf] at hz
      subst hz
      cases tv
      exact .inr ⟨_, rfl, k α1 H1 (Ext.refl _ _) a1 _ (.int _)⟩
    · simp [intOf] at hz
      subst hz
      cases tv
      exact .inl ⟨_, rfl, k α1 H1 (Ext.refl _ _) a1 _ (.int _)⟩
  | ref _ => simp [intOf] at hz
  | fn _ => simp [intOf] at hz
theorem call_tupleF : CallR X (.type "tuple") (fun xs H Q => ∃ p ys, xs = [.ref p] ∧ SqL X.K H p ys ∧ ∀ l o, H l = none → o.dict = none → Q (.ref l) (upd H l (.frz o (.tup ys)))) := by
  intro pins s σ H xs us Q I r h
  obtain ⟨p, ys, rfl, hq, q⟩ := h
  obtain ⟨u, rfl, rx⟩ := vals1 r
  cases rx
  obtain ⟨ws, r', pl, hz⟩ := I.list hq
  refine call_tuple_list pl.isList (fun h' kp => ?_) (by have := r'.length; simp only [List.size_toArray]; omega)
  have I1 : Inv X pins σ H { s with heap := h' } := I.kept (t' := s.toks) kp
  exact ⟨.ref h'.objs.size, _, I1.laid (t' := s.toks) (fun b o e => Heap.get?_push_of_some _ e) (Nat.le_refl _) (frz_new r' hz), rfl, q _ _ (I1.hok.fresh (Nat.le_refl _)) rfl⟩
theorem e_tupOf {a : Expr} {ia : E} {p : Pos} (hK : X.K = g.K) (hm : X.mg "tuple" = none) (ha : PE X a (rE g W (evE cal ia))) (hg : Gl X "tuple" := by rfl) (hs : starEach [a] X.env = (false, eval a X.env) :: starEach [] X.env := by rfl) :
    PE X (.Call (.Name "tuple" p) [a] [] pos) (rE g W (evE cal (.tupOf ia))) := by
  have h := call_tupleF (X := X)
  rw [hK] at h
  refine pe_imp (pe_callTy h hg hm (by decide +kernel) (pa_cons ha pa_nil hs) (he := hs)) fun σ H Q h => ?_
  obtain ⟨α, S, h⟩ := h
  refine ⟨α, S, (rAt.bind (m := evE cal ia) (f := fun x _ => fun S => M.opt (tupD S x) S) h).imp fun x S1 α1 H1 e1 a1 h1 v tv => ?_⟩
  obtain ⟨z, hz, k⟩ := h1.opt
  obtain ⟨ds, e0, hz⟩ := Option.bind_eq_some_iff.mp hz
  obtain ⟨ps, e, hz⟩ := Option.map_eq_some_iff.mp hz
  subst hz
  obtain ⟨b, xs, rfl, h2, h3⟩ := lst_at a1 tv e0
  refine ⟨b, xs, rfl, SqL.of h2, fun l o hl ho => ?_⟩
  obtain ⟨e2, a2⟩ := At.fresh a1 hl (u := .frz o (.tup xs))
  exact k α1 _ e2 a2 _ (.tup (.inl ⟨o, upd_same, ho⟩) ((TlA.plain h3 e).keep (e2.kt a1)))
theorem l_of {a : Expr} {ia : E} {p : Pos} (hK : X.K = g.K) (hm : X.mg "list" = none) (ha : PE X a (rE g W (evE cal ia))) (hg : Gl X "list" := by rfl) (hs : starEach [a] X.env = (false, eval a X.env) :: starEach [] X.env := by rfl) :
    PE X (.Call (.Name "list" p) [a] [] pos) (rLn g W (evL cal (.of ia))) := by
  have h := call_list_of (X := X)
  rw [hK] at h
  refine pe_imp (pe_callTy h hg hm (by decide +kernel) (pa_cons ha pa_nil hs) (he := hs)) fun σ H Q h => ?_
  obtain ⟨α, S, ρ, a0, r, w⟩ := h
  have w : wp (M.bind (evE cal ia ρ) (fun x => fun S => M.opt (ofD S x) S) S) _ _ := w
  refine ⟨α, S, ρ, a0, r, wp_mono (wp_bind w) (fun x S1 h1 α1 H1 e1 a1 v tv => ?_) fun _ _ z => z⟩
  cases e : ofD S1 x with
  | none => simp only [M.opt, e] at h1; exact h1.elim
  | some ds =>
    simp only [M.opt, e] at h1
    have fin : ∀ {b : Addr} {xs : List V}, (SqL g.K H1 b xs ∨ SqT g.K H1 b xs) → g.TlA α1 H1 ds xs → ∃ p ys, [V.ref b] = [.ref p] ∧ (SqL g.K H1 p ys ∨ SqT g.K H1 p ys) ∧ ∀ l, H1 l = none → Q (.ref l) (upd H1 l (.lst ys)) := fun {b xs} hq tx => by
      refine ⟨b, xs, rfl, hq, fun l hl => ?_⟩
      obtain ⟨e2, a2⟩ := At.fresh a1 hl (u := .lst xs)
      exact h1 α1 _ (e1.trans e2) a2 l xs (e1.none a1 hl) (a1.notin hl) upd_same (TlA.ext e2 a1 tx)
    unfold ofD at e
    split at e
    · obtain ⟨b, xs, rfl, h2, h3⟩ := lst_at a1 tv e
      exact fin (.inl (SqL.of h2)) h3
    · cases e
      cases tv with
      | tup hq hx => exact fin (.inr hq.sq) (TpA.toTl hx)
    · cases e
      cases tv with
      | lst hq hx => exact fin (.inl hq.sq) (TpA.toTl hx)
    · cases e
end
end Ir
set_option Elab.async false
set_option maxRecDepth 100000
set_option maxHeartbeats 4000001
/-! Loops, comprehensions, statements, a def's body. -/
namespace Ir
open PySem L2 PySem.Spec PyProof.Rows

/-! ### targets -/
/-- σ' is σ but at vs -/
structure Ag (vs : List Nat) (σ σ' : L2.St) : Prop where
  len : σ'.length = σ.length
  at_ : ∀ j, j ∉ vs → σ'[j]? = σ[j]?
theorem wipe_get : ∀ (vs : List Nat) (σ : L2.St) (j : Nat), (wipe σ vs)[j]? = if j ∈ vs ∧ j < σ.length then some none else σ[j]?
  | [], σ, j => by simp [wipe]
  | v :: vs, σ, j => by
    unfold wipe
    by_cases e : v = j
    · subst e
      by_cases h : v < σ.length
      · rw [List.getElem?_set_self (by rw [wipe_length]; exact h)]
        simp [h]
      · rw [List.getElem?_eq_none (by rw [List.length_set, wipe_length]; omega), if_neg (by omega), List.getElem?_eq_none (by omega)]
    · rw [List.getElem?_set_ne e, wipe_get vs σ j]
      have : (j ∈ v :: vs) ↔ j ∈ vs := by
        rw [List.mem_cons]
        exact ⟨fun h => h.resolve_left fun z => e z.symm, .inr⟩
      simp [this]
theorem Ag.wipe {vs : List Nat} {σ σ' : L2.St} (a : Ag vs σ σ') : wipe σ' vs = wipe σ vs := by
  apply List.ext_getElem?
  intro j
  rw [wipe_get, wipe_get, a.len]
  by_cases h : j ∈ vs
  · by_cases l : j < σ.length
    · simp [h, l]
    · simp only [h, l, and_false, if_false]
      rw [List.getElem?_eq_none (by rw [a.len]; omega), List.getElem?_eq_none (by omega)]
  · simp [h, a.at_ j h]
theorem Ag.refl (vs : List Nat) (σ : L2.St) : Ag vs σ σ := ⟨rfl, fun _ _ => rfl⟩
theorem Ag.set {vs : List Nat} {σ σ' : L2.St} {i : Nat} {x : Option V} (h : i ∈ vs) (a : Ag vs (σ.set i x) σ') : Ag vs σ σ' := ⟨by rw [a.len, List.length_set], fun j hj => by rw [a.at_ j hj, List.getElem?_set_ne (fun z => hj (by rw [← z]; exact h))]⟩
theorem Ag.mono {vs ws : List Nat} {σ σ' : L2.St} (h : ∀ i ∈ vs, i ∈ ws) (a : Ag vs σ σ') : Ag ws σ σ' := ⟨a.len, fun j hj => a.at_ j fun z => hj (h j z)⟩
/-- what a turn hands to its target: a tuple that is taken apart at once may be any -/
def TlS (g : Gc) (one : Bool) (α : List Addr) (H : Hp) (d : D) (v : V) : Prop := g.Tl α H d v ∨ (one = false ∧ ∃ a xs ds, d = .p (.tuple ds) ∧ v = .ref a ∧ SqT g.K H a xs ∧ TpA g.K H ds xs)
def rG (g : Gc) (tg : List Nat) (one : Bool) : TG := fun v σ H Q => ∃ α S ρ d ρ', g.At α H S ∧ g.Sr α H σ ρ ∧ TlS g one α H d v ∧ tgt tg one d ρ = some ρ' ∧ ∀ σ', g.Sr α H σ' ρ' → Ag tg σ σ' → Q σ' H
def rGs (g : Gc) (tg : List Nat) : TGs := fun vs σ H Q => ∃ α S ρ ds ρ', g.At α H S ∧ g.Sr α H σ ρ ∧ g.TlA α H ds vs ∧ setAll tg ds ρ = some ρ' ∧ ∀ σ', g.Sr α H σ' ρ' → Ag tg σ σ' → Q σ' H
theorem pg_imp {X : Cx} {e : Expr} {t t' : TG} (h : PG X e t) (i : ∀ v σ H Q, t' v σ H Q → t v σ H Q) : PG X e t' := ⟨fun pins s σ H v u Q I r q => h.run pins s σ H v u Q I r (i v σ H Q q)⟩
theorem pgs_imp {X : Cx} {e : List Expr} {t t' : TGs} (h : PGs X e t) (i : ∀ v σ H Q, t' v σ H Q → t v σ H Q) : PGs X e t' := ⟨fun pins s σ H v u Q I r q => h.run pins s σ H v u Q I r (i v σ H Q q)⟩
section
variable {X : Cx} {g : Gc} {W : WX} {cal : Nat → List D → M D} {pos : Pos}
theorem g_one (i : Nat) {x : Str} (hN : X.N.Nodup) (hi : X.N[i]? = some x := by rfl) (hx : Loc X.env.scope x := by first | exact Or.inl rfl | exact Or.inr rfl) (hf : X.fn x = true ∨ X.env.scope.names.lookup x = some .local := by first | exact .inl rfl | exact .inr rfl) :
    PG X (.Name x pos) (rG g [i] true) := pg_imp (pg_name hN hi hx hf) fun v σ H Q q => by
  obtain ⟨α, S, ρ, d, ρ', a, r, t, e, k⟩ := q
  have e : some (ρ.set i (some d)) = some ρ' := e
  cases e
  have t : g.Tl α H d v := t.resolve_right fun z => by cases z.1
  exact k _ (r.set t) ((Ag.refl _ _).set (List.mem_singleton.mpr rfl))
theorem g_nil : PGs X [] (rGs g []) := pgs_imp pgs_nil fun v σ H Q q => by
  obtain ⟨α, S, ρ, ds, ρ', a, r, t, e, k⟩ := q
  cases ds with
  | nil =>
    cases t
    cases e
    exact ⟨rfl, k σ r (Ag.refl _ _)⟩
  | cons d ds => cases e
theorem g_cons (i : Nat) {is : List Nat} {x : Str} {es : List Expr} (hN : X.N.Nodup) (h2 : PGs X es (rGs g is)) (hi : X.N[i]? = some x := by rfl) (hx : Loc X.env.scope x := by first | exact Or.inl rfl | exact Or.inr rfl)
    (hf : X.fn x = true ∨ X.env.scope.names.lookup x = some .local := by first | exact .inl rfl | exact .inr rfl) (hs : (assignEach (.Name x pos :: es) X.env).map (·.2) = assign (.Name x pos) X.env :: (assignEach es X.env).map (·.2) := by rfl) :
    PGs X (.Name x pos :: es) (rGs g (i :: is)) := pgs_imp (pgs_cons (pg_name hN hi hx hf) h2 hs) fun v σ H Q q => by
  obtain ⟨α, S, ρ, ds, ρ', a, r, t, e, k⟩ := q
  cases ds with
  | nil => cases e
  | cons d ds =>
    cases t with
    | cons t1 t2 =>
      refine ⟨_, _, rfl, α, S, _, ds, ρ', a, r.set t1, t2, e, fun σ' r' ag => k σ' r' ?_⟩
      exact (ag.mono fun j h => List.mem_cons_of_mem _ h).set (List.mem_cons_self ..)
theorem g_tup {es : List Expr} {k : Nat} {is : List Nat} (hK : X.K = g.K) (hc : X.calm = true) (h : PGs X es (rGs g is)) (hn : (assignEach es X.env).length = is.length := by rfl) (hst : (assignEach es X.env).findIdx? (·.1) = none := by rfl) :
    PG X (.Tuple es k pos) (rG g is false) := by
  have h1 := pg_tup (pos := pos) (k := k) hc h hn hst
  rw [hK] at h1
  refine pg_imp h1 fun v σ H Q q => ?_
  obtain ⟨α, S, ρ, d, ρ', a, r, t, e, k⟩ := q
  unfold tgt at e
  rw [if_neg (by decide)] at e
  split at e
  · split at e
    · rename_i hl
      rcases t with t | ⟨_, b, xs, ds, e2, rfl, hq, ha⟩
      · cases t with
        | tup hq ha => exact ⟨_, _, rfl, hq.sq, by rw [← ha.length]; exact hl, α, S, ρ, _, ρ', a, r, TpA.toTl ha, e, k⟩
      · cases e2
        exact ⟨b, xs, rfl, hq, by rw [← ha.length]; exact hl, α, S, ρ, _, ρ', a, r, TpA.toTl ha, e, k⟩
    · cases e
  · cases e
end

/-! ### what is walked -/
def Wk (g : Gc) (one : Bool) (src : Src) (J : It) (α0 : List Addr) (H0 : Hp) : Prop := ∀ i α H S, Ext α0 α H0 H → g.At α H S →
  (∀ d, src.at i S = some (some d) → J.go i H ∧ ∀ x H', J.yld i H x H' → Ext α α H H' ∧ g.At α H' S ∧ TlS g one α H' d x) ∧ (src.at i S = some none → J.stop i H)
def rI (g : Gc) (W : WX) (one : Bool) (m : Sl → M Src) : TI := fun σ H R => rM g W m σ H fun src _ α' H' => ∀ J, Wk g one src J α' H' → R J H'
theorem sq_ext {g : Gc} {α α' : List Addr} {H H' : Hp} {S : Sto} {a : Addr} {xs : List V} (e : Ext α α' H H') (x : g.At α H S) (h : SqT g.K H a xs) : SqT g.K H' a xs := sqT_keep (e.kt x) h
theorem tpa_get {K : PySem.W.Frag} {H : Hp} {ds : List PyData} {xs : List V} (h : TpA K H ds xs) {i : Nat} (e : ds[i]? = none) : xs.length ≤ i := by
  rw [← h.length]
  exact List.getElem?_eq_none_iff.mp e
theorem map_at {A B : Type} {f : A → B} {l : List A} {i : Nat} {b : B} (h : (l.map f)[i]? = some b) : ∃ a, l[i]? = some a ∧ f a = b := by
  rw [List.getElem?_map] at h
  exact Option.map_eq_some_iff.mp h
theorem map_none {A B : Type} {f : A → B} {l : List A} {i : Nat} (h : (l.map f)[i]? = none) : l[i]? = none := by
  rw [List.getElem?_map] at h
  exact Option.map_eq_none_iff.mp h
section
variable {X : Cx} {g : Gc} {W : WX} {cal : Nat → List D → M D} {pos : Pos} {tg : Expr} {one : Bool}
theorem i_tup {e : Expr} {ie : E} (hK : X.K = g.K) (h : PE X e (rE g W (evE cal ie))) : PI X tg e (rI g W one (evI cal (.tup ie))) := by
  have h1 := pi_tup (tg := tg) h
  rw [hK] at h1
  refine pi_imp h1 fun σ H R q => ?_
  obtain ⟨α, S, q⟩ := q
  refine ⟨α, S, (rAt.bind (m := evE cal ie) (f := fun x _ => M.opt (srcTup x)) q).imp fun x S1 α1 H1 e1 a1 h1 v tv => ?_⟩
  obtain ⟨z, hz, k⟩ := rAt.opt (o := fun _ => srcTup x) h1
  have hz : srcTup x = some z := hz
  unfold srcTup at hz
  split at hz
  · rename_i ds _
    cases hz
    cases tv with
    | @tup a xs _ hq ha =>
      refine ⟨a, rfl, ⟨xs, hq.sq⟩, k α1 H1 (Ext.refl _ _) a1 _ fun i α2 H2 S2 e2 a2 => ⟨fun d hd => ?_, fun hd => ?_⟩⟩
      · have hd : (ds.map D.p)[i]? = some d := Option.some.inj hd
        obtain ⟨p, hp, rfl⟩ := map_at hd
        obtain ⟨v, hv, tv⟩ := ha.get hp
        refine ⟨⟨xs, v, sq_ext e2 a1 hq.sq, hv⟩, fun y H' hy => ?_⟩
        obtain ⟨rfl, hy⟩ := hy
        have e3 := hy xs (sq_ext e2 a1 hq.sq)
        rw [hv] at e3
        cases e3
        exact ⟨Ext.refl _ _, a2, .inl (tv.keep (e2.kt a1))⟩
      · have hd : (ds.map D.p)[i]? = none := Option.some.inj hd
        exact ⟨xs, sq_ext e2 a1 hq.sq, tpa_get ha (map_none hd)⟩
  all_goals (cases hz; done)
theorem i_lst {e : Expr} {ie : E} (hK : X.K = g.K) (h : PE X e (rE g W (evE cal ie))) : PI X tg e (rI g W one (evI cal (.lst ie))) := by
  have h1 := pi_list (tg := tg) h
  rw [hK] at h1
  refine pi_imp h1 fun σ H R q => ?_
  obtain ⟨α, S, q⟩ := q
  refine ⟨α, S, (rAt.bind (m := evE cal ie) (f := fun x _ => fun S => M.opt (srcLst S x) S) q).imp fun x S1 α1 H1 e1 a1 h1 v tv => ?_⟩
  obtain ⟨z, hz, k⟩ := h1.opt
  unfold srcLst at hz
  split at hz
  · split at hz
    · rename_i j _ ds hj
      cases hz
      obtain ⟨a, xs, h4, h2, h3⟩ := At.lst a1 hj
      obtain ⟨a', h4', rfl⟩ := tv
      rw [h4] at h4'
      cases h4'
      refine ⟨a, rfl, ⟨xs, SqL.of h2⟩, k α1 H1 (Ext.refl _ _) a1 _ fun i α2 H2 S2 e2 a2 => ?_⟩
      cases ej : S2[j]? with
      | none => exact ⟨fun d hd => by simp [Src.at, ej] at hd, fun hd => by simp [Src.at, ej] at hd⟩
      | some o =>
        cases o with
        | dic _ => exact ⟨fun d hd => by simp [Src.at, ej] at hd, fun hd => by simp [Src.at, ej] at hd⟩
        | lst ds =>
          obtain ⟨b, ys, h5, h6, h7⟩ := At.lst a2 ej
          have h8 := e2.pre j a h4
          rw [h5] at h8
          cases h8
          have only : ∀ zs, SqL g.K H2 a zs → True := fun _ _ => trivial
          refine ⟨fun d hd => ?_, fun hd => ?_⟩
          · simp [Src.at, ej] at hd
            obtain ⟨v, hv, tv⟩ := Paired.get h7 hd
            refine ⟨⟨ys, v, SqL.of h6, hv⟩, fun y H' hy => ?_⟩
            obtain ⟨rfl, hy⟩ := hy
            have e3 := hy ys (SqL.of h6)
            rw [hv] at e3
            cases e3
            exact ⟨Ext.refl _ _, a2, .inl tv⟩
          · simp [Src.at, ej] at hd
            refine ⟨ys, SqL.of h6, ?_⟩
            rw [← Paired.length h7]
            exact hd
    all_goals (cases hz; done)
  all_goals (cases hz; done)
theorem i_str {e : Expr} {ie : E} (h : PE X e (rE g W (evE cal ie))) : PI X tg e (rI g W one (evI cal (.str ie))) := by
  refine pi_imp (pi_str h) fun σ H R q => ?_
  obtain ⟨α, S, q⟩ := q
  refine ⟨α, S, (rAt.bind (m := evE cal ie) (f := fun x _ => M.opt (srcStr x)) q).imp fun x S1 α1 H1 e1 a1 h1 v tv => ?_⟩
  obtain ⟨z, hz, k⟩ := rAt.opt (o := fun _ => srcStr x) h1
  have hz : srcStr x = some z := hz
  unfold srcStr at hz
  split at hz
  · rename_i z0 _
    cases hz
    cases tv
    refine ⟨z0, rfl, k α1 H1 (Ext.refl _ _) a1 _ fun i α2 H2 S2 e2 a2 => ⟨fun d hd => ?_, fun hd => ?_⟩⟩
    · obtain ⟨c, hc, rfl⟩ := map_at (Option.some.inj hd)
      have hc2 : z0.cps[i]? = some c := by rw [← Array.getElem?_toList]; exact hc
      refine ⟨(Array.getElem?_eq_some_iff.mp hc2).1, fun y H' hy => ?_⟩
      obtain ⟨rfl, c', hc', rfl⟩ := hy
      rw [hc2] at hc'
      cases hc'
      exact ⟨Ext.refl _ _, a2, .inl (.str _)⟩
    · have hn := map_none (Option.some.inj hd)
      have := List.getElem?_eq_none_iff.mp hn
      rwa [Array.length_toList] at this
  all_goals (cases hz; done)
theorem i_rng {a : Expr} {ia : E} {p : Pos} (hm : X.mg "range" = none) (h : PE X a (rE g W (evE cal ia))) (hg : Gl X "range" := by rfl) (hs : starEach [a] X.env = [(false, eval a X.env)] := by rfl) : PI X tg (.Call (.Name "range" p) [a] [] pos) (rI g W one (evI cal (.rng ia))) := by
  refine pi_imp (pi_range1 hg hm (pa_cons h pa_nil (by rw [hs]; rfl)) hs) fun σ H R q => ?_
  obtain ⟨α, S, q⟩ := q
  refine ⟨α, S, (rAt.bind (m := evE cal ia) (f := fun x _ => M.opt (srcRng x)) q).imp fun x S1 α1 H1 e1 a1 h1 v tv => ?_⟩
  obtain ⟨z, hz, k⟩ := rAt.opt (o := fun _ => srcRng x) h1
  have hz : srcRng x = some z := hz
  unfold srcRng at hz
  split at hz
  · rename_i n _
    split at hz
    · rename_i hb
      cases hz
      cases tv
      refine ⟨n, rfl, by omega, by omega, k α1 H1 (Ext.refl _ _) a1 _ fun i α2 H2 S2 e2 a2 => ⟨fun d hd => ?_, fun hd => ?_⟩⟩
      · obtain ⟨j, hj, rfl⟩ := map_at (Option.some.inj hd)
        have hl := (List.getElem?_eq_some_iff.mp hj).1
        rw [List.length_range] at hl
        rw [List.getElem?_range hl] at hj
        cases hj
        refine ⟨hl, fun y H' hy => ?_⟩
        obtain ⟨rfl, rfl⟩ := hy
        rw [Int.zero_add]
        exact ⟨Ext.refl _ _, a2, .inl (.int _)⟩
      · have hn := List.getElem?_eq_none_iff.mp (map_none (Option.some.inj hd))
        rw [List.length_range] at hn
        exact hn
    all_goals (cases hz; done)
  all_goals (cases hz; done)
theorem zip_at {A B : Type} : ∀ {l : List A} {m : List B} {i : Nat}, match (l.zip m)[i]? with
    | some q => l[i]? = some q.1 ∧ m[i]? = some q.2
    | none => l.length ≤ i ∨ m.length ≤ i
  | [], m, i => by simp
  | a :: l, [], i => by simp
  | a :: l, b :: m, 0 => by simp
  | a :: l, b :: m, i + 1 => by
    have h := zip_at (l := l) (m := m) (i := i)
    rw [List.zip_cons_cons, List.getElem?_cons_succ]
    revert h
    cases (l.zip m)[i]? with
    | none => simp
    | some q => simp
theorem zip_some {A B : Type} {l : List A} {m : List B} {i : Nat} {q : A × B} (h : (l.zip m)[i]? = some q) : l[i]? = some q.1 ∧ m[i]? = some q.2 := by
  have z := zip_at (l := l) (m := m) (i := i)
  rw [h] at z
  exact z
theorem zip_none {A B : Type} {l : List A} {m : List B} {i : Nat} (h : (l.zip m)[i]? = none) : l.length ≤ i ∨ m.length ≤ i := by
  have z := zip_at (l := l) (m := m) (i := i)
  rw [h] at z
  exact z
theorem i_zip {a b : Expr} {ia ib : E} {elts : List Expr} {kk : Nat} {p tpos : Pos} (hK : X.K = g.K) (hm : X.mg "zip" = none) (h1 : PE X a (rE g W (evE cal ia))) (h2 : PE X b (rE g W (evE cal ib))) (hg : Gl X "zip" := by rfl)
    (hs : starEach [a, b] X.env = (false, eval a X.env) :: starEach [b] X.env := by rfl) (hs2 : starEach [b] X.env = (false, eval b X.env) :: starEach [] X.env := by rfl) (hpl : (backTo pos (starEach [b] X.env)).any (·.1) = false := by rfl) :
    PI X (.Tuple elts kk tpos) (.Call (.Name "zip" p) [a, b] [] pos) (rI g W false (evI cal (.zip ia ib))) := by
  have h3 := RZ.pi_zipA (X := X) (elts := elts) (kk := kk) (tpos := tpos) (p := p) (pos := pos) hg hm (pa_cons h1 (pa_cons h2 pa_nil hs2) hs) hs hpl
  rw [hK] at h3
  refine pi_imp h3 fun σ H R q => ?_
  obtain ⟨α, S, q⟩ := q
  refine ⟨α, S, (rAt.bind (m := evE cal ia) (f := fun x ρ => M.bind (evE cal ib ρ) fun y => M.opt (srcZip x y)) q).imp fun x S1 α1 H1 e1 a1 h1 v tv => ⟨α1, S1, (rAt.bind (m := evE cal ib) (f := fun y _ => M.opt (srcZip x y)) h1).imp fun y S2 α2 H2 e2 a2 h2 u tu => ?_⟩⟩
  obtain ⟨z, hz, k⟩ := rAt.opt (o := fun _ => srcZip x y) h2
  have hz : srcZip x y = some z := hz
  have tv := tv.ext e2 a1
  unfold srcZip at hz
  split at hz
  · cases hz
    cases tv with
    | @tup c xs _ hq ha =>
      cases tu with
      | @tup d ys _ hr hb =>
        refine ⟨c, d, xs, ys, rfl, .inr ⟨hq.sq, hr.sq, k α2 H2 (Ext.refl _ _) a2 _ fun i α3 H3 S3 e3 a3 => ⟨fun dd hd => ?_, fun hd => ?_⟩⟩⟩
        · obtain ⟨q, hq1, rfl⟩ := map_at (Option.some.inj hd)
          have hz2 := zip_some hq1
          obtain ⟨v1, hv1, t1⟩ := ha.get hz2.1
          obtain ⟨v2, hv2, t2⟩ := hb.get hz2.2
          have s1 := sq_ext e3 a2 hq.sq
          have s2 := sq_ext e3 a2 hr.sq
          refine ⟨⟨xs, ys, v1, v2, s1, s2, hv1, hv2⟩, fun y H' hy => ?_⟩
          obtain ⟨T, y1, y2, rfl, hT, rfl, g1, g2⟩ := hy
          have e4 := g1 xs s1
          have e5 := g2 ys s2
          rw [hv1] at e4
          rw [hv2] at e5
          cases e4
          cases e5
          obtain ⟨e6, a6⟩ := At.fresh a3 hT (u := .tup [v1, v2])
          exact ⟨e6, a6, .inr ⟨rfl, T, _, _, rfl, rfl, .inl (.inl upd_same), .cons (t1.keep ((e3.trans e6).kt a2)) (.cons (t2.keep ((e3.trans e6).kt a2)) .nil)⟩⟩
        · have hn := map_none (Option.some.inj hd)
          have hz2 := zip_none hn
          refine ⟨xs, ys, sq_ext e3 a2 hq.sq, sq_ext e3 a2 hr.sq, ?_⟩
          rw [← ha.length, ← hb.length]
          exact hz2
  all_goals (cases hz; done)

/-! ### comprehensions -/
theorem calm_wp {β : Type} {m : M β} {S : Sto} {ok : β → Sto → Prop} {ex ex' : Ex → Sto → Prop} (h : wp (M.calm m S) ok ex) : wp (m S) ok ex' := by
  unfold M.calm at h
  cases e : m S with
  | val a S' => rw [e] at h; exact h
  | exc x S' => rw [e] at h; exact h.elim
  | bad => rw [e] at h; exact h.elim
theorem tLc_of {it : Wi} {tgs : List Nat} {ie : E} {σ : L2.St} {H : Hp} {Q : VK} (h : rLn g W (evL cal (.lc it tgs one ie)) σ H Q) :
    tLc (rI g W one (evI cal it)) (rG g tgs one) tYes (rE g W0 (evE cal ie)) tgs σ H Q := by
  obtain ⟨α, S, ρ, a, r, w⟩ := h
  have w : wp (M.bind (evI cal it ρ) (fun src => fun S => match src.size S with
    | some n => if n ≤ 100000 then lcGo src (fun d => M.calm (match tgt tgs one d (wipeD ρ tgs) with
        | some ρ' => evE cal ie ρ'
        | none => M.bad)) n 0 [] S else .bad
    | none => .bad) S) _ _ := w
  refine ⟨α, S, ρ, a, r, wp_mono (wp_bind w) (fun src S1 h1 α1 H1 e1 a1 J wk p hp => ?_) fun _ _ z => z⟩
  cases hn : src.size S1 with
  | none => rw [hn] at h1; exact h1.elim
  | some n =>
    rw [hn] at h1
    by_cases hl : n ≤ 100000
    · simp only [hl, if_true] at h1
      obtain ⟨ef, af⟩ := At.fresh a1 hp (u := .lst [])
      have hp0 : H p = none := e1.none a1 hp
      -- turn i, m turns are left, the heap H2: the rest of the run ends well
      let Wf : Nat → Nat → Hp → Prop := fun i m H2 => ∃ α2 S2 acc xs, Ext α1 α2 H1 H2 ∧ g.At α2 H2 S2 ∧ p ∉ α2 ∧ H2 p = some (.lst xs) ∧ g.TlA α2 H2 acc xs ∧ acc.length + m ≤ 100000 ∧
        wp (lcGo src (fun d => M.calm (match tgt tgs one d (wipeD ρ tgs) with | some ρ' => evE cal ie ρ' | none => M.bad)) m i acc S2)
          (fun ds S' => ∀ α' H', Ext α α' H H' → g.At α' H' S' → ∀ p xs, H p = none → p ∉ α' → H' p = some (.lst xs) → g.TlA α' H' ds xs → Q (.ref p) H') (exW g W α σ H)
      refine ⟨Wf, ⟨n, α1, S1, [], [], ef, af, a1.notin hp, upd_same, .nil, by simpa using hl, h1⟩, ?_⟩
      rintro i m H2 ⟨α2, S2, acc, xs, e2, a2, np, hx, tx, hl2, w2⟩
      have wki := wk i α2 H2 S2 e2 a2
      cases hat : src.at i S2 with
      | none => cases m <;> (simp only [lcGo, hat] at w2; exact w2.elim)
      | some o =>
        cases o with
        | none =>
          refine .inl ⟨wki.2 hat, ?_⟩
          have w3 : ∀ α' H', Ext α α' H H' → g.At α' H' S2 → ∀ p xs, H p = none → p ∉ α' → H' p = some (.lst xs) → g.TlA α' H' acc xs → Q (.ref p) H' := by
            cases m <;> (simp only [lcGo, hat] at w2; exact w2)
          exact w3 α2 H2 (e1.trans e2) a2 p xs hp0 np hx tx
        | some d =>
          cases m with
          | zero => simp only [lcGo, hat] at w2; exact w2.elim
          | succ m =>
            simp only [lcGo, hat] at w2
            obtain ⟨go, yl⟩ := wki.1 d hat
            refine .inr ⟨go, Wf (i + 1) m, fun H' q => ⟨m, Nat.lt_succ_self _, q⟩, fun x H' hy => ?_⟩
            obtain ⟨ey, ay, ty⟩ := yl x H' hy
            have w3 := wp_bind w2
            have w4 := calm_wp (ex' := fun _ _ => False) w3
            cases ht : tgt tgs one d (wipeD ρ tgs) with
            | none => rw [ht] at w4; exact w4.elim
            | some ρ' =>
              rw [ht] at w4
              have eH := (e1.trans (e2.trans ey))
              refine ⟨α2, S2, wipeD ρ tgs, d, ρ', ay, ((r.ext eH a).wipe tgs), ty, ht, fun σ' r' ag => ⟨ag.wipe.trans (Ag.wipe (σ := σ) (σ' := L2.wipe σ tgs) ⟨wipe_length _ _, fun j hj => by rw [wipe_get, if_neg (fun z => hj z.1)]⟩), ?_⟩⟩
              dsimp only [tYes]
              rw [if_pos rfl]
              refine ⟨α2, S2, ρ', ay, r', wp_mono w4 (fun z S3 w5 α3 H3 e3 a3 v tv => ?_) fun _ _ z => z.elim⟩
              have hx' : H' p = some (.lst xs) := ey.keep p _ hx np
              have hx3 : H3 p = some (.lst xs) := e3.keep p _ hx' np
              have np3 : p ∉ α3 := e3.notin hx' np
              have tx3 : g.TlA α3 H3 acc xs := TlA.ext (ey.trans e3) a2 tx
              have hlen : xs.length = acc.length := (Paired.length tx).symm
              refine ⟨xs, hx3, by rw [hlen]; exact Nat.lt_of_lt_of_le (by omega : acc.length < 100001) (by rw [sizeLine_eq]; decide), α3, S3, acc ++ [z], xs ++ [v], ?_, a3.apart hx3 np3, np3, upd_same, ?_, by rw [List.length_append, List.length_singleton]; omega, w5⟩
              · have ee := (e2.trans (ey.trans e3))
                exact ⟨ee.pre, fun b o hb n => by rw [upd_ne (fun z => by rw [z, hp] at hb; cases hb)]; exact ee.keep b o hb n, ee.new⟩
              · have kt : KT H3 (upd H3 p (.lst (xs ++ [v]))) := KT.lst hx3
                exact Paired.app (Paired.mapP tx3 fun _ _ q => q.keep kt) (.cons (tv.keep kt) .nil)
    · simp only [hl, if_false] at h1
      exact h1.elim
theorem l_lc {elt tg iter : Expr} {scope : Scope} {it : Wi} {ie : E} (own : List (Str × Nat)) {CX : CXT} {k : Nat} (G : Gd X g W CX cal k) (hi : PI X tg iter (rI g W one (evI cal it))) (ok : blkC X.N X.env.scope scope own = true)
    (hg : ∀ (s : Shared) (H : Hp) (C : Addr) (cl : List (Str × Addr)) (fp : List Addr), PG (X.blk s H scope (compEnvC scope cl C X.env) fp) tg (rG g (own.map (·.2)) one))
    (he : ∀ (s : Shared) (H : Hp) (C : Addr) (cl : List (Str × Addr)) (fp : List Addr), Gd (X.blk s H scope (compEnvC scope cl C X.env) fp) g W0 CX cal k → PE (X.blk s H scope (compEnvC scope cl C X.env) fp) elt (rE g W0 (evE cal ie)))
    (hs : ∀ x, foldedSetIterable iter X.env x = pure x := by intro _; rfl) : PE X (.ListComp elt [⟨tg, iter, [], 0⟩] scope pos) (rLn g W (evL cal (.lc it (own.map (·.2)) one ie))) :=
  pe_imp (pe_lc G.calm G.nd hi (blkOk_by ok) hg (fun _ _ _ _ _ => pts_nil) (fun s H C cl fp => he s H C cl fp (G.blk s H scope _ fp)) hs) fun _ _ _ q => tLc_of q
end
end Ir
set_option Elab.async false
set_option maxRecDepth 100000
set_option maxHeartbeats 4000001
/-! Statements, a def's body, the table of defs. -/
namespace Ir
open PySem L2 PySem.Spec PyProof.Rows

def ends (g : Gc) (D : Ends) (σ' : L2.St) (α' : List Addr) (H' : Hp) : Ctl → Prop
  | .next => D.nx σ' H'
  | .brk => D.bk σ' H'
  | .cont => D.ct σ' H'
  | .ret d => ∀ v, g.Tl α' H' d v → D.rt v H'
def exA (g : Gc) (W : WX) (α : List Addr) (H : Hp) (e : Ex) (S' : Sto) : Prop := ∀ cls dx α' H' σ', Ext α α' H H' → g.At α' H' S' → g.TX e cls dx H' → W cls dx σ' H'
def sAt (g : Gc) (W : WX) (α : List Addr) (S : Sto) (m : Sl → M (Ctl × Sl)) : TS := fun D σ H => ∃ ρ, g.At α H S ∧ g.Sr α H σ ρ ∧ wp (m ρ S) (fun c S' => ∀ α' H' σ', Ext α α' H H' → g.At α' H' S' → g.Sr α' H' σ' c.2 → ends g D σ' α' H' c.1) (exA g W α H)
def rS (g : Gc) (W : WX) (m : Sl → M (Ctl × Sl)) : TS := fun D σ H => ∃ α S, sAt g W α S m D σ H
section
variable {g : Gc} {W : WX} {α : List Addr} {S : Sto} {β γ : Type} {σ : L2.St} {H : Hp}
/-- an expression, then the rest -/
theorem sAt.bind {m : Sl → M β} {f : β → Sl → M (Ctl × Sl)} {D : Ends} (h : sAt g W α S (fun ρ => M.bind (m ρ) fun b => f b ρ) D σ H) : rAt g W α S m σ H (fun b S' α' H' => sAt g W α' S' (f b) D σ H') := by
  obtain ⟨ρ, a, r, h⟩ := h
  refine ⟨ρ, a, r, wp_mono (wp_bind h) (fun b S' q α' H' e a' => ⟨ρ, a', r.ext e a, wp_mono q (fun c S2 q2 α2 H2 σ2 e2 a2 r2 => q2 α2 H2 σ2 (e.trans e2) a2 r2) fun x S2 z cls dx α2 H2 σ2 e2 a2 t => z cls dx α2 H2 σ2 (e.trans e2) a2 t⟩) fun x S' z cls dx α' H' e a' t => z cls dx α' H' σ e a' t⟩
theorem sAt.here {c : Ctl} {D : Ends} (h : sAt g W α S (fun ρ => M.pure (c, ρ)) D σ H) : ends g D σ α H c := by
  obtain ⟨ρ, a, r, h⟩ := h
  exact h α H σ (Ext.refl _ _) a r
/-- a statement, then the rest -/
theorem sAt.seq {m : Sl → M (Ctl × Sl)} {f : Sl → M (Ctl × Sl)} {D : Ends} (h : sAt g W α S (fun ρ => M.bind (m ρ) fun c => match c with | (.next, ρ') => f ρ' | c => M.pure c) D σ H) : sAt g W α S m { D with nx := rS g W f D } σ H := by
  obtain ⟨ρ, a, r, h⟩ := h
  refine ⟨ρ, a, r, wp_mono (wp_bind h) (fun c S' q α' H' σ' e a' r' => ?_) fun _ _ z => z⟩
  obtain ⟨c, ρ'⟩ := c
  cases c with
  | next => exact ⟨α', S', ρ', a', r', wp_mono q (fun c S2 q2 α2 H2 σ2 e2 a2 r2 => q2 α2 H2 σ2 (e.trans e2) a2 r2) fun x S2 z cls dx α2 H2 σ2 e2 a2 t => z cls dx α2 H2 σ2 (e.trans e2) a2 t⟩
  | brk => exact q α' H' σ' e a' r'
  | cont => exact q α' H' σ' e a' r'
  | ret d => exact q α' H' σ' e a' r'
end
section
variable {X : Cx} {g : Gc} {W : WX} {cal : Nat → List D → M D} {pos : Pos}
theorem ss_nil : PSs X [] (rS g W (exSs cal .nil)) := pss_imp pss_nil fun D σ H h => by
  obtain ⟨α, S, h⟩ := h
  exact h.here (c := .next)
theorem ss_cons {st : Stmt} {rest : List Stmt} {i : Ir.St} {is : Ss} (h1 : PS X st (rS g W (exS cal i))) (h2 : PSs X rest (rS g W (exSs cal is))) : PSs X (st :: rest) (rS g W (exSs cal (.cons i is))) := pss_imp (pss_cons h1 h2) fun D σ H h => by
  obtain ⟨α, S, h⟩ := h
  exact ⟨α, S, sAt.seq (m := exS cal i) (f := exSs cal is) h⟩
theorem asg_of {m : Sl → M D} {i : Nat} {D : Ends} {σ : L2.St} {H : Hp} (h : rS g W (fun ρ => M.bind (m ρ) fun d => M.pure (.next, ρ.set i (some d))) D σ H) : tAsg (rE g W m) (gName i) D σ H := by
  obtain ⟨α, S, h⟩ := h
  refine ⟨α, S, (sAt.bind (m := m) (f := fun d ρ => M.pure (.next, ρ.set i (some d))) h).imp fun d S1 α1 H1 e1 a1 h1 v tv => ?_⟩
  obtain ⟨ρ, a, r, h1⟩ := h1
  exact h1 α1 H1 _ (Ext.refl _ _) a (r.set tv)
theorem s_asg (i : Nat) {x : Str} {e : Expr} {ie : E} {p : Pos} (hN : X.N.Nodup) (he : PE X e (rE g W (evE cal ie))) (hi : X.N[i]? = some x := by rfl) (hx : Loc X.env.scope x := by first | exact Or.inl rfl | exact Or.inr rfl)
    (hs : swapsWith e (some (.Name x p)) pos.line X.env = pure false := by rfl) (hf : X.fn x = true ∨ X.env.scope.names.lookup x = some .local := by first | exact .inl rfl | exact .inr rfl) : PS X (.Assign [.Name x p] e pos) (rS g W (exS cal (.asg i ie))) :=
  ps_imp (ps_set hN hi hx he hs hf) fun _ _ _ h => asg_of h
/-- name = [.. for ..] -/
theorem s_asgLc (i : Nat) {y : Str} {py : Pos} {elt tg iter : Expr} {scope : Scope} {cpos : Pos} {it : Wi} {one : Bool} {ie : E} (own : List (Str × Nat)) {CX : CXT} {k : Nat} (G : Gd X g W CX cal k) (hi : PI X tg iter (rI g W one (evI cal it))) (ok : blkC X.N X.env.scope scope own = true)
    (hg : ∀ (s : Shared) (H : Hp) (C : Addr) (cl : List (Str × Addr)) (fp : List Addr), PG (X.blk s H scope (compEnvC scope cl C X.env) fp) tg (rG g (own.map (·.2)) one))
    (he : ∀ (s : Shared) (H : Hp) (C : Addr) (cl : List (Str × Addr)) (fp : List Addr), Gd (X.blk s H scope (compEnvC scope cl C X.env) fp) g W0 CX cal k → PE (X.blk s H scope (compEnvC scope cl C X.env) fp) elt (rE g W0 (evE cal ie)))
    (hsw : swapsWith (.ListComp elt [⟨tg, iter, [], 0⟩] scope cpos) (some (.Name y py)) pos.line X.env = pure true) (hy : X.N[i]? = some y := by rfl) (hyl : X.env.scope.names.lookup y = some .local := by rfl)
    (hs : ∀ x, foldedSetIterable iter X.env x = pure x := by intro _; rfl) : PS X (.Assign [.Name y py] (.ListComp elt [⟨tg, iter, [], 0⟩] scope cpos) pos) (rS g W (exS cal (.asg i (.lst (.lc it (own.map (·.2)) one ie))))) :=
  ps_imp (ps_setLc G.calm G.nd hy hyl hsw hi (blkOk_by ok) hg (fun _ _ _ _ _ => pts_nil) (fun s H C cl fp => he s H C cl fp (G.blk s H scope _ fp)) hs) fun D σ H h => by
    refine tLc_of (it := it) (ie := ie) ?_
    obtain ⟨α, S, ρ, a, r, w⟩ := h
    have w : wp (M.bind (M.bind (evL cal (.lc it (own.map (·.2)) one ie) ρ) fun ds => alloc (.lst ds)) (fun d => M.pure (Ctl.next, ρ.set i (some d))) S) _ _ := w
    refine ⟨α, S, ρ, a, r, wp_mono (wp_bind (wp_bind w)) (fun ds S1 h1 α1 H1 e1 a1 p xs hp hn hx tx => ?_) fun x S' z cls dx α' H' e a' t => z cls dx α' H' σ e a' t⟩
    unfold alloc at h1
    by_cases hb : rbO S1.length (.lst ds) = true
    · simp only [hb, if_true] at h1
      obtain ⟨a2, pre⟩ := At.take_in a1 hn (o := .lst ds) ⟨xs, hx, tx⟩ hb
      have e2 : Ext α (α1 ++ [p]) H H1 := ⟨fun i b h => pre i b (e1.pre i b h), e1.keep, fun b hb => by
        rcases List.mem_append.mp hb with z | z
        · exact e1.new b z
        · rw [List.mem_singleton] at z
          rw [z]
          exact .inr hp⟩
      refine h1 (α1 ++ [p]) H1 (σ.set i (some (.ref p))) e2 a2 ((r.ext e2 a).set ⟨p, ?_, rfl⟩)
      rw [← a1.len, List.getElem?_append_right (Nat.le_refl _)]
      simp
    · simp only [hb] at h1
      exact h1.elim
theorem s_unp {tg e : Expr} {is : List Nat} {ie : E} (he : PE X e (rE g W (evE cal ie))) (hg : PG X tg (rG g is false)) (hs : swapsWithSole [tg] e pos.line X.env = pure false := by rfl) (hw : swappedStores [tg] e X.env = pure none := by rfl)
    (h1 : (assignEach [tg] X.env).map (·.2) = [assign tg X.env] := by rfl) : PS X (.Assign [tg] e pos) (rS g W (exS cal (.unp is ie))) := ps_imp (ps_asg he hg hs hw h1) fun D σ H h => by
  obtain ⟨α, S, h⟩ := h
  refine ⟨α, S, (sAt.bind (m := evE cal ie) (f := fun d ρ => M.bind (M.opt (tgt is false d ρ)) fun ρ' => M.pure (.next, ρ')) h).imp fun d S1 α1 H1 e1 a1 h1 v tv => ?_⟩
  obtain ⟨ρ, a, r, h1⟩ := h1
  cases ht : tgt is false d ρ with
  | none => simp only [M.bind, M.opt, ht] at h1; exact h1.elim
  | some ρ' =>
    simp only [M.bind, M.opt, ht] at h1
    exact ⟨α1, S1, ρ, d, ρ', a, r, .inl tv, ht, fun σ' r' _ => h1 α1 H1 σ' (Ext.refl _ _) a r'⟩
theorem s_expr {e : Expr} {ie : E} (he : PE X e (rE g W (evE cal ie))) (hs : swapsWith e none pos.line X.env = pure false := by rfl) : PS X (.Expr e pos) (rS g W (exS cal (.expr ie))) := ps_imp (ps_expr he hs) fun D σ H h => by
  obtain ⟨α, S, h⟩ := h
  exact ⟨α, S, (sAt.bind (m := evE cal ie) (f := fun _ ρ => M.pure (.next, ρ)) h).imp fun d S1 α1 H1 e1 a1 h1 v tv => h1.here (c := .next)⟩
theorem s_ret {e : Expr} {ie : E} (he : PE X e (rE g W (evE cal ie))) : PS X (.Return (some e) pos) (rS g W (exS cal (.ret ie))) := ps_imp (ps_ret he) fun D σ H h => by
  obtain ⟨α, S, h⟩ := h
  exact ⟨α, S, (sAt.bind (m := evE cal ie) (f := fun d ρ => M.pure (.ret d, ρ)) h).imp fun d S1 α1 H1 e1 a1 h1 v tv => h1.here (c := .ret d) v tv⟩
theorem s_ite {c : Expr} {a b : List Stmt} {ic : E} {ia ib : Ss} (hc : PT X c (rT g W (evE cal ic))) (ha : PSs X a (rS g W (exSs cal ia))) (hb : PSs X b (rS g W (exSs cal ib))) : PS X (.If c a b pos) (rS g W (exS cal (.ite ic ia ib))) := ps_imp (ps_if hc ha hb) fun D σ H h => by
  obtain ⟨α, S, h⟩ := h
  refine ⟨α, S, (sAt.bind (m := evE cal ic) (f := fun x ρ => M.bind (M.opt (asBool x)) fun k => if k = true then exSs cal ia ρ else exSs cal ib ρ) h).imp fun x S1 α1 H1 e1 a1 h1 => ?_⟩
  obtain ⟨ρ, a, r, h1⟩ := h1
  cases hk : asBool x with
  | none => simp only [M.bind, M.opt, hk] at h1; exact h1.elim
  | some k =>
    simp only [M.bind, M.opt, hk] at h1
    refine ⟨k, asBool_of hk, ?_⟩
    cases k with
    | true => exact ⟨α1, S1, ρ, a, r, h1⟩
    | false => exact ⟨α1, S1, ρ, a, r, h1⟩
theorem s_for {tg iter : Expr} {body : List Stmt} {it : Wi} {tgs : List Nat} {one : Bool} {ib : Ss} (hp : PassesOwn (model X.prog X.w) X.A X.env X.xe) (hc : X.calm = true) (hi : PI X tg iter (rI g W one (evI cal it))) (hg : PG X tg (rG g tgs one)) (hb : PSs X body (rS g W (exSs cal ib)))
    (hs : ∀ x, foldedSetIterable iter X.env x = pure x := by intro _; rfl) : PS X (.For tg iter body [] pos) (rS g W (exS cal (.for_ it tgs one ib))) := ps_imp (ps_for hp hc hi hg hb hs) fun D σ H h => by
  obtain ⟨α, S, h⟩ := h
  refine ⟨α, S, (sAt.bind (m := evI cal it) (f := fun src ρ => fun S => match src.size S with
    | some n => forGo src (fun d ρ' => match tgt tgs one d ρ' with
        | some ρ'' => exSs cal ib ρ''
        | none => M.bad) n 0 ρ S
    | none => .bad) h).imp fun src S1 α1 H1 e1 a1 h1 J wk => ?_⟩
  obtain ⟨ρ1, a, r, h1⟩ := h1
  cases hn : src.size S1 with
  | none => simp only [hn] at h1; exact h1.elim
  | some n =>
    simp only [hn] at h1
    let Wf : Nat → Nat → L2.St → Hp → Prop := fun i m σ2 H2 => ∃ α2 S2 ρ2, Ext α1 α2 H1 H2 ∧ g.At α2 H2 S2 ∧ g.Sr α2 H2 σ2 ρ2 ∧
      wp (forGo src (fun d ρ' => match tgt tgs one d ρ' with | some ρ'' => exSs cal ib ρ'' | none => M.bad) m i ρ2 S2)
        (fun c S' => ∀ α' H' σ', Ext α1 α' H1 H' → g.At α' H' S' → g.Sr α' H' σ' c.2 → ends g D σ' α' H' c.1) (exA g W α1 H1)
    refine ⟨Wf, ⟨n, α1, S1, ρ1, Ext.refl _ _, a, r, h1⟩, ?_⟩
    rintro i m σ2 H2 ⟨α2, S2, ρ2, e2, a2, r2, w2⟩
    have wki := wk i α2 H2 S2 e2 a2
    cases hat : src.at i S2 with
    | none => cases m <;> (simp only [forGo, hat] at w2; exact w2.elim)
    | some o =>
      cases o with
      | none =>
        refine .inl ⟨wki.2 hat, ?_⟩
        have w3 : ∀ α' H' σ', Ext α1 α' H1 H' → g.At α' H' S2 → g.Sr α' H' σ' ρ2 → ends g D σ' α' H' .next := by
          cases m <;> (simp only [forGo, hat] at w2; exact w2)
        exact w3 α2 H2 σ2 e2 a2 r2
      | some d =>
        cases m with
        | zero => simp only [forGo, hat] at w2; exact w2.elim
        | succ m =>
          simp only [forGo, hat] at w2
          obtain ⟨go, yl⟩ := wki.1 d hat
          refine .inr ⟨go, Wf (i + 1) m, fun σ' H' q => ⟨m, Nat.lt_succ_self _, q⟩, fun x H' hy => ?_⟩
          obtain ⟨ey, ay, ty⟩ := yl x H' hy
          have w3 := wp_bind w2
          cases ht : tgt tgs one d ρ2 with
          | none => rw [ht] at w3; exact w3.elim
          | some ρ' =>
            rw [ht] at w3
            refine ⟨α2, S2, ρ2, d, ρ', ay, r2.ext ey a2, ty, ht, fun σ' r' _ => ⟨α2, S2, ρ', ay, r', wp_mono w3 (fun c S3 w4 α3 H3 σ3 e3 a3 r3 => ?_) fun x S3 z cls dx α3 H3 σ3 e3 a3 t => z cls dx α3 H3 σ3 (e2.trans (ey.trans e3)) a3 t⟩⟩
            have ee := e2.trans (ey.trans e3)
            obtain ⟨c, ρ3⟩ := c
            cases c with
            | next => exact ⟨α3, S3, ρ3, ee, a3, r3, w4⟩
            | cont => exact ⟨α3, S3, ρ3, ee, a3, r3, w4⟩
            | brk => exact w4 α3 H3 σ3 ee a3 r3
            | ret d => exact w4 α3 H3 σ3 ee a3 r3
theorem s_setI {o i v : Expr} {io ii iv : E} {tpos : Pos} (hv : PE X v (rE g W (evE cal iv))) (ho : PE X o (rE g W (evE cal io))) (hi : PE X i (rE g W (evE cal ii)))
    (ha : ∀ v, assign (.Subscript o i tpos) X.env v = (do
      let ov ← holding [v] (eval o X.env)
      let iv ← holding [v, ov] (eval i X.env)
      standAt tpos
      holding [v, ov, iv] (setItem ov iv v)
      release [v, ov, iv] []) := by intro _; rfl)
    (hs : swapsWithSole [.Subscript o i tpos] v pos.line X.env = pure false := by rfl) (hw : swappedStores [.Subscript o i tpos] v X.env = pure none := by rfl)
    (h1 : (assignEach [.Subscript o i tpos] X.env).map (·.2) = [assign (.Subscript o i tpos) X.env] := by rfl) : PS X (.Assign [.Subscript o i tpos] v pos) (rS g W (exS cal (.setI io ii iv))) :=
  ps_imp (ps_asg hv (pg_sub ho hi set_list ha) hs hw h1) fun D σ H h => by
    obtain ⟨α, S, h⟩ := h
    refine ⟨α, S, (sAt.bind (m := evE cal iv) (f := fun d ρ => M.bind (evE cal io ρ) fun x => M.bind (evE cal ii ρ) fun y => M.bind (setD x y d) fun _ => M.pure (.next, ρ)) h).imp fun d S1 α1 H1 e1 a1 h1 v tv =>
      ⟨α1, S1, (sAt.bind (m := evE cal io) (f := fun x ρ => M.bind (evE cal ii ρ) fun y => M.bind (setD x y d) fun _ => M.pure (.next, ρ)) h1).imp fun x S2 α2 H2 e2 a2 h2 u tu =>
        ⟨α2, S2, (sAt.bind (m := evE cal ii) (f := fun y ρ => M.bind (setD x y d) fun _ => M.pure (.next, ρ)) h2).imp fun y S3 α3 H3 e3 a3 h3 z tz => ?_⟩⟩⟩
    obtain ⟨ρ, a, r, h3⟩ := h3
    have tu := tu.ext e3 a2
    have tv := (tv.ext e2 a1).ext e3 a2
    unfold setD at h3
    cases x with
    | p _ => exact h3.elim
    | fn _ => exact h3.elim
    | ref j =>
      cases y with
      | ref _ => exact h3.elim
      | fn _ => exact h3.elim
      | p y =>
        cases y with
        | int k =>
          cases tz
          cases ej : S3[j]? with
          | none => simp only [M.bind, ej] at h3; exact h3.elim
          | some ob =>
            cases ob with
            | dic _ => simp only [M.bind, ej] at h3; exact h3.elim
            | lst ds =>
              simp only [M.bind, ej] at h3
              cases ei : ixN ds.length k with
              | none => simp only [ei] at h3; exact h3.elim
              | some n =>
                simp only [ei] at h3
                by_cases hb : rb j d = true
                · simp only [hb, if_true] at h3
                  obtain ⟨b, xs, h4, h5, h6⟩ := At.lst a3 ej
                  obtain ⟨b', h4', rfl⟩ := tu
                  rw [h4] at h4'
                  cases h4'
                  refine ⟨b, xs, k, n, rfl, rfl, h5, by rw [← Paired.length h6]; exact ei, ?_⟩
                  have hw := a3.wf j _ ej
                  have hb2 : rbO j (.lst (ds.set n d)) = true := by
                    unfold rbO at hw ⊢
                    rw [List.all_eq_true] at hw ⊢
                    intro q hq
                    rcases List.mem_or_eq_of_mem_set hq with z | z
                    · exact hw q z
                    · rw [z]; exact hb
                  obtain ⟨e6, a6⟩ := At.upd a3 h4 hb2 (u := .lst (xs.set n v)) fun H' kt hu => ⟨_, hu, Paired.setAt (tv.keep kt) n (Paired.mapP h6 fun _ _ q => q.keep kt)⟩
                  exact h3 α3 _ σ e6 a6 (r.ext e6 a3)
                · simp only [hb] at h3
                  exact h3.elim
        | none => exact h3.elim
        | bool _ => exact h3.elim
        | str _ => exact h3.elim
        | list _ => exact h3.elim
        | tuple _ => exact h3.elim
        | dict _ => exact h3.elim
end
end Ir
set_option Elab.async false
set_option maxRecDepth 100000
set_option maxHeartbeats 4000001
/-! A def by its body; the table of all defs by levels. -/
namespace Ir
open PySem L2 PySem.Spec PyProof.Rows
section
variable {g : Gc} {α α' : List Addr} {H H' : Hp} {S' : Sto}
theorem ext_cut (e : Ext α α' H H') : Ext α (α'.take α.length) H H' := ⟨fun i a h => by
    rw [List.getElem?_take_of_lt (List.getElem?_eq_some_iff.mp h).1]
    exact e.pre i a h, e.keep, fun a h => e.new a (List.mem_of_mem_take h)⟩
theorem fix_ok {n : Nat} {d : D} {v : V} {Q : VK} {ex : Ex → Sto → Prop} (hn : α.length = n) (e : Ext α α' H H') (a : g.At α' H' S') (t : g.Tl α' H' d v)
    (w : wp (fix n d S') (fun d' S'' => ∀ α'' H'', Ext α α'' H H'' → g.At α'' H'' S'' → ∀ v, g.Tl α'' H'' d' v → Q v H'') ex) : Q v H' := by
  subst hn
  have ec := ext_cut e
  have ac := At.cut a α.length
  unfold fix at w
  cases d with
  | p d => exact w _ H' ec ac v t
  | fn i => exact w _ H' ec ac v t
  | ref j =>
    obtain ⟨b, hb, rfl⟩ := t
    by_cases hj : j < α.length
    · simp only [hj, if_true] at w
      exact w _ H' ec ac _ ⟨b, by rw [List.getElem?_take_of_lt hj]; exact hb, rfl⟩
    · simp only [hj, if_false] at w
      have hlt : j < S'.length := by rw [← a.len]; exact (List.getElem?_eq_some_iff.mp hb).1
      have ho : S'[j]? = some S'[j] := List.getElem?_eq_getElem hlt
      simp only [ho] at w
      by_cases hr : rbO α.length S'[j] = true
      · simp only [hr, if_true] at w
        have hl : (S'.take α.length).length = α.length := by rw [List.length_take]; omega
        have nin : b ∉ α'.take α.length := fun m => by
          obtain ⟨i, hi, e1⟩ := List.getElem_of_mem m
          have e2 : (α'.take α.length)[i]? = some b := by rw [List.getElem?_eq_getElem hi, e1]
          have hi2 : i < α.length := by rw [List.length_take] at hi; omega
          rw [List.getElem?_take_of_lt hi2] at e2
          have := nd_at a.nd e2 hb
          omega
        obtain ⟨a3, pre⟩ := At.take_in ac nin (o := S'[j]) ((a.obj j _ b ho hb).cut hr) (by rw [hl]; exact hr)
        refine w (α'.take α.length ++ [b]) H' ⟨fun i c h => pre i c (ec.pre i c h), ec.keep, fun c hc => ?_⟩ a3 _ ⟨b, ?_, rfl⟩
        · rcases List.mem_append.mp hc with z | z
          · exact ec.new c z
          · rw [List.mem_singleton] at z
            rw [z]
            exact e.new b (mem_at hb)
        · have hl2 : (α'.take α.length).length = α.length := by
            have := (List.getElem?_eq_some_iff.mp hb).1
            rw [List.length_take]
            omega
          rw [List.getElem?_append_right (by omega), hl2]
          simp
      · simp only [hr] at w
        exact w α' H' e a _ ⟨b, hb, rfl⟩
theorem sr_start : ∀ {ds : List D} {vs : List V} (n : Nat), g.TlA α H ds vs → g.Sr α H (vs.map some ++ List.replicate n none) (ds.map some ++ List.replicate n none) := fun {ds vs} n h => by
  refine ⟨by rw [List.length_append, List.length_append, List.length_map, List.length_map, Paired.length h]; simp, fun i d hi => ?_⟩
  by_cases hl : i < ds.length
  · rw [List.getElem?_append_left (by rw [List.length_map]; exact hl)] at hi
    rw [List.getElem?_append_left (by rw [List.length_map, ← Paired.length h]; exact hl)]
    obtain ⟨d', hd, e⟩ := map_at hi
    cases e
    obtain ⟨v, hv, t⟩ := Paired.get h hd
    exact ⟨v, by rw [List.getElem?_map, hv]; rfl, t⟩
  · rw [List.getElem?_append_right (by rw [List.length_map]; omega)] at hi
    have := List.getElem?_eq_some_iff.mp hi
    obtain ⟨hlt, e⟩ := this
    rw [List.getElem_replicate] at e
    cases e
end
section
variable {P : Program} {w : World} {g : Gc} {mg : Str → Option Value} {base : Heap} {cal : Nat → List D → M D}
/-- the defs, all at one level -/
def Tb (P : Program) (w : World) (g : Gc) (mg : Str → Option Value) (base : Heap) (cal : Nat → List D → M D) (k : Nat) : Prop :=
  ∀ i f, g.ph i = some f → ∃ fd ps, FnOk P w g.K mg base CX0 k f fd ps (spI g (cal i)) ∧ PySem.W.keepIn g.K (.ref f) = true ∧ Binds g.K fd ps []
theorem fn_ok {x qual : Str} {st : Stmt} {f : Addr} {fd : FuncData} {N ps : List Str} {k : Nat} {fn : Fn} (F : Fun g.K x qual st f fd) (S : FnScope N ps (defScope st)) (tb : Tb P w g mg base cal k) (har : fn.ar = ps.length) (hsz : fn.sz = N.length)
    (hb : ∀ (cdv : Value) (A : Around) (outer : List Env) (s : Shared) (H : Hp) (E : XK), Gd (cxOf CX0 P w g.K mg base N qual (defScope st) f cdv A outer s H E).nox g W0 CX0 cal k →
      PSs (cxOf CX0 P w g.K mg base N qual (defScope st) f cdv A outer s H E).nox (defBody st) (rS g W0 (exSs cal fn.body))) : FnOk P w g.K mg base CX0 (k + 1) f fd ps (spI g (callF cal fn)) := by
  have hl : ∀ {α : List Addr} {H : Hp} {ds : List D} {vs : List V} {S : Sto} {ok : D → Sto → Prop} {ex : Ex → Sto → Prop}, g.TlA α H ds vs → wp (callF cal fn ds S) ok ex → ds.length = fn.ar := fun {α H ds vs S ok ex} t q => by
    unfold callF at q
    by_cases h : ds.length = fn.ar
    · exact h
    · simp only [h, if_false] at q
      exact q.elim
  refine F.ok S (fun vs H Q E h => ?_) (fun cdv A outer s H vs Q E hr h => ?_)
  · obtain ⟨α, S, ds, a, t, q⟩ := h
    rw [← har, ← hl t q, Paired.length t]
  · obtain ⟨α, S0, ds, a, t, q⟩ := h
    have hlen := hl t q
    refine ⟨_, hb cdv A outer s H E ⟨rfl, rfl, S.nd, hr, fun _ _ _ _ _ _ _ z => z.elim, fun _ _ _ _ _ z => z, tb⟩, α, S0, ds.map some ++ List.replicate (fn.sz - fn.ar) none, a, ?_, ?_⟩
    · unfold L2.start
      have e : N.length - vs.length = fn.sz - fn.ar := by rw [hsz, ← hlen, Paired.length t]
      rw [e]
      exact sr_start _ t
    · unfold callF at q
      simp only [hlen, if_true] at q
      cases r : exSs cal fn.body (ds.map some ++ List.replicate (fn.sz - fn.ar) none) S0 with
      | bad => rw [r] at q; exact q.elim
      | exc e S' => rw [r] at q; exact q.elim
      | val c S' =>
        rw [r] at q
        obtain ⟨c, ρ'⟩ := c
        cases c with
        | brk => exact q.elim
        | cont => exact q.elim
        | next => exact fun α' H' σ' e a' _ => fix_ok a.len e a' (d := .p .none) (v := .non) .non q
        | ret d => exact fun α' H' σ' e a' _ v tv => fix_ok a.len e a' tv q
theorem tb_zero (h : ∀ i f, g.ph i = some f → ∃ fd ps, (∀ vs H Q E, spI g (fun _ _ => .bad) vs H Q E → vs.length = ps.length) ∧ PySem.W.keepIn g.K (.ref f) = true ∧ Binds g.K fd ps []) : Tb P w g mg base (fun _ _ _ => .bad) 0 := fun i f hf => by
  obtain ⟨fd, ps, hl, hk, hb⟩ := h i f hf
  refine ⟨fd, ps, ⟨hl, fun A outer s H args us vs Q E _ _ _ _ hs => ?_⟩, hk, hb⟩
  obtain ⟨α, S, ds, a, t, q⟩ := hs
  exact q.elim
end
end Ir
set_option Elab.async false
set_option maxRecDepth 100000
set_option maxHeartbeats 4000001
/-! Lists compared, cut, joined; methods of lists and dicts. -/
namespace Ir
open PySem L2 PySem.Spec PyProof.Rows
section
variable {X : Cx} {g : Gc} {W : WX} {cal : Nat → List D → M D} {pos : Pos}
theorem eqL_of {neg : Bool} {ds es : List D} {z : D} {α : List Addr} {H : Hp} {p q : Addr} {xs ys : List V} {Q : VK} (h : eqLD neg ds es = some z) (hx : H p = some (.lst xs)) (hy : H q = some (.lst ys)) (tx : g.TlA α H ds xs) (ty : g.TlA α H es ys) (k : ∀ v, g.Tl α H z v → Q v H) :
    if neg = true then rNeD g.K (.ref p) (.ref q) H Q else rEqD g.K (.ref p) (.ref q) H Q := by
  obtain ⟨ps, e1, h⟩ := Option.bind_eq_some_iff.mp h
  obtain ⟨qs, e2, h⟩ := Option.bind_eq_some_iff.mp h
  by_cases hs : SeqAt.shaped (.list ps) = true ∧ SeqAt.shaped (.list qs) = true
  · simp only [hs, and_self, if_true] at h
    cases h
    have d1 : Dp g.K H (.ref p) (.list ps) := .lst (SqL.of hx) (dpAll_of tx e1)
    have d2 : Dp g.K H (.ref q) (.list qs) := .lst (SqL.of hy) (dpAll_of ty e2)
    have ev : PyData.eqv (.list ps) (.list qs) = PyData.eqvAll ps qs := by rw [PyData.eqv]
    cases neg with
    | true =>
      rw [if_pos rfl]
      exact ⟨_, _, d1, d2, hs.1, hs.2, by rw [ev]; exact k _ (.bl _)⟩
    | false =>
      rw [if_neg (by decide)]
      exact ⟨_, _, d1, d2, hs.1, hs.2, by rw [ev]; exact k _ (.bl _)⟩
  · rw [if_neg hs] at h
    cases h
theorem tL_of {neg : Bool} {ma : Sl → M D} {mb : Sl → M (List D)} {σ : L2.St} {H : Hp} {Q : VK} (h : rE g W (fun ρ => M.bind (ma ρ) fun x => M.bind (mb ρ) fun es => fun S => M.opt ((lstAt S x).bind fun ds => eqLD neg ds es) S) σ H Q) :
    tOp (fun x y H Q => if neg = true then rNeD g.K x y H Q else rEqD g.K x y H Q) (rE g W ma) (rLn g W mb) σ H Q := by
  obtain ⟨α, S, h⟩ := h
  refine ⟨α, S, h.bind.imp fun x S1 α1 H1 e1 a1 h1 v tv => ⟨α1, S1, (rAt.bind (m := mb) (f := fun es _ => fun S => M.opt ((lstAt S x).bind fun ds => eqLD neg ds es) S) h1).imp fun es S2 α2 H2 e2 a2 h2 p ys hp hn hy ty => ?_⟩⟩
  obtain ⟨z, hz, k⟩ := h2.opt
  obtain ⟨ds, e0, hz⟩ := Option.bind_eq_some_iff.mp hz
  obtain ⟨b, xs, rfl, h5, h6⟩ := lst_at a2 (tv.ext e2 a1) e0
  exact eqL_of hz h5 hy h6 ty fun v t => k α2 H2 (Ext.refl _ _) a2 v t
theorem op_eqN (hu : X.A.units + 64 < cLine) : OpR X (compareOp .NotEq) (fun x y H Q => if true = true then rNeD X.K x y H Q else rEqD X.K x y H Q) := by
  have h := op_neD (X := X) hu
  intro pins s σ H x y v u Q I rx ry q
  rw [if_pos rfl] at q
  exact h pins s σ H x y v u Q I rx ry q
theorem op_eqE (hu : X.A.units + 64 < cLine) : OpR X (compareOp .Eq) (fun x y H Q => if false = true then rNeD X.K x y H Q else rEqD X.K x y H Q) := by
  have h := op_eqD (X := X) hu
  intro pins s σ H x y v u Q I rx ry q
  rw [if_neg (by decide)] at q
  exact h pins s σ H x y v u Q I rx ry q
theorem e_neL {a b : Expr} {ia : E} {l : L} {CX : CXT} {k : Nat} (G : Gd X g W CX cal k) (ha : PE X a (rE g W (evE cal ia))) (hb : PE X b (rLn g W (evL cal l))) (hm : behindInMarks .NotEq b = false := by first | exact nomark _ (by decide) (by decide) | rfl) :
    PE X (.Compare a [.NotEq] [b] pos) (rE g W (evE cal (.eqL true ia l))) := by
  have h := op_eqN (X := X) G.hu
  rw [G.K] at h
  exact pe_imp (pe_cmpR h ha hb hm) fun _ _ _ q => tL_of q
theorem t_neL {a b : Expr} {ia : E} {l : L} {CX : CXT} {k : Nat} (G : Gd X g W CX cal k) (ha : PE X a (rE g W (evE cal ia))) (hb : PE X b (rLn g W (evL cal l))) (hm : behindInMarks .NotEq b = false := by first | exact nomark _ (by decide) (by decide) | rfl) :
    PT X (.Compare a [.NotEq] [b] pos) (rT g W (evE cal (.eqL true ia l))) := by
  have h := op_eqN (X := X) G.hu
  rw [G.K] at h
  exact pt_imp (pt_cmpR h ha hb hm) fun _ _ _ q => t_of (fun _ z => tL_of z) q
theorem t_eqL {a b : Expr} {ia : E} {l : L} {CX : CXT} {k : Nat} (G : Gd X g W CX cal k) (ha : PE X a (rE g W (evE cal ia))) (hb : PE X b (rLn g W (evL cal l))) (hm : behindInMarks .Eq b = false := by first | exact nomark _ (by decide) (by decide) | rfl) :
    PT X (.Compare a [.Eq] [b] pos) (rT g W (evE cal (.eqL false ia l))) := by
  have h := op_eqE (X := X) G.hu
  rw [G.K] at h
  exact pt_imp (pt_cmpR h ha hb hm) fun _ _ _ q => t_of (fun _ z => tL_of z) q
theorem tLL_of {neg : Bool} {ma mb : Sl → M (List D)} {σ : L2.St} {H : Hp} {Q : VK} (h : rE g W (fun ρ => M.bind (ma ρ) fun ds => M.bind (mb ρ) fun es => M.opt (eqLD neg ds es)) σ H Q) :
    tOp (fun x y H Q => if neg = true then rNeD g.K x y H Q else rEqD g.K x y H Q) (rLn g W ma) (rLn g W mb) σ H Q := by
  obtain ⟨α, S, h⟩ := h
  refine ⟨α, S, h.bind.imp fun ds S1 α1 H1 e1 a1 h1 q xs hq hnq hx tx => ⟨α1, S1, (rAt.bind (m := mb) (f := fun es _ => M.opt (eqLD neg ds es)) h1).imp fun es S2 α2 H2 e2 a2 h2 p ys hp hn hy ty => ?_⟩⟩
  obtain ⟨z, hz, k⟩ := rAt.opt (o := fun _ => eqLD neg ds es) h2
  exact eqL_of hz (e2.keep q _ hx hnq) hy (TlA.ext e2 a1 tx) ty fun v t => k α2 H2 (Ext.refl _ _) a2 v t
theorem t_neLL {a b : Expr} {l l2 : L} {CX : CXT} {k : Nat} (G : Gd X g W CX cal k) (ha : PE X a (rLn g W (evL cal l))) (hb : PE X b (rLn g W (evL cal l2))) (hm : behindInMarks .NotEq b = false := by first | exact nomark _ (by decide) (by decide) | rfl) :
    PT X (.Compare a [.NotEq] [b] pos) (rT g W (evE cal (.eqLL true l l2))) := by
  have h := op_eqN (X := X) G.hu
  rw [G.K] at h
  exact pt_imp (pt_cmpR h ha hb hm) fun _ _ _ q => t_of (fun _ z => tLL_of z) q
theorem strs_tl {α : List Addr} {H : Hp} : ∀ ts : List Str, g.TlA α H (ts.map fun t => D.p (.str t)) (ts.map V.str)
  | [] => .nil
  | _ :: ts => .cons (.str _) (strs_tl ts)
theorem l_split {o : Expr} {io : E} {sep : Str} {j : Nat} {p2 apos : Pos} (ho : PE X o (rE g W (evE cal io))) (hbase : attributeBase o "split" X.env (eval o X.env) = eval o X.env := by rfl) (hline : (apos.endLine == pos.line) = true := by rfl) :
    PE X (.Call (.Attribute o "split" apos) [.Constant (.str sep) j p2] [] pos) (rLn g W (evL cal (.split io sep))) := pe_imp (pe_split ho pe_str rfl hbase hline) fun σ H Q h => by
  obtain ⟨α, S, ρ, a0, r, w⟩ := h
  have w : wp (M.bind (evE cal io ρ) (fun x => M.opt (splitD sep x)) S) _ _ := w
  refine ⟨α, S, ρ, a0, r, wp_mono (wp_bind w) (fun x S1 h1 α1 H1 e1 a1 v tv => ?_) fun _ _ z => z⟩
  cases e : splitD sep x with
  | none => simp only [M.opt, e] at h1; exact h1.elim
  | some ds =>
    simp only [M.opt, e] at h1
    unfold splitD at e
    split at e
    · split at e
      · rename_i hs
        cases e
        cases tv
        refine ⟨⟨_, rfl⟩, _, _, rfl, rfl, ?_, ?_, fun p hp => ?_⟩
        · simpa using hs.1
        · have := hs.2
          rw [sizeLine_eq]
          omega
        · obtain ⟨e2, a2⟩ := At.fresh a1 hp (u := .lst ((Txt.split _ sep).map V.str))
          refine h1 α1 _ (e1.trans e2) a2 p _ (e1.none a1 hp) (a1.notin hp) upd_same ?_
          exact strs_tl _
      · cases e
    · cases e
theorem l_cat {a b : Expr} {ia ib : E} (ha : PE X a (rE g W (evE cal ia))) (hb : PE X b (rE g W (evE cal ib))) : PE X (.BinOp a .Add b pos) (rLn g W (evL cal (.cat ia ib))) := pe_imp (pe_op op_cat ha hb) fun σ H Q h => by
  obtain ⟨α, S, ρ, a0, r, w⟩ := h
  have w : wp (M.bind (evE cal ia ρ) (fun x => M.bind (evE cal ib ρ) fun y => fun S => M.opt (catD S x y) S) S) _ _ := w
  refine ⟨α, S, ρ, a0, r, wp_mono (wp_bind w) (fun x S1 h1 α1 H1 e1 a1 v tv => ⟨α1, S1, ρ, a1, r.ext e1 a0, wp_mono (wp_bind h1) (fun y S2 h2 α2 H2 e2 a2 u tu => ?_) fun x S3 z cls dx α3 H3 e3 a3 t => z cls dx α3 H3 (e1.trans e3) a3 t⟩) fun _ _ z => z⟩
  cases e : catD S2 x y with
  | none => simp only [M.opt, e] at h2; exact h2.elim
  | some ds =>
    simp only [M.opt, e] at h2
    obtain ⟨d1, q1, e⟩ := Option.bind_eq_some_iff.mp e
    obtain ⟨d2, q2, e⟩ := Option.bind_eq_some_iff.mp e
    by_cases hl : d1.length + d2.length ≤ 100000
    · rw [if_pos hl] at e
      cases e
      obtain ⟨b1, xs, rfl, h5, h6⟩ := lst_at a2 (tv.ext e2 a1) q1
      obtain ⟨b2, ys, rfl, h7, h8⟩ := lst_at a2 tu q2
      refine ⟨b1, b2, xs, ys, rfl, rfl, h5, h7, by rw [← Paired.length h6, ← Paired.length h8, sizeLine_eq]; omega, fun p hp => ?_⟩
      have e12 := e1.trans e2
      obtain ⟨e3, a3⟩ := At.fresh a2 hp (u := .lst (xs ++ ys))
      exact h2 α2 _ (e12.trans e3) a3 p _ (e12.none a2 hp) (a2.notin hp) upd_same (Paired.app (TlA.ext e3 a2 h6) (TlA.ext e3 a2 h8))
    · rw [if_neg hl] at e
      cases e
theorem e_popAt {a b : Expr} {ia ib : E} {apos : Pos} (hK : X.K = g.K) (ha : PE X a (rE g W (evE cal ia))) (hb : PE X b (rE g W (evE cal ib))) (hbase : attributeBase a "pop" X.env (eval a X.env) = eval a X.env := by rfl)
    (hfew : ((backTo pos (starEach [b] X.env)).all (fun x => !x.1) && (backToKw pos (keywordEach [] X.env)).all (fun x => x.1.isSome)
      && decide (([b] : List Expr).length + ([] : List Keyword).length + (if ([] : List Keyword).isEmpty then 0 else 1) < 30)) = true := by rfl)
    (hline : (apos.endLine == pos.line) = true := by rfl) (hs : starEach [b] X.env = (false, eval b X.env) :: starEach [] X.env := by rfl) :
    PE X (.Call (.Attribute a "pop" apos) [b] [] pos) (rE g W (evE cal (.popAt ia ib))) := by
  have h := pe_bm PySem.F.plainAttrs_list PySem.F.slot_list_pop PySem.F.type_list_pop mt_popAt ha (pa_cons hb pa_nil hs) hbase hfew hline hs
  rw [hK] at h
  refine pe_imp h fun σ H Q h => ?_
  obtain ⟨α, S, h⟩ := h
  refine ⟨α, S, (rAt.bind (m := evE cal ia) (f := fun x ρ => M.bind (fun S => M.opt (lstAt S x) S) fun _ => M.bind (evE cal ib ρ) fun y => popD x y) h).imp fun x S1 α1 H1 e1 a1 h1 v tv => ?_⟩
  obtain ⟨ds, hds, k⟩ := (rAt.bind (m := fun _ => fun S => M.opt (lstAt S x) S) (f := fun _ ρ => M.bind (evE cal ib ρ) fun y => popD x y) h1).opt
  obtain ⟨b0, xs0, rfl, h5, h6⟩ := lst_at a1 tv hds
  refine ⟨.inl ⟨rfl, _, SqL.of h5⟩, α1, S1, (rAt.bind (m := evE cal ib) (f := fun y _ => popD x y) (k α1 H1 (Ext.refl _ _) a1)).imp fun y S2 α2 H2 e2 a2 h2 u tu => ?_⟩
  obtain ⟨ρ, a, r, w⟩ := h2
  have tv := tv.ext e2 a1
  have bad : ∀ {ok : D → Sto → Prop} {ex : Ex → Sto → Prop}, wp ((M.bad : M D) S2) ok ex → False := fun q => q
  cases x with
  | p _ => exact (bad w).elim
  | fn _ => exact (bad w).elim
  | ref j =>
    cases y with
    | ref _ => exact (bad w).elim
    | fn _ => exact (bad w).elim
    | p y =>
      cases y with
      | none => exact (bad w).elim
      | bool _ => exact (bad w).elim
      | str _ => exact (bad w).elim
      | list _ => exact (bad w).elim
      | tuple _ => exact (bad w).elim
      | dict _ => exact (bad w).elim
      | int i =>
        cases tu
        unfold popD at w
        by_cases hi : i = 0
        · subst hi
          simp only [if_true] at w
          cases ej : S2[j]? with
          | none => simp only [ej] at w; exact w.elim
          | some o =>
            cases o with
            | dic _ => simp only [ej] at w; exact w.elim
            | lst ds =>
              cases ds with
              | nil => simp only [ej] at w; exact w.elim
              | cons d ds =>
                simp only [ej] at w
                obtain ⟨b1, xs, h7, h8, h9⟩ := At.lst a2 ej
                obtain ⟨b2, h7', e⟩ := tv
                cases e
                rw [h7] at h7'
                cases h7'
                cases h9 with
                | @cons _ z _ zs t1 t2 =>
                  refine ⟨b0, z :: zs, 0, 0, z, rfl, rfl, h8, by decide, by decide, ?_, rfl, ?_⟩
                  · rw [List.length_cons]
                    exact seqIndex_of (by decide) (by omega)
                  · have hw := a2.wf j _ ej
                    have hb2 : rbO j (.lst ds) = true := by
                      have hw : (d :: ds).all (rb j) = true := hw
                      show ds.all (rb j) = true
                      rw [List.all_cons, Bool.and_eq_true] at hw
                      exact hw.2
                    obtain ⟨e6, a6⟩ := At.upd a2 h7 hb2 (u := .lst zs) fun H' kt hu => ⟨_, hu, Paired.mapP t2 fun _ _ q => q.keep kt⟩
                    exact w α2 _ e6 a6 z (t1.ext e6 a2)
        · simp only [hi, if_false] at w
          exact w.elim
theorem e_append {a b : Expr} {ia ib : E} {apos : Pos} (hK : X.K = g.K) (ha : PE X a (rE g W (evE cal ia))) (hb : PE X b (rE g W (evE cal ib))) (hbase : attributeBase a "append" X.env (eval a X.env) = eval a X.env := by rfl)
    (hfew : ((backTo pos (starEach [b] X.env)).all (fun x => !x.1) && (backToKw pos (keywordEach [] X.env)).all (fun x => x.1.isSome)
      && decide (([b] : List Expr).length + ([] : List Keyword).length + (if ([] : List Keyword).isEmpty then 0 else 1) < 30)) = true := by rfl)
    (hline : (apos.endLine == pos.line) = true := by rfl) (hs : starEach [b] X.env = (false, eval b X.env) :: starEach [] X.env := by rfl) :
    PE X (.Call (.Attribute a "append" apos) [b] [] pos) (rE g W (evE cal (.append ia ib))) := by
  have h := pe_bm PySem.F.plainAttrs_list PySem.F.slot_list_append PySem.F.type_list_append mt_append ha (pa_cons hb pa_nil hs) hbase hfew hline hs
  rw [hK] at h
  refine pe_imp h fun σ H Q h => ?_
  obtain ⟨α, S, h⟩ := h
  refine ⟨α, S, (rAt.bind (m := evE cal ia) (f := fun x ρ => M.bind (fun S => M.opt (lstAt S x) S) fun _ => M.bind (evE cal ib ρ) fun y => appD x y) h).imp fun x S1 α1 H1 e1 a1 h1 v tv => ?_⟩
  obtain ⟨ds, hds, k⟩ := (rAt.bind (m := fun _ => fun S => M.opt (lstAt S x) S) (f := fun _ ρ => M.bind (evE cal ib ρ) fun y => appD x y) h1).opt
  obtain ⟨b0, xs0, rfl, h5, h6⟩ := lst_at a1 tv hds
  refine ⟨.inl ⟨rfl, _, SqL.of h5⟩, α1, S1, (rAt.bind (m := evE cal ib) (f := fun y _ => appD x y) (k α1 H1 (Ext.refl _ _) a1)).imp fun y S2 α2 H2 e2 a2 h2 u tu => ?_⟩
  obtain ⟨ρ, a, r, w⟩ := h2
  have tv := tv.ext e2 a1
  have bad : ∀ {ok : D → Sto → Prop} {ex : Ex → Sto → Prop}, wp ((M.bad : M D) S2) ok ex → False := fun q => q
  cases x with
  | p _ => exact (bad w).elim
  | fn _ => exact (bad w).elim
  | ref j =>
    unfold appD at w
    cases ej : S2[j]? with
    | none => simp only [ej] at w; exact w.elim
    | some o =>
      cases o with
      | dic _ => simp only [ej] at w; exact w.elim
      | lst ds =>
        simp only [ej] at w
        by_cases hb : rb j y = true ∧ ds.length < 100000
        · simp only [hb, and_self, if_true] at w
          obtain ⟨b1, xs, h7, h8, h9⟩ := At.lst a2 ej
          obtain ⟨b2, h7', e⟩ := tv
          cases e
          rw [h7] at h7'
          cases h7'
          refine ⟨b0, xs, u, rfl, rfl, h8, by rw [← Paired.length h9, sizeLine_eq]; omega, ?_⟩
          have hw := a2.wf j _ ej
          have hb2 : rbO j (.lst (ds ++ [y])) = true := by
            have hw : ds.all (rb j) = true := hw
            show (ds ++ [y]).all (rb j) = true
            rw [List.all_append, Bool.and_eq_true]
            exact ⟨hw, by simp [hb.1]⟩
          obtain ⟨e6, a6⟩ := At.upd a2 h7 hb2 (u := .lst (xs ++ [u])) fun H' kt hu => ⟨_, hu, Paired.app (Paired.mapP h9 fun _ _ q => q.keep kt) (.cons (tu.keep kt) .nil)⟩
          exact w α2 _ e6 a6 .non .non
        · simp only [hb, if_false] at w
          exact w.elim
theorem e_dget {a b : Expr} {ia ib : E} {apos : Pos} {CX : CXT} {k : Nat} (G : Gd X g W CX cal k) (ha : PE X a (rE g W (evE cal ia))) (hb : PE X b (rE g W (evE cal ib))) (m : M1 X a "get" apos b pos := by exact ⟨rfl, rfl, rfl, rfl⟩) :
    PE X (.Call (.Attribute a "get" apos) [b] [] pos) (rE g W (evE cal (.dget ia ib))) := pe_imp (pe_dget1 (by have := G.hu; omega) ha hb m) fun σ H Q h => by
  obtain ⟨α, S, h⟩ := h
  refine ⟨α, S, (rAt.bind (m := evE cal ia) (f := fun x ρ => M.bind (fun S => M.opt (dicAt S x) S) fun _ => M.bind (evE cal ib ρ) fun y => fun S => M.opt (dgetD S x y) S) h).imp fun x S1 α1 H1 e1 a1 h1 v tv => ?_⟩
  obtain ⟨kvs, hds, k⟩ := (rAt.bind (m := fun _ => fun S => M.opt (dicAt S x) S) (f := fun _ ρ => M.bind (evE cal ib ρ) fun y => fun S => M.opt (dgetD S x y) S) h1).opt
  obtain ⟨b0, ws0, rfl, h5, h6⟩ := dic_at a1 tv hds
  refine ⟨b0, rfl, .inl ⟨ws0, .inl h5⟩, α1, S1, (rAt.bind (m := evE cal ib) (f := fun y _ => fun S => M.opt (dgetD S x y) S) (k α1 H1 (Ext.refl _ _) a1)).imp fun y S2 α2 H2 e2 a2 h2 u tu => ?_⟩
  obtain ⟨z, hz, k2⟩ := h2.opt
  obtain ⟨kv2, q1, hz⟩ := Option.bind_eq_some_iff.mp hz
  obtain ⟨key, q2, hz⟩ := Option.map_eq_some_iff.mp hz
  subst hz
  obtain ⟨b1, ws, e, h7, h8⟩ := dic_at a2 (tv.ext e2 a1) q1
  cases e
  rw [key_V tu q2]
  refine ⟨valV ws key, .k h7, k2 α2 H2 (Ext.refl _ _) a2 _ ?_⟩
  have vo := val_of (k := key) h8
  revert vo
  cases valD kv2 key <;> cases valV ws key <;> intro vo
  · exact .non
  · exact vo.elim
  · exact vo.elim
  · exact vo
end
end Ir
set_option Elab.async false
set_option maxRecDepth 100000
set_option maxHeartbeats 4000001
/-! How many unlike keys a comprehension in braces finds. -/
namespace Ir
open PySem L2 PySem.Spec PyProof.Rows
section
variable {K : PySem.W.Frag} {ph : Nat → Option Addr} {α α' : List Addr} {H H' : Hp} {S : Sto}
/-- neither a tuple nor locked -/
def Soft : HO → Prop
  | .tup _ => False
  | .frz _ _ => False
  | _ => True
theorem KT.soft {p : Addr} {o u : HO} (h : H p = some o) (n : Soft o) : KT H (L2.upd H p u) :=
  ⟨fun a _ q => by rw [upd_ne (fun z => by rw [z, h] at q; cases q; exact n)]; exact q, fun a _ _ q => by rw [upd_ne (fun z => by rw [z, h] at q; cases q; exact n)]; exact q⟩
theorem At.apartS (x : At K ph α H S) {p : Addr} {o u : HO} (hp : H p = some o) (n : Soft o) (hn : p ∉ α) : At K ph α (L2.upd H p u) S :=
  ⟨x.len, x.nd, fun i w b hi hb => (x.obj i w b hi hb).keep (KT.soft hp n) (upd_ne fun z => hn (by rw [← z]; exact mem_at hb)), x.wf⟩
theorem unlike_le : ∀ l : List Str, (unlike l).length ≤ l.length
  | [] => Nat.le_refl _
  | x :: l => by
    have ih := unlike_le l
    unfold unlike
    split
    · rw [List.length_cons]
      omega
    · rw [List.length_cons, List.length_cons]
      omega
theorem unlike_snoc (z : Str) : ∀ l : List Str, (unlike (l ++ [z])).length = (unlike l).length + (if z ∈ l then 0 else 1)
  | [] => by simp [unlike]
  | x :: l => by
    have ih := unlike_snoc z l
    rw [List.cons_append]
    unfold unlike
    by_cases h1 : x ∈ l
    · rw [if_pos (List.mem_append_left _ h1), if_pos h1, ih]
      by_cases h2 : z ∈ l
      · rw [if_pos h2, if_pos (List.mem_cons_of_mem _ h2)]
      · by_cases e : z = x
        · subst e; exact absurd h1 h2
        · rw [if_neg h2, if_neg (by rw [List.mem_cons]; rintro (q | q); exact e q; exact h2 q)]
    · by_cases e : x = z
      · subst e
        rw [if_pos (List.mem_append_right _ (List.mem_singleton.mpr rfl)), if_neg h1, ih, if_neg h1, if_pos (List.mem_cons_self ..), List.length_cons]
      · have h3 : x ∉ l ++ [z] := by
          rw [List.mem_append, List.mem_singleton]
          rintro (q | q)
          · exact h1 q
          · exact e q
        rw [if_neg h3, if_neg h1, List.length_cons, List.length_cons, ih]
        by_cases h2 : z ∈ l
        · rw [if_pos h2, if_pos (List.mem_cons_of_mem _ h2)]
        · rw [if_neg h2, if_neg (by rw [List.mem_cons]; rintro (q | q); exact e q.symm; exact h2 q)]
end
/-- {elt for target in iter}: D the new set -/
def tSk (P : Program) (w : World) (wi : TI) (gg : TG) (te : TE) (vs : List Nat) : TE := fun σ H Q => wi σ H fun J H1 => ∀ D, H1 D = none →
  ∃ W : Nat → Nat → Hp → Prop, (∃ m, W 0 m (upd H1 D (SetK P w D (fun _ => false) 0))) ∧
    ∀ i m H, W i m H → (J.stop i H ∧ Q (.ref D) H) ∨
      (J.go i H ∧ ∃ Nx : Hp → Prop, (∀ H', Nx H' → ∃ m', m' < m ∧ W (i + 1) m' H') ∧ ∀ x H', J.yld i H x H' → gg x (wipe σ vs) H' fun σ2 H2 => wipe σ2 vs = wipe σ vs ∧
        te σ2 H2 fun y H4 => ∃ (k : Key) (T : Key → Bool) (n : Nat), y = kV k ∧ H4 D = some (SetK P w D T n) ∧ n + 1 < scanBound ∧ Nx (upd H4 D (SetK P w D (fun j => T j || decide (j = k)) (if T k = true then n else n + 1))))
theorem fresh_set (P : Program) (w : World) (h : Heap) : (h.push { cls := .type "set", dict := none, data := .set #[] 0 (.fresh 0 0 (!w.params.followText "set-order")) }).SetOf (mixKind P w) h.objs.size (fun _ => false) 0 := by
  refine ⟨_, #[], 0, _, Heap.get?_push_size _ rfl, ⟨rfl, rfl, rfl⟩, rfl, ?_, fun k => ?_, ?_, rfl, rfl⟩
  · intro e he
    simp at he
  · simp
  · decide
section
variable {X : Cx}
theorem pe_sk {elt tg iter : Expr} {scope : Scope} {own : List (Str × Nat)} {pos : Pos} {wi : TI} {gg : TG} {te : TE} (hc : X.calm = true) (hN : X.N.Nodup) (hi : PI X tg iter wi) (ok : BlkOk X.N X.env.scope scope own)
    (hg : ∀ (s : Shared) (H : Hp) (C : Addr) (cl : List (Str × Addr)) (fp : List Addr), PG (X.blk s H scope (compEnvC scope cl C X.env) fp) tg gg)
    (he : ∀ (s : Shared) (H : Hp) (C : Addr) (cl : List (Str × Addr)) (fp : List Addr), PE (X.blk s H scope (compEnvC scope cl C X.env) fp) elt te)
    (hs : ∀ x, foldedSetIterable iter X.env x = pure x := by intro _; rfl) : PE X (.SetComp elt [⟨tg, iter, [], 0⟩] scope pos) (tSk X.prog X.w wi gg te (own.map (·.2))) := by
  refine ⟨fun pins s σ H Q I h => ?_⟩
  rw [PpSet.eval_SetComp]
  have fr : ∀ y ∈ scope.names, y.2 = .free → ∃ c, X.env.cells.lookup y.1 = some c := fun y hy e => (ok.free y hy e).elim (fun k => I.ok.has _ (.inl k)) fun k => I.ok.has _ (.inr k)
  refine wpAny_comprehension_free (use := none) rfl hs (closure_ok fr) ok.kind (fun y hy e => by rw [ok.uniq y hy, e]) (thn (hi.run pins s σ H _ I h) fun xv sa hx => thn hx fun itv sb hb => ?_)
  obtain ⟨it, fp, tn, J, Hb, rfl, Ib, T, stb, fb, q⟩ := hb
  refine PpSet.newSet_ok (newEnv_comp ?_)
  -- the set
  obtain ⟨W, ⟨m0, w0⟩, turn⟩ := q sb.heap.objs.size (Ib.hok.fresh (Nat.le_refl _))
  generalize eS : SetK X.prog X.w sb.heap.objs.size (fun _ => false) 0 = o0 at w0
  have new : ObjOk X.prog X.w (upd Hb sb.heap.objs.size o0) (sb.heap.push { cls := .type "set", dict := none, data := .set #[] 0 (.fresh 0 0 (!X.w.params.followText "set-order")) }) sb.heap.objs.size o0 := by
    rw [← eS]
    exact setK_new (fresh_set _ _ _)
  have Ic : Inv X pins σ (upd Hb sb.heap.objs.size o0) { sb with heap := sb.heap.push { cls := .type "set", dict := none, data := .set #[] 0 (.fresh 0 0 (!X.w.params.followText "set-order")) } } := Ib.laid (t' := sb.toks) (fun b o e => Heap.get?_push_of_some _ e) (Nat.le_refl _) new
  have below : ∀ b ∈ fp, b < sb.heap.objs.size := fun b hb => let ⟨_, e, _⟩ := T.obj _ _ stb b hb; Heap.lt_size e
  have hsz : (sb.heap.push { cls := .type "set", dict := none, data := .set #[] 0 (.fresh 0 0 (!X.w.params.followText "set-order")) }).objs.size = sb.heap.objs.size + 1 := Heap.size_push _ _
  generalize eD : sb.heap.objs.size = D at *
  generalize eC : ({ sb with heap := sb.heap.push { cls := .type "set", dict := none, data := .set #[] 0 (.fresh 0 0 (!X.w.params.followText "set-order")) } } : Shared) = sc at *
  have eHeap : sc.heap = sb.heap.push { cls := .type "set", dict := none, data := .set #[] 0 (.fresh 0 0 (!X.w.params.followText "set-order")) } := by rw [← eC]
  have fc : ∀ b ∈ fp, FpOk X pins (upd Hb D o0) b ∧ b < sc.heap.objs.size := fun b hb => by
    have lt := below b hb
    refine ⟨⟨?_, (fb b hb).2⟩, by rw [eHeap, hsz]; exact Nat.lt_succ_of_lt lt⟩
    rw [upd_ne (Nat.ne_of_lt lt)]
    exact (fb b hb).1
  have stc : tn 0 sc.heap := T.keep _ _ _ stb fun b _ o e => by rw [eHeap]; exact Heap.get?_push_of_some _ e
  generalize eH : upd Hb D o0 = Hc at *
  have Id := block_start Ic ok hN fc
  have pg := hg sc Hc sc.heap.objs.size (cellsFrom (sc.heap.objs.size + 1) scope.names (cloFrom X.env.cells scope.names [])) fp
  have pe := he sc Hc sc.heap.objs.size (cellsFrom (sc.heap.objs.size + 1) scope.names (cloFrom X.env.cells scope.names [])) fp
  show codeAny _ _ (.compStart (.SetComp elt [⟨tg, iter, [], 0⟩] scope pos) 0 (.ref it) (.ref D) (compEnvC scope (cellsFrom (sc.heap.objs.size + 1) scope.names (cloFrom X.env.cells scope.names [])) sc.heap.objs.size X.env)) (compPost (model X.prog X.w) X.A X.xe none (EP X pins σ Q) (.ref D) sc.heap.objs.size) { sc with heap := pushCells (sc.heap.push { cls := .type "dict", data := .dict #[] }) scope.names }
  generalize eE : compEnvC scope (cellsFrom (sc.heap.objs.size + 1) scope.names (cloFrom X.env.cells scope.names [])) sc.heap.objs.size X.env = ce at Id pg pe ⊢
  have eL : ce.locals = sc.heap.objs.size := by rw [← eE]; rfl
  have std : tn 0 (pushCells (sc.heap.push { cls := .type "dict", data := .dict #[] }) scope.names) := T.keep _ _ _ stc fun b _ o e => pushCells_keeps _ _ _ _ (Heap.get?_push_of_some _ e)
  have fps : ∀ {σ' : L2.St} {H' : Hp} {s' : Shared}, Inv (X.blk sc Hc scope ce fp) [] σ' H' s' → (∀ b ∈ fp, H' b = none) → ∀ b ∈ fp, FpOk (X.blk sc Hc scope ce fp) [] H' b := fun {σ' H' s'} I' n b hb =>
    ⟨n b hb, (I'.ok.exf b hb).1, I'.ok.exfs b hb, .inl hb, fun x c e => (I'.ok.exf b hb).2 x c e, fun p hp => by cases hp⟩
  have loop : codeAny (model X.prog X.w) X.A (.compLoop (.SetComp elt [⟨tg, iter, [], 0⟩] scope pos) 0 (.ref it) (.ref D) ce) (compPost (model X.prog X.w) X.A X.xe none (EP X pins σ Q) (.ref D) sc.heap.objs.size) { sc with heap := pushCells (sc.heap.push { cls := .type "dict", data := .dict #[] }) scope.names } := by
    refine PpSet.compLoopS_any (fun n s' => ∃ i H', Inv (X.blk sc Hc scope ce fp) [] (wipe σ (own.map (·.2))) H' s' ∧ tn i s'.heap ∧ (∀ b ∈ fp, H' b = none) ∧ W i n H') ?_ m0 ⟨0, Hc, Id, std, fun b hb => (fc b hb).1.1, w0⟩
    rintro n s5 ⟨i, H5, I5, st5, n5, w5⟩
    rcases turn i n H5 w5 with ⟨stop, qq⟩ | ⟨go, Nx, hNx, step⟩
    · refine thnF (T.done (X.blk sc Hc scope ce fp) rfl rfl rfl hc i [] s5 _ H5 (fun _ _ => False) I5 (fps I5 n5) st5 stop) fun r s6 ⟨hr, I6⟩ => ?_
      subst hr
      have back : Inv X pins σ H5 s6 := Ic.call' (ch := fp) I6.os I6.base I6.hok I6.bare fun b hb => let z := (fc b hb).1.2; ⟨z.2.2.1, z.1, z.2.2.2.1, z.2.2.2.2⟩
      obtain ⟨m, hn, _⟩ := I6.loc
      have hn : s6.heap.Ns ce.locals m := hn
      have nC : H5 ce.locals = none := I6.free
      rw [eL] at hn nC
      obtain ⟨f0, f1, f2, f3, f4, f5⟩ := Ic.fpOk (Nat.le_refl _) nC
      exact ⟨m, hn, fun h'' sb' => ⟨.ref D, H5, back.turned (t' := s6.toks) (fun b o hb e => (sb'.2 b hb).trans e) f0 f1 f3 f4 f5, rfl, qq⟩⟩
    · refine thnF (T.item (X.blk sc Hc scope ce fp) rfl rfl rfl hc i [] s5 _ H5 (fun _ _ => False) I5 (fps I5 n5) st5 go) fun r s6 ⟨u, hr, h6⟩ => ?_
      subst hr
      refine thnF h6 fun _ s7 ⟨x, H7, I7, r7, y7, st7, n7⟩ => ?_
      refine thnF (pg.run _ s7 _ H7 x u _ (I7.pinned (fps I7 n7) (T.obj _ _ st7)) r7 (step x H7 y7)) fun _ s8 ⟨σ8, H8, I8, hw8, q8⟩ => ?_
      refine wpAny_tests_nil ?_
      rw [if_pos rfl]
      refine thnF (pe.run _ s8 σ8 H8 _ I8 q8) fun z s9 ⟨yv, H9, I9, r9, k, T0, n0, ey, hD9, room, nx⟩ => ?_
      subst ey
      refine call_set_add (kV_is r9) (key_scan r9) (setK_get (X := X.blk sc Hc scope ce fp) I9 hD9) room fun h' sb' new' => ?_
      have there : ∃ o, h'.get? D = some o := let ⟨o, _, _, _, ho, _⟩ := new'; ⟨o, ho⟩
      have I10 := I9.write (e := D) (t' := s9.toks + 1) (by rw [hD9]; trivial) (.inl rfl) (fun b o hb ho => (sb'.2 b hb).trans ho) there (setK_new (P := X.prog) (w := X.w) new')
      obtain ⟨m', hm, w'⟩ := hNx _ nx
      have pin' : ∀ b ∈ fp, ∀ o, s7.heap.get? b = some o → h'.get? b = some o ∧ _ = none := fun b hb o e => let z := I10.pin (b, o) (List.mem_append_right _ (List.mem_append_right _ (mem_pinsAt hb e))); ⟨z.1, z.2.1⟩
      refine ⟨m', hm, i + 1, _, (I10.unpinned (pins := [])).weak (by rw [← hw8, wipe_length]) fun j v e => ?_, T.keep _ _ _ st7 fun b hb o e => (pin' b hb o e).1, fun b hb => ?_, w'⟩
      · rw [← hw8] at e
        exact (wipe_some e).1
      · obtain ⟨o, e, _⟩ := T.obj _ _ st7 b hb
        exact (pin' b hb o e).2
  exact PpSet.codeAny_compStart_set loop (T.self X.A 0 _ _ _ std loop)
theorem len_sk {X : Cx} : CallR X (.builtin "len") (fun xs H Q => ∃ (p : Addr) (T : Key → Bool) (n : Nat), xs = [.ref p] ∧ H p = some (SetK X.prog X.w p T n) ∧ Q (.int n) H) := by
  intro pins s σ H xs us Q I r h
  obtain ⟨p, T, n, rfl, hp, q⟩ := h
  obtain ⟨u, rfl, ru⟩ := vals1 r
  cases ru
  obtain ⟨o, es, ep, t, ho, hex, hd, _, _, hb, hf, hn⟩ := setK_get I hp
  have hb : es.size < 4096 := hb
  exact call_len_set ho hex hd hf (by omega) ⟨.int n, H, I.tok _, ⟨_, by rw [hn]⟩, q⟩
theorem strs_back : ∀ zs : List Str, plainOf (zs.map fun z => D.p (.str z)) = some (zs.map .str) ∧ strsOf (zs.map PyData.str) = some zs
  | [] => ⟨rfl, rfl⟩
  | z :: zs => by
    have h := strs_back zs
    exact ⟨by simp [plainOf, h.1], by simp [strsOf, h.2]⟩
theorem strD_of {x d : D} (h : strD x = some d) : ∃ z, x = .p (.str z) ∧ d = .p (.str z) := by
  unfold strD at h
  split at h
  · cases h
    exact ⟨_, rfl, rfl⟩
  · cases h
variable {g : Gc} {W : WX} {cal : Nat → List D → M D} {pos : Pos}
theorem tSk_of {it : Wi} {tgs : List Nat} {one : Bool} {ie : E} {σ : L2.St} {H : Hp} {Q : VK} {P : Program} {w : World} (h : rE g W (evE cal (.lensc it tgs one ie)) σ H Q) :
    tSk P w (rI g W one (evI cal it)) (rG g tgs one) (rE g W0 (evE cal ie)) tgs σ H (fun v H' => ∃ (p : Addr) (T : Key → Bool) (n : Nat), [v] = [V.ref p] ∧ H' p = some (SetK P w p T n) ∧ Q (.int n) H') := by
  obtain ⟨α, S, ρ, a, r, q⟩ := h
  have q : wp (M.bind (evI cal it ρ) (fun src => M.bind (fun S => match src.size S with
    | some n => if n ≤ 1000 then lcGo src (fun d => M.calm (M.bind (match tgt tgs one d (wipeD ρ tgs) with
        | some ρ' => evE cal ie ρ'
        | none => M.bad) fun x => M.opt (strD x))) n 0 [] S else .bad
    | none => .bad) fun ds => M.opt (lensetLD ds)) S) _ _ := q
  refine ⟨α, S, ρ, a, r, wp_mono (wp_bind q) (fun src S1 h0 α1 H1 e1 a1 J wk p hp => ?_) fun _ _ z => z⟩
  have h1 := wp_bind h0
  cases hn : src.size S1 with
  | none => simp only [hn] at h1; exact h1.elim
  | some n =>
    simp only [hn] at h1
    by_cases hl : n ≤ 1000
    · simp only [hl, if_true] at h1
      obtain ⟨ef, af⟩ := At.fresh a1 hp (u := SetK P w p (fun _ => false) 0)
      let Wf : Nat → Nat → Hp → Prop := fun i m H2 => ∃ α2 S2 zs T, Ext α1 α2 H1 H2 ∧ g.At α2 H2 S2 ∧ p ∉ α2 ∧ H2 p = some (SetK P w p T (unlike zs).length) ∧ (∀ k : Key, T k = true ↔ ∃ z ∈ zs, k = .inr z) ∧ zs.length + m ≤ 1000 ∧
        wp (lcGo src (fun d => M.calm (M.bind (match tgt tgs one d (wipeD ρ tgs) with | some ρ' => evE cal ie ρ' | none => M.bad) fun x => M.opt (strD x))) m i (zs.map fun z => D.p (.str z)) S2)
          (fun ds S' => wp (M.opt (lensetLD ds) S') (fun d S' => ∀ α' H', Ext α α' H H' → g.At α' H' S' → ∀ v, g.Tl α' H' d v → Q v H') (exW g W α σ H)) (exW g W α σ H)
      refine ⟨Wf, ⟨n, α1, S1, [], fun _ => false, ef, af, a1.notin hp, upd_same, fun k => by simp, by simpa using hl, h1⟩, ?_⟩
      rintro i m H2 ⟨α2, S2, zs, T, e2, a2, np, hx, hT, hl2, w2⟩
      have wki := wk i α2 H2 S2 e2 a2
      cases hat : src.at i S2 with
      | none => cases m <;> (simp only [lcGo, hat] at w2; exact w2.elim)
      | some o =>
        cases o with
        | none =>
          refine .inl ⟨wki.2 hat, p, T, _, rfl, hx, ?_⟩
          have w3 : wp (M.opt (lensetLD (zs.map fun z => D.p (.str z))) S2) (fun d S' => ∀ α' H', Ext α α' H H' → g.At α' H' S' → ∀ v, g.Tl α' H' d v → Q v H') (exW g W α σ H) := by
            cases m <;> (simp only [lcGo, hat] at w2; exact w2)
          have hz : lensetLD (zs.map fun z => D.p (.str z)) = some (.p (.int (unlike zs).length)) := by
            unfold lensetLD
            rw [(strs_back zs).1]
            show (strsOf (zs.map PyData.str)).bind _ = _
            rw [(strs_back zs).2]
            show (if zs.length ≤ 1000 then some _ else none) = _
            rw [if_pos (by omega)]
          unfold M.opt at w3
          simp only [hz] at w3
          exact w3 α2 H2 (e1.trans e2) a2 _ (.int _)
        | some d =>
          cases m with
          | zero => simp only [lcGo, hat] at w2; exact w2.elim
          | succ m =>
            simp only [lcGo, hat] at w2
            obtain ⟨go, yl⟩ := wki.1 d hat
            refine .inr ⟨go, Wf (i + 1) m, fun H' q => ⟨m, Nat.lt_succ_self _, q⟩, fun x H' hy => ?_⟩
            obtain ⟨ey, ay, ty⟩ := yl x H' hy
            have w4 := wp_bind (calm_wp (ex' := fun _ _ => False) (wp_bind w2))
            cases ht : tgt tgs one d (wipeD ρ tgs) with
            | none => simp only [ht] at w4; exact w4.elim
            | some ρ' =>
              simp only [ht] at w4
              have eH := (e1.trans (e2.trans ey))
              refine ⟨α2, S2, wipeD ρ tgs, d, ρ', ay, ((r.ext eH a).wipe tgs), ty, ht, fun σ' r' ag => ⟨ag.wipe.trans (Ag.wipe (σ := σ) (σ' := L2.wipe σ tgs) ⟨wipe_length _ _, fun j hj => by rw [wipe_get, if_neg (fun z => hj z.1)]⟩), ?_⟩⟩
              refine ⟨α2, S2, ρ', ay, r', wp_mono w4 (fun z S3 w5 α3 H3 e3 a3 v tv => ?_) fun _ _ z => z.elim⟩
              have hx' : H' p = some (SetK P w p T (unlike zs).length) := ey.keep p _ hx np
              have hx3 : H3 p = some (SetK P w p T (unlike zs).length) := e3.keep p _ hx' np
              have np3 : p ∉ α3 := e3.notin hx' np
              cases hz : strD z with
              | none => unfold M.opt at w5; simp only [hz] at w5; exact w5.elim
              | some dz =>
                unfold M.opt at w5
                simp only [hz] at w5
                obtain ⟨t, rfl, rfl⟩ := strD_of hz
                cases tv
                have ul := unlike_snoc t zs
                refine ⟨.inr t, T, _, rfl, hx3, ?_, α3, S3, zs ++ [t], fun j => T j || decide (j = .inr t), ?_, a3.apartS hx3 True.intro np3, np3, ?_, fun k => ?_, ?_, ?_⟩
                · have := unlike_le zs
                  unfold scanBound
                  omega
                · have ee := (e2.trans (ey.trans e3))
                  exact ⟨ee.pre, fun b o hb n => by rw [upd_ne (fun z => by rw [z, hp] at hb; cases hb)]; exact ee.keep b o hb n, ee.new⟩
                · rw [upd_same, ul]
                  by_cases hm : t ∈ zs
                  · rw [if_pos ((hT _).mpr ⟨t, hm, rfl⟩), if_pos hm]
                    rfl
                  · rw [if_neg (fun z => by obtain ⟨u, hu, e⟩ := (hT _).mp z; cases e; exact hm hu), if_neg hm]
                · rw [Bool.or_eq_true, hT, decide_eq_true_eq]
                  constructor
                  · rintro (⟨z, hz, e⟩ | e)
                    · exact ⟨z, List.mem_append_left _ hz, e⟩
                    · exact ⟨t, List.mem_append_right _ (List.mem_singleton.mpr rfl), e⟩
                  · rintro ⟨z, hz, e⟩
                    rcases List.mem_append.mp hz with z1 | z1
                    · exact .inl ⟨z, z1, e⟩
                    · rw [List.mem_singleton] at z1
                      rw [z1] at e
                      exact .inr e
                · rw [List.length_append, List.length_singleton]
                  omega
                · rw [List.map_append]
                  exact w5
    · simp only [hl, if_false] at h1
      exact h1.elim
theorem e_lensc {elt tg iter : Expr} {scope : Scope} {cpos p : Pos} {it : Wi} {one : Bool} {ie : E} (own : List (Str × Nat)) {CX : CXT} {k : Nat} (G : Gd X g W CX cal k) (hm : X.mg "len" = none) (hi : PI X tg iter (rI g W one (evI cal it))) (ok : blkC X.N X.env.scope scope own = true)
    (hg : ∀ (s : Shared) (H : Hp) (C : Addr) (cl : List (Str × Addr)) (fp : List Addr), PG (X.blk s H scope (compEnvC scope cl C X.env) fp) tg (rG g (own.map (·.2)) one))
    (he : ∀ (s : Shared) (H : Hp) (C : Addr) (cl : List (Str × Addr)) (fp : List Addr), Gd (X.blk s H scope (compEnvC scope cl C X.env) fp) g W0 CX cal k → PE (X.blk s H scope (compEnvC scope cl C X.env) fp) elt (rE g W0 (evE cal ie)))
    (hgl : Gl X "len" := by rfl) (hs : ∀ x, foldedSetIterable iter X.env x = pure x := by intro _; rfl) :
    PE X (.Call (.Name "len" p) [.SetComp elt [⟨tg, iter, [], 0⟩] scope cpos] [] pos) (rE g W (evE cal (.lensc it (own.map (·.2)) one ie))) :=
  pe_imp (pe_callB len_sk hgl hm boot_len (pa_cons (pe_sk G.calm G.nd hi (blkOk_by ok) hg (fun s H C cl fp => he s H C cl fp (G.blk s H scope _ fp)) hs) pa_nil)) fun σ H Q q => tSk_of q
end
end Ir
set_option Elab.async false
set_option maxRecDepth 100000
set_option maxHeartbeats 4000001
/-! dict of a tuple of pairs; get of a written dict; len(set(..)) of a tuple of texts. -/
namespace Ir
open PySem L2 PySem.Spec PyProof.Rows
section
variable {X : Cx} {g : Gc} {W : WX} {cal : Nat → List D → M D} {pos : Pos}
/-- the pairs by their values -/
theorem prs_of {pins : List (Addr × Obj)} {σ : L2.St} {H : Hp} {s : Shared} (I : Inv X pins σ H s) : ∀ {ps : List Addr} {kvs : List (Key × V)}, Paired (fun p kv => SqT X.K H p [kV kv.1, kv.2]) ps kvs →
    ∃ (prs : List (Key × Value)) (vs : List (Value × Value)), KV kvs prs ∧ prs.length = ps.length ∧ vs.length = ps.length ∧
      ∀ (j : Nat) (q : Value × Value), vs[j]? = some q → ∃ (b : Addr) (k : Key), ps[j]? = some b ∧ prs[j]? = some (k, q.2) ∧ IsTup s.heap b #[q.1, q.2] ∧ keyIs k q.1 = true
  | _, _, .nil => ⟨[], [], .nil, rfl, rfl, fun j q e => by simp at e⟩
  | _, _, .cons (a := p) (b := kv) h t => by
    obtain ⟨prs, vs, r, h1, h2, hp⟩ := prs_of I t
    obtain ⟨its, rv, ht, _⟩ := I.tuple h
    obtain ⟨u, y, rfl, ru, ry⟩ := vals2 rv
    refine ⟨(kv.1, y) :: prs, (u, y) :: vs, .cons ⟨rfl, ry⟩ r, by rw [List.length_cons, List.length_cons, h1], by rw [List.length_cons, List.length_cons, h2], fun j q e => ?_⟩
    cases j with
    | zero =>
      cases (Option.some.inj e : (u, y) = q)
      exact ⟨p, kv.1, rfl, rfl, ht, kV_is (P := X.prog) (w := X.w) ru⟩
    | succ j =>
      obtain ⟨b, k, e1, e2, e3, e4⟩ := hp j q (by simpa using e)
      exact ⟨b, k, by simpa using e1, by simpa using e2, e3, e4⟩
theorem call_dictT (hc : X.calm = true) : CallR X (.type "dict") (fun xs H Q => ∃ (a : Addr) (ps : List Addr) (kvs : List (Key × V)), xs = [.ref a] ∧ Ht X.K H a (ps.map V.ref) ∧ Paired (fun p kv => SqT X.K H p [kV kv.1, kv.2]) ps kvs ∧ kvs.length ≤ 1000 ∧
    ∀ p, H p = none → Q (.ref p) (upd H p (.dK (mergeK [] kvs)))) := by
  intro pins s σ H xs us Q I r q
  obtain ⟨a, ps, kvs, rfl, hq, hp, hl, q⟩ := q
  obtain ⟨u, rfl, rx⟩ := vals1 r
  cases rx
  -- the argument's object
  have ob : ∃ (o : Obj) (n : Nat), s.heap.get? a = some o ∧ o.cls = .type "tuple" ∧ o.dict = none ∧ o.data = .seq (ps.map Value.ref).toArray n := by
    rcases hq with ⟨o, h1, h2⟩ | ⟨o, its, n, h1, h2, h3, h4, h5, h6⟩
    · obtain ⟨h3, h4, its, rv, o', h5, h6, n, h7⟩ := I.hok a _ h1
      rw [h3] at h5
      cases h5
      rw [refs_at rv] at h7
      exact ⟨o, n, h3, h6, h2, h7⟩
    · have e := refs_at h6
      exact ⟨o, n, I.kIn a o h1, h2, h3, by rw [h4, ← e]⟩
  obtain ⟨o, n, h1, h2, h3, h4⟩ := ob
  obtain ⟨prs, vs, rel, hl1, hl2, hpr⟩ := prs_of I hp
  have PA := PySem.PairArg.tuple (prog := X.prog) (w := X.w) a (ps.map Value.ref).toArray (fun j => ps.getD j 0) vs
  have okA : PlainSeq "tuple" s.heap a (ps.map Value.ref).toArray ∧ PairItems s.heap (ps.map Value.ref).toArray (fun j => ps.getD j 0) vs := by
    refine ⟨⟨o, n, h1, h2, h3, h4⟩, by simp [hl2], fun j k v e => ?_⟩
    obtain ⟨b, key, e1, e2, e3, e4⟩ := hpr j (k, v) e
    have eb : ps.getD j 0 = b := by rw [List.getD_eq_getElem?_getD, e1]; rfl
    exact ⟨by simp [e1], .inl (by show s.heap.IsTuple (ps.getD j 0) _; rw [eb]; exact e3)⟩
  have lenK : (mergeK [] kvs).length ≤ sizeLine := by
    have := length_mergeK kvs []
    rw [List.length_nil] at this
    rw [sizeLine_eq]
    omega
  have hn : vs.length = prs.length := by rw [hl1, hl2]
  refine PySem.call_dict_pairs (knd := mixKind X.prog X.w) (kvs := prs) PA (I.ok.hd hc) okA ⟨hn.symm, fun i key v e => ?_⟩ ?_ fun h' tk hd' hk => ?_
  · obtain ⟨b, k, e1, e2, e3, e4⟩ := hpr i (key, v) e
    exact ⟨k, e2, e4⟩
  · rw [hn, ← rel.length, sizeLine_eq]
    omega
  · refine ⟨.ref s.heap.objs.size, _, I.laid (t' := tk) (fun b o e => hk b o (fun z => by cases z) e) (Nat.le_refl _) (o := .dK (mergeK [] kvs)) ?_, rfl, q _ (I.hok.fresh (Nat.le_refl _))⟩
    exact ⟨lenK, beq_eq_false_iff_ne.mpr (Nat.ne_of_gt I.big), merged [] prs, KV.merge rel .nil, hd'⟩
/-- the dict of the store and the layer's, side by side -/
abbrev DP (g : Gc) (α : List Addr) (H : Hp) : List (Key × D) → List (Key × V) → Prop := Paired fun p q => p.1 = q.1 ∧ g.Tl α H p.2 q.2
theorem dp_any {α : List Addr} {H : Hp} {k : Key} : ∀ {kvs : List (Key × D)} {ws : List (Key × V)}, DP g α H kvs ws → (kvs.any fun kv => decide (kv.1 = k)) = ws.any fun kv => decide (kv.1 = k)
  | [], _, h => by cases h; rfl
  | _ :: _, _, h => by
    cases h with
    | cons a b => rw [List.any_cons, List.any_cons, dp_any b, a.1]
theorem dp_map {α : List Addr} {H : Hp} {k : Key} {d : D} {v : V} (t : g.Tl α H d v) : ∀ {kvs : List (Key × D)} {ws : List (Key × V)}, DP g α H kvs ws → DP g α H (kvs.map fun kv => if kv.1 = k then (kv.1, d) else kv) (ws.map fun kv => if kv.1 = k then (kv.1, v) else kv)
  | [], _, h => by cases h; exact .nil
  | (k1, d1) :: _, _, h => by
    cases h with
    | @cons _ q _ _ a b =>
      obtain ⟨k2, v2⟩ := q
      obtain ⟨e, a⟩ := a
      cases (e : k1 = k2)
      refine .cons ?_ (dp_map t b)
      show (if k1 = k then (k1, d) else (k1, d1)).1 = (if k1 = k then (k1, v) else (k1, v2)).1 ∧ g.Tl α H (if k1 = k then (k1, d) else (k1, d1)).2 (if k1 = k then (k1, v) else (k1, v2)).2
      by_cases z : k1 = k
      · rw [if_pos z, if_pos z]; exact ⟨rfl, t⟩
      · rw [if_neg z, if_neg z]; exact ⟨rfl, a⟩
theorem dp_put {α : List Addr} {H : Hp} {k : Key} {d : D} {v : V} (t : g.Tl α H d v) {kvs : List (Key × D)} {ws : List (Key × V)} (h : DP g α H kvs ws) : DP g α H (putD kvs k d) (putK ws k v) := by
  unfold putD putK
  rw [dp_any h]
  by_cases z : (ws.any fun kv => decide (kv.1 = k)) = true
  · rw [if_pos z, if_pos z]
    exact dp_map t h
  · rw [if_neg z, if_neg z]
    exact Paired.app h (.cons ⟨rfl, t⟩ .nil)
theorem dp_merge {α : List Addr} {H : Hp} : ∀ {more : List (Key × D)} {mv : List (Key × V)} {kvs : List (Key × D)} {ws : List (Key × V)}, DP g α H more mv → DP g α H kvs ws → DP g α H (more.foldl (fun acc kv => putD acc kv.1 kv.2) kvs) (mv.foldl (fun acc kv => putK acc kv.1 kv.2) ws)
  | [], _, _, _, h, k => by cases h; exact k
  | (k1, d1) :: _, _, _, _, h, k => by
    cases h with
    | @cons _ q _ _ a b =>
      obtain ⟨k2, v2⟩ := q
      obtain ⟨e, a⟩ := a
      cases (e : k1 = k2)
      have z := dp_merge b (dp_put (k := k1) a k)
      exact z
theorem pairs_tp {H : Hp} {α : List Addr} : ∀ {ds : List PyData} {xs : List V} {kvs : List (Key × D)}, TpA g.K H ds xs → pairsOf ds = some kvs →
    ∃ (ps : List Addr) (ws : List (Key × V)), xs = ps.map V.ref ∧ Paired (fun p kv => SqT g.K H p [kV kv.1, kv.2]) ps ws ∧ DP g α H kvs ws
  | [], _, _, h, e => by cases h; cases e; exact ⟨[], [], rfl, .nil, .nil⟩
  | d :: ds, _, kvs, h, e => by
    cases h with
    | @cons _ v _ vs a b =>
      cases d <;> first | (simp [pairsOf] at e; done) | skip
      rename_i qs
      match qs, e, a with
      | [], e, _ => simp [pairsOf] at e
      | [_], e, _ => simp [pairsOf] at e
      | _ :: _ :: _ :: _, e, _ => simp [pairsOf] at e
      | [kd, vd], e, a =>
        have e : ((keyOf (.p kd)).bind fun k => (pairsOf ds).map ((k, .p vd) :: ·)) = some kvs := e
        obtain ⟨key, e1, e⟩ := Option.bind_eq_some_iff.mp e
        obtain ⟨kr, e2, e⟩ := Option.map_eq_some_iff.mp e
        subst e
        obtain ⟨ps, ws, rfl, h1, h2⟩ := pairs_tp b e2
        cases a with
        | @tup c xs _ hq ha =>
          cases ha with
          | cons t1 r1 =>
            cases r1 with
            | cons t2 r2 =>
              cases r2
              have ek := key_V (ph := g.ph) (α := α) (d := .p kd) t1 e1
              refine ⟨c :: ps, (key, _) :: ws, rfl, .cons ?_ h1, .cons ⟨rfl, t2⟩ h2⟩
              have hq := hq.sq
              rw [ek] at hq
              exact hq
theorem e_dictOf {a : Expr} {ia : E} {p : Pos} (hc : X.calm = true) (hK : X.K = g.K) (hm : X.mg "dict" = none) (ha : PE X a (rE g W (evE cal ia))) (hg : Gl X "dict" := by rfl) (hs : starEach [a] X.env = (false, eval a X.env) :: starEach [] X.env := by rfl) :
    PE X (.Call (.Name "dict" p) [a] [] pos) (rE g W (evE cal (.dictOf ia))) := by
  have h := call_dictT (X := X) hc
  rw [hK] at h
  refine pe_imp (pe_callTy h hg hm (by decide +kernel) (pa_cons ha pa_nil hs) (he := hs)) fun σ H Q h => ?_
  obtain ⟨α, S, ρ, a0, r, w⟩ := h
  have w : wp (M.bind (evE cal ia ρ) (fun x => M.bind (M.opt (dictD x)) fun kvs => alloc (.dic kvs)) S) _ _ := w
  refine ⟨α, S, ρ, a0, r, wp_mono (wp_bind w) (fun x S1 h1 α1 H1 e1 a1 v tv => ?_) fun _ _ z => z⟩
  cases e : dictD x with
  | none => simp only [M.bind, M.opt, e] at h1; exact h1.elim
  | some kvs =>
    simp only [M.bind, M.opt, e] at h1
    unfold dictD at e
    split at e
    · obtain ⟨kv, e2, e⟩ := Option.bind_eq_some_iff.mp e
      by_cases hl : kv.length ≤ 1000
      · rw [if_pos hl] at e
        cases e
        cases tv with
        | tup hq hx =>
          obtain ⟨ps, ws, rfl, h2, h3⟩ := pairs_tp (α := α1) hx e2
          refine ⟨_, ps, ws, rfl, hq, h2, by rw [← Paired.length h3]; exact hl, fun q hq0 => ?_⟩
          obtain ⟨ef, af⟩ := At.fresh a1 hq0 (u := .dK (mergeK [] ws))
          have dm : DP g α1 (upd H1 q (.dK (mergeK [] ws))) (mergeD kv) (mergeK [] ws) := by
            have h3' : DP g α1 (upd H1 q (.dK (mergeK [] ws))) kv ws := Paired.mapP h3 fun _ _ z => ⟨z.1, z.2.ext ef a1⟩
            exact dp_merge h3' .nil
          unfold alloc at h1
          by_cases hb : rbO S1.length (.dic (mergeD kv)) = true
          · simp only [hb, if_true] at h1
            obtain ⟨a2, pre⟩ := At.take_in af (a1.notin hq0) (o := .dic (mergeD kv)) ⟨_, upd_same, dm⟩ hb
            have e12 := e1.trans ef
            refine h1 (α1 ++ [q]) _ ⟨fun i b h => pre i b (e12.pre i b h), e12.keep, fun b hb => ?_⟩ a2 _ ⟨q, ?_, rfl⟩
            · rcases List.mem_append.mp hb with z | z
              · exact e12.new b z
              · rw [List.mem_singleton] at z
                rw [z]
                exact .inr (e1.none a1 hq0)
            · rw [← a1.len, List.getElem?_append_right (Nat.le_refl _)]
              simp
          · simp only [hb] at h1
            exact h1.elim
      · rw [if_neg hl] at e
        cases e
    · cases e

/-! ### get of a dict of the module with text keys -/
structure Wd (g : Gc) (w : World) (mg : Str → Option Value) (x : Str) (kvs : List (Str × PyData)) : Prop where
  ex : ∃ a es n, mg x = some (.ref a) ∧ g.K.lookup a = some ⟨.type "dict", none, .dict es n, #[]⟩ ∧ PySem.W.KeysLit w.params es.toList ∧ (a == sysModules) = false ∧
    Paired (fun (e : DictEntry) (p : Str × PyData) => (∃ t, e.key = .str p.1 t) ∧ ∃ v, RelV v e.val ∧ ∀ H, Tp g.K H p.2 v) es.toList kvs
theorem find_wd {g : Gc} {z : Str} : ∀ {l : List DictEntry} {kvs : List (Str × PyData)}, Paired (fun (e : DictEntry) (p : Str × PyData) => (∃ t, e.key = .str p.1 t) ∧ ∃ v, RelV v e.val ∧ ∀ H, Tp g.K H p.2 v) l kvs →
    ∃ v, RelV v (((l.find? fun e => Value.isStrOf z e.key).map (·.val)).getD .none) ∧ ∀ H, Tp g.K H ((kvs.lookup z).getD .none) v
  | [], _, h => by cases h; exact ⟨.non, rfl, fun _ => .non⟩
  | e :: l, _, h => by
    cases h with
    | @cons _ q _ kvs a b =>
      obtain ⟨x, d⟩ := q
      obtain ⟨⟨t, ek⟩, v, rv, tv⟩ := a
      rw [List.find?_cons, ek]
      by_cases z1 : x = z
      · subst z1
        have e1 : Value.isStrOf x (.str x t) = true := by simp [Value.isStrOf]
        rw [e1]
        have e2 : ((x, d) :: kvs).lookup x = some d := by simp [List.lookup]
        rw [e2]
        exact ⟨v, rv, tv⟩
      · have e1 : Value.isStrOf z (.str x t) = false := by simp [Value.isStrOf, z1]
        rw [e1]
        have e2 : ((x, d) :: kvs).lookup z = kvs.lookup z := by
          rw [List.lookup]
          have : (z == x) = false := by simpa using Ne.symm z1
          rw [this]
        rw [e2]
        exact find_wd b
theorem e_wget {x : Str} {b : Expr} {ib : E} {apos p : Pos} {kvs : List (Str × PyData)} (D : Wd g X.w X.mg x kvs) (hK : X.K = g.K) (hb : PE X b (rE g W (evE cal ib))) (hg : Gl X x := by rfl) (hd : (x == ("__debug__" : Str)) = false := by decide)
    (m : M1 X (.Name x p) "get" apos b pos := by exact ⟨rfl, rfl, rfl, rfl⟩) : PE X (.Call (.Attribute (.Name x p) "get" apos) [b] [] pos) (rE g W (evE cal (.wget kvs ib))) := by
  refine ⟨fun pins s σ H Q I h => ?_⟩
  obtain ⟨a, es, n, h1, h2, h3, h4, h5⟩ := D.ex
  rw [← hK] at h2
  refine wpAny_Call_method m.base m.few m.line PySem.F.plainAttrs_dict PySem.F.slot_dict_get PySem.F.type_dict_get (ld_glob I hg h1 ?_ hd)
  have hm := PySem.W.mapOf_K (prog := X.prog) (w := X.w) I.kIn h2 h3
  refine ⟨hm.typeIs, fun c e => ?_, ?_⟩
  · cases e
    exact ⟨_, I.kIn _ _ h2, rfl⟩
  rw [m.trees]
  obtain ⟨α, S, h⟩ := h
  have h6 : rE g W (evE cal ib) σ H (fun y H1 => ∃ z v, y = .str z ∧ RelV v ((findBy Value.isStrOf es z).getD .none) ∧ Q v H1) := by
    refine ⟨α, S, (rAt.bind (m := evE cal ib) (f := fun y _ => M.opt (wgetD kvs y)) h).imp fun y S1 α1 H1 e1 a1 q v tv => ?_⟩
    obtain ⟨z, hz, k⟩ := rAt.opt (o := fun _ => wgetD kvs y) q
    have hz : wgetD kvs y = some z := hz
    unfold wgetD at hz
    split at hz
    · rename_i z0 _
      cases hz
      cases tv
      obtain ⟨v, r1, r2⟩ := find_wd (z := z0) h5
      refine ⟨z0, v, rfl, ?_, k α1 H1 (Ext.refl _ _) a1 v (r2 H1)⟩
      unfold findBy
      rw [← Array.find?_toList]
      exact r1
    · cases hz
  refine Calls.callWith_builtin rfl (Calls.evalArgs_plain (Calls.spliced_cons (thn (hb.run pins s σ H _ I h6) fun iv s2 ⟨y, H2, I2, ry, z, v, ey, rv, q2⟩ => Calls.spliced_nil ?_)))
  subst ey
  obtain ⟨t, rfl⟩ := ry
  have hm2 := PySem.W.mapOf_K (prog := X.prog) (w := X.w) I2.kIn h2 h3
  exact call_meetsIn PySem.F.slot_dict_get hm2.typeIs PySem.F.entry_dict_get (PySem.F.args_dict_get_2 _ _) (meets_dict_get (strKind X.prog X.w) a (strKind_is X.prog X.w z t) h4) ⟨_, hm2, v, H2, I2.tok _, rv, q2⟩
/-! ### len(set(..)) of at most one text -/
theorem strs_tp {K : PySem.W.Frag} {H : Hp} : ∀ {ds : List PyData} {xs : List V} {zs : List Str}, TpA K H ds xs → strsOf ds = some zs → xs = zs.map V.str
  | [], _, _, h, e => by cases h; cases e; rfl
  | d :: ds, _, _, h, e => by
    cases h with
    | cons a b =>
      cases d <;> first | (simp [strsOf] at e; done) | skip
      unfold strsOf at e
      obtain ⟨r, e1, e⟩ := Option.map_eq_some_iff.mp e
      subst e
      cases a
      rw [strs_tp b e1]
      rfl
theorem unlike_one : ∀ {zs : List Str}, zs.length ≤ 1 → (unlike zs).length = zs.length
  | [], _ => rfl
  | [z], _ => by simp [unlike]
  | _ :: _ :: _, h => by simp at h
theorem e_lenset {a : Expr} {ia : E} {p p2 q : Pos} (hc : X.calm = true) (hK : X.K = g.K) (hm : X.mg "len" = none) (hm2 : X.mg "set" = none) (ha : PE X a (rE g W (evE cal ia))) (hg : Gl X "len" := by rfl) (hg2 : Gl X "set" := by rfl)
    (na : starEach [a] X.env = (false, eval a X.env) :: starEach [] X.env := by rfl) : PE X (.Call (.Name "len" p) [.Call (.Name "set" p2) [a] [] q] [] pos) (rE g W (evE cal (.lenset ia))) := by
  have h := pe_lenSet (pos := pos) (p := p) (p2 := p2) (q := q) hc hg hm hg2 hm2 ha na
  rw [hK] at h
  refine pe_imp h fun σ H Q h => ?_
  obtain ⟨α, S, h⟩ := h
  refine ⟨α, S, (rAt.bind (m := evE cal ia) (f := fun x _ => M.opt (lensetD x)) h).imp fun x S1 α1 H1 e1 a1 h1 v tv => ?_⟩
  obtain ⟨z, hz, k⟩ := rAt.opt (o := fun _ => lensetD x) h1
  have hz : lensetD x = some z := hz
  unfold lensetD at hz
  split at hz
  · obtain ⟨zs, e, hz⟩ := Option.bind_eq_some_iff.mp hz
    by_cases hl : zs.length ≤ 1
    · rw [if_pos hl] at hz
      cases hz
      cases tv with
      | tup hq hx =>
        have e2 := strs_tp hx e
        subst e2
        refine ⟨_, zs, rfl, .inr hq.sq, hl, ?_⟩
        have ul := unlike_one hl
        rw [← ul]
        exact k α1 H1 (Ext.refl _ _) a1 _ (.int _)
    · rw [if_neg hl] at hz
      cases hz
  · cases hz
end
end Ir
set_option Elab.async false
set_option maxRecDepth 100000
set_option maxHeartbeats 4000001
/-! Short words: one rule a sign. -/
namespace Ir
open PySem L2 PySem.Spec PyProof.Rows
section
variable {X : Cx} {g : Gc} {W : WX} {cal : Nat → List D → M D} {pos : Pos} {a b c : Expr} {ia ib ic : E} {CX : CXT} {k : Nat}
theorem e_add (G : Gd X g W CX cal k) (ha : PE X a (rE g W (evE cal ia))) (hb : PE X b (rE g W (evE cal ib))) : PE X (.BinOp a .Add b pos) (rE g W (evE cal (.bin .add ia ib))) := by
  have h := (op_add (X := X).or op_add_str).or op_catF
  rw [G.K] at h
  exact e_bin h o_add ha hb
theorem e_sub (G : Gd X g W CX cal k) (ha : PE X a (rE g W (evE cal ia))) (hb : PE X b (rE g W (evE cal ib))) : PE X (.BinOp a .Sub b pos) (rE g W (evE cal (.bin .sub ia ib))) := e_bin op_sub o_sub ha hb
theorem e_mul (G : Gd X g W CX cal k) (ha : PE X a (rE g W (evE cal ia))) (hb : PE X b (rE g W (evE cal ib))) : PE X (.BinOp a .Mult b pos) (rE g W (evE cal (.bin .mul ia ib))) := e_bin op_mul o_mul ha hb
theorem e_fdiv (G : Gd X g W CX cal k) (ha : PE X a (rE g W (evE cal ia))) (hb : PE X b (rE g W (evE cal ib))) : PE X (.BinOp a .FloorDiv b pos) (rE g W (evE cal (.bin .fdiv ia ib))) := e_bin op_fdivW o_fdiv ha hb
theorem e_mod (G : Gd X g W CX cal k) (ha : PE X a (rE g W (evE cal ia))) (hb : PE X b (rE g W (evE cal ib))) : PE X (.BinOp a .Mod b pos) (rE g W (evE cal (.bin .mod ia ib))) := e_bin op_mod o_mod ha hb
theorem e_pow (G : Gd X g W CX cal k) (ha : PE X a (rE g W (evE cal ia))) (hb : PE X b (rE g W (evE cal ib))) : PE X (.BinOp a .Pow b pos) (rE g W (evE cal (.bin .pow ia ib))) := e_bin op_pow o_pow ha hb
/-- what an operator of comparison is here -/
structure Cmp (X : Cx) (g : Gc) (op : CmpOp) (o : COp) : Prop where
  ex : ∃ r, OpR X (compareOp op) r ∧ OpC g o r
theorem c_lt (_ : Gd X g W CX cal k) : Cmp X g .Lt .lt := ⟨_, op_lt, o_lt⟩
theorem c_le (_ : Gd X g W CX cal k) : Cmp X g .LtE .le := ⟨_, op_le, o_le⟩
theorem c_gt (_ : Gd X g W CX cal k) : Cmp X g .Gt .gt := ⟨_, op_gt, o_gt⟩
theorem c_ge (_ : Gd X g W CX cal k) : Cmp X g .GtE .ge := ⟨_, op_ge, o_ge⟩
theorem c_eq (G : Gd X g W CX cal k) : Cmp X g .Eq .eq := by
  have h := (op_eq (X := X)).or (op_eqD G.hu)
  rw [G.K] at h
  exact ⟨_, h, o_eq⟩
theorem c_ne (G : Gd X g W CX cal k) : Cmp X g .NotEq .ne := by
  have h := (op_ne (X := X)).or (op_neD G.hu)
  rw [G.K] at h
  exact ⟨_, h, o_ne⟩
theorem op_in_dK (hu : X.A.units + 1 < cLine) : OpR X (compareOp .In) (fun x y H Q => ∃ b ws k, y = .ref b ∧ x = kV k ∧ H b = some (.dK ws) ∧ Q (.bl (if false then !(valV ws k).isSome else (valV ws k).isSome)) H) := by
  intro pins s σ H x y v u Q I rx ry h
  obtain ⟨b, ws, k, rfl, rfl, hb, q⟩ := h
  cases ry
  exact d_in hu I (.k hb) rx fun s' I' => ⟨.bl _, H, I', rfl, by simpa using q⟩
theorem op_notin_dK (hu : X.A.units + 1 < cLine) : OpR X (compareOp .NotIn) (fun x y H Q => ∃ b ws k, y = .ref b ∧ x = kV k ∧ H b = some (.dK ws) ∧ Q (.bl (if true then !(valV ws k).isSome else (valV ws k).isSome)) H) := by
  intro pins s σ H x y v u Q I rx ry h
  obtain ⟨b, ws, k, rfl, rfl, hb, q⟩ := h
  cases ry
  exact d_notIn hu I (.k hb) rx fun s' I' => ⟨.bl _, H, I', rfl, by simpa using q⟩
theorem c_in (G : Gd X g W CX cal k) : Cmp X g .In .in_ := by
  have h := ((op_in_str (X := X)).or op_in_seq).or (op_in_dK (by have := G.hu; omega))
  rw [G.K] at h
  exact ⟨_, h, o_in⟩
theorem c_notin (G : Gd X g W CX cal k) : Cmp X g .NotIn .notin := by
  have h := ((op_notin_str (X := X)).or op_notIn_seq).or (op_notin_dK (by have := G.hu; omega))
  rw [G.K] at h
  exact ⟨_, h, o_notin⟩
theorem c_is (_ : Gd X g W CX cal k) : Cmp X g .Is .is_ := ⟨_, (op_isBl (X := X)).or op_isN, o_is⟩
theorem c_isnot (_ : Gd X g W CX cal k) : Cmp X g .IsNot .isnot := ⟨_, (op_isnot_bl (X := X)).or op_notN, o_isnot⟩
theorem e_c {op : CmpOp} {o : COp} (C : Cmp X g op o) (ha : PE X a (rE g W (evE cal ia))) (hb : PE X b (rE g W (evE cal ib))) (hm : behindInMarks op b = false := by first | exact nomark _ (by decide) (by decide) | rfl) :
    PE X (.Compare a [op] [b] pos) (rE g W (evE cal (.cmp o ia ib))) := let ⟨_, h1, h2⟩ := C.ex; e_cmp h1 h2 ha hb hm
theorem t_c {op : CmpOp} {o : COp} (C : Cmp X g op o) (ha : PE X a (rE g W (evE cal ia))) (hb : PE X b (rE g W (evE cal ib))) (hm : behindInMarks op b = false := by first | exact nomark _ (by decide) (by decide) | rfl) :
    PT X (.Compare a [op] [b] pos) (rT g W (evE cal (.cmp o ia ib))) := let ⟨_, h1, h2⟩ := C.ex; t_cmp h1 h2 ha hb hm
theorem e_ch {op op' : CmpOp} {o o' : COp} (C : Cmp X g op o) (C' : Cmp X g op' o') (ha : PE X a (rE g W (evE cal ia))) (hb : PE X b (rE g W (evE cal ib))) (hc : PE X c (rE g W (evE cal ic))) (hm : lastMarks [op, op'] [b, c] = false := by with_unfolding_all rfl) :
    PE X (.Compare a [op, op'] [b, c] pos) (rE g W (evE cal (.chain o o' ia ib ic))) := let ⟨_, h1, h2⟩ := C.ex; let ⟨_, h3, h4⟩ := C'.ex; e_chain h1 h3 h2 h4 ha hb hc hm
theorem t_ch {op op' : CmpOp} {o o' : COp} (C : Cmp X g op o) (C' : Cmp X g op' o') (ha : PE X a (rE g W (evE cal ia))) (hb : PE X b (rE g W (evE cal ib))) (hc : PE X c (rE g W (evE cal ic))) (hm : lastMarks [op, op'] [b, c] = false := by with_unfolding_all rfl) :
    PT X (.Compare a [op, op'] [b, c] pos) (rT g W (evE cal (.chain o o' ia ib ic))) := let ⟨_, h1, h2⟩ := C.ex; let ⟨_, h3, h4⟩ := C'.ex; t_chain h1 h3 h2 h4 ha hb hc hm
end
end Ir
set_option Elab.async false
set_option maxRecDepth 100000
set_option maxHeartbeats 4000001
/-! What the top has written, told by one run; the table of the defs by levels; the law. -/
namespace Ir
open PySem L2 PySem.Spec PyProof.Rows
/-- a statement that nothing looks through -/
structure Ok (p : Prop) : Prop where
  h : p
/-- a written value is this plain data -/
def chk (K : PySem.W.Frag) : Nat → PyData → Value → Bool
  | _, .none, .none => true
  | _, .bool a, .bool b => decide (a = b)
  | _, .int i, .int j _ => decide (i = j)
  | _, .str x, .str y _ => decide (x = y)
  | n + 1, .tuple ds, .ref a => (match K.lookup a with
    | some ⟨.type c, none, .seq its _, _⟩ => decide (c = "tuple") && (decide (its.size ≤ 1000) && (decide (ds.length = its.toList.length) && (ds.zip its.toList).all fun p => chk K n p.1 p.2))
    | _ => false)
  | _, _, _ => false
theorem zip_chk {K : PySem.W.Frag} {n : Nat} (h : ∀ d u, chk K n d u = true → ∃ v, RelV v u ∧ ∀ H, Tp K H d v) : ∀ {ds : List PyData} {us : List Value}, ds.length = us.length → ((ds.zip us).all fun p => chk K n p.1 p.2) = true → ∃ vs, Vals vs us ∧ ∀ H, TpA K H ds vs
  | [], [], _, _ => ⟨[], .nil, fun _ => .nil⟩
  | d :: ds, u :: us, hl, ha => by
    rw [List.zip_cons_cons, List.all_cons, Bool.and_eq_true] at ha
    obtain ⟨v, r, t⟩ := h _ _ ha.1
    obtain ⟨vs, r2, t2⟩ := zip_chk h (by simpa using hl) ha.2
    exact ⟨v :: vs, .cons r r2, fun H => .cons (t H) (t2 H)⟩
theorem chk_ok {K : PySem.W.Frag} : ∀ (n : Nat) (d : PyData) (u : Value), chk K n d u = true → ∃ v, RelV v u ∧ ∀ H, Tp K H d v := by
  intro n
  induction n with
  | zero =>
    intro d u h
    unfold chk at h
    split at h
    · exact ⟨.non, rfl, fun _ => .non⟩
    · exact ⟨.bl _, by rw [of_decide_eq_true h]; rfl, fun _ => .bl _⟩
    · exact ⟨.int _, ⟨_, by rw [of_decide_eq_true h]⟩, fun _ => .int _⟩
    · exact ⟨.str _, ⟨_, by rw [of_decide_eq_true h]⟩, fun _ => .str _⟩
    · rename_i e; cases e
    · cases h
  | succ n ih =>
    intro d u h
    unfold chk at h
    split at h
    · exact ⟨.non, rfl, fun _ => .non⟩
    · exact ⟨.bl _, by rw [of_decide_eq_true h]; rfl, fun _ => .bl _⟩
    · exact ⟨.int _, ⟨_, by rw [of_decide_eq_true h]⟩, fun _ => .int _⟩
    · exact ⟨.str _, ⟨_, by rw [of_decide_eq_true h]⟩, fun _ => .str _⟩
    · rename_i n' ds a e
      cases e
      split at h
      · rename_i c its m sl hl
        simp only [Bool.and_eq_true, decide_eq_true_eq] at h
        obtain ⟨h1, h2, h3, h4⟩ := h
        subst h1
        obtain ⟨vs, r, t⟩ := zip_chk ih h3 h4
        exact ⟨.ref a, rfl, fun H => .tup (.inr ⟨_, its, m, hl, rfl, rfl, rfl, by rw [sizeLine_eq]; omega, r⟩) (t H)⟩
      · cases h
    · cases h
def constB (K : PySem.W.Frag) (q : Str × PyData) : Bool := match PySem.W.nsIn K mainGlobals q.1 with
  | some (some u) => chk K 5 q.2 u
  | _ => false
def dicB (K : PySem.W.Frag) (x : Str) (kvs : List (Str × PyData)) : Bool := match K.lookup (He.ga K x) with
  | some ⟨_, _, .dict es _, _⟩ => decide (es.toList.length = kvs.length) && ((es.toList.zip kvs).all fun p => (match p.1.key with
    | .str y _ => decide (y = p.2.1)
    | _ => false) && chk K 5 p.2.2 p.1.val)
  | _ => false
section
variable {K : PySem.W.Frag} {h : Heap} {mg : Str → Option Value} {w : World} {ph : Nat → Option Addr}
abbrev gOf (K : PySem.W.Frag) (ph : Nat → Option Addr) : Gc := ⟨K, ph, fun _ _ _ _ => False⟩
theorem const_ok (X : K.In h) (G : h.Ns mainGlobals mg) {x : Str} {d : PyData} (c : constB K (x, d) = true) : Gv (gOf K ph) mg x (.p d) := by
  unfold constB at c
  split at c
  · rename_i u e
    obtain ⟨v, r, t⟩ := chk_ok _ _ _ c
    exact ⟨v, u, PySem.W.mg_of X G e, r, fun _ H => t H⟩
  · cases c
theorem dic_zip : ∀ {es : List DictEntry} {kvs : List (Str × PyData)}, es.length = kvs.length → ((es.zip kvs).all fun p => (match p.1.key with
    | .str y _ => decide (y = p.2.1)
    | _ => false) && chk K 5 p.2.2 p.1.val) = true → Paired (fun (e : DictEntry) (p : Str × PyData) => (∃ t, e.key = .str p.1 t) ∧ ∃ v, RelV v e.val ∧ ∀ H, Tp K H p.2 v) es kvs
  | [], [], _, _ => .nil
  | e :: es, q :: kvs, hl, ha => by
    rw [List.zip_cons_cons, List.all_cons, Bool.and_eq_true, Bool.and_eq_true] at ha
    obtain ⟨⟨h1, h2⟩, h3⟩ := ha
    refine .cons ⟨?_, chk_ok _ _ _ h2⟩ (dic_zip (by simpa using hl) h3)
    dsimp only at h1
    split at h1
    · rename_i y t hy
      exact ⟨t, by rw [hy, of_decide_eq_true h1]⟩
    · cases h1
theorem wd_ok {x : Str} {kvs : List (Str × PyData)} (hm : mg x = some (.ref (He.ga K x))) (hk : ∃ es n, KDict K w (He.ga K x) es n) (c : dicB K x kvs = true) : Wd (gOf K ph) w mg x kvs := by
  obtain ⟨es, n, q⟩ := hk
  unfold dicB at c
  rw [q.at_] at c
  simp only [Bool.and_eq_true, decide_eq_true_eq] at c
  exact ⟨_, es, n, hm, q.at_, q.lit, q.low, dic_zip c.1 c.2⟩
end
theorem fun_of {K : PySem.W.Frag} {x : Str} {st : Stmt} {f : Addr} {fd : FuncData} (F : FunD K x x (defArgs st) (defBody st) (defScope st) [] [] f fd) : Fun K x x st f fd := by
  obtain ⟨oc, od, dV, kV, doc, pm, an, cdv, ct, osl, e, l, c, hD, _⟩ := F.ex
  rcases hD with ⟨_, rfl⟩ | ⟨q, _⟩
  · exact ⟨⟨oc, od, kV, doc, pm, an, cdv, ct, osl, e, l, c⟩, F.kp⟩
  · exact absurd rfl q
def ddOf (x : Str) (st : Stmt) : He.DefD := ⟨(x, none), x, x, defArgs st, defBody st, defScope st, [], []⟩
section
variable {P : Program} {w : World} {g : Gc} {mg : Str → Option Value} {base : Heap} {a : Nat → Addr} {fs : Nat → Option Fn}
def Row (P : Program) (w : World) (g : Gc) (mg : Str → Option Value) (base : Heap) (f : Addr) (fn : Fn) : Prop := ∃ fd ps, (∀ cal k, Tb P w g mg base cal k → FnOk P w g.K mg base CX0 (k + 1) f fd ps (spI g (callF cal fn))) ∧ PySem.W.keepIn g.K (.ref f) = true ∧ Binds g.K fd ps []
theorem row_mk {x : Str} {st : Stmt} {f : Addr} {fd : FuncData} {N ps : List Str} {fn : Fn} (F : FunD g.K x x (defArgs st) (defBody st) (defScope st) [] [] f fd) (S : FnScope N ps (defScope st)) (har : fn.ar = ps.length) (hsz : fn.sz = N.length)
    (hbi : ∀ (kV doc pm : Value) (an : Option Addr) (cdv ct : Value) (us : List Value), us.length = ps.length → bindArgs (PySem.W.fnOf x x (defArgs st) (defBody st) (defScope st) .none kV doc pm an cdv ct) ⟨us, []⟩ = pure (ps.zip us))
    (hb : ∀ (cal : Nat → List D → M D) (k : Nat) (cdv : Value) (A : Around) (outer : List Env) (s : Shared) (H : Hp) (E : XK), Gd (cxOf CX0 P w g.K mg base N x (defScope st) f cdv A outer s H E).nox g W0 CX0 cal k →
      PSs (cxOf CX0 P w g.K mg base N x (defScope st) f cdv A outer s H E).nox (defBody st) (rS g W0 (exSs cal fn.body))) : Row P w g mg base f fn :=
  ⟨fd, ps, fun cal k tb => fn_ok (fun_of F) S tb har hsz (hb cal k), F.kp, F.bindsN hbi⟩
theorem cal_succ {i k : Nat} {fn : Fn} (h : fs i = some fn) : calK fs (k + 1) i = callF (calK fs k) fn := by
  funext ds
  simp [calK, h]
theorem tb_all (h : ∀ i f, g.ph i = some f → ∃ fn, fs i = some fn ∧ Row P w g mg base f fn) : ∀ k, Tb P w g mg base (calK fs k) k
  | 0 => tb_zero fun i f hi => by
    obtain ⟨fn, _, fd, ps, _, h2, h3⟩ := h i f hi
    exact ⟨fd, ps, fun vs H Q E z => by
      obtain ⟨α, S, ds, _, _, q⟩ := z
      exact q.elim, h2, h3⟩
  | k + 1 => fun i f hi => by
    obtain ⟨fn, h0, fd, ps, h1, h2, h3⟩ := h i f hi
    rw [cal_succ h0]
    exact ⟨fd, ps, h1 _ _ (tb_all h k), h2, h3⟩
/-- the law's promise -/
def spLaw (K : PySem.W.Frag) (n : Nat) : Sp := fun vs H Q _ => ∃ (a : Addr) (ns : List Int), vs = [.ref a] ∧ Only H ∧ SqL K H a (ns.map V.int) ∧ ns.length ≤ n ∧ ∀ H', Q (.bl true) H'
theorem ints_tpa {K : PySem.W.Frag} {H : Hp} : ∀ ns : List Int, TpA K H (ns.map .int) (ns.map V.int)
  | [] => .nil
  | _ :: r => .cons (.int _) (ints_tpa r)
theorem law_of {m : List D → M D} {n k : Nat} {f : Addr} {fd : FuncData} {ps : List Str} (F : FnOk P w g.K mg base CX0 k f fd ps (spI g m))
    (h : ∀ ns : List Int, ns.length ≤ n → wp (m [.p (.list (ns.map .int))] []) (fun d _ => d = .p (.bool true)) (fun _ _ => False)) : FnOk P w g.K mg base CX0 k f fd ps (spLaw g.K n) :=
  F.imp fun vs H Q E z => by
    obtain ⟨b, ns, rfl, hO, hS, hl, q⟩ := z
    refine ⟨[], [], [.p (.list (ns.map .int))], ⟨rfl, List.nodup_nil, fun i o b h => by simp at h, fun i o h => by simp at h⟩, .cons (.lst (Lf.of hO hS) (ints_tpa ns)) .nil, wp_mono (h ns hl) (fun d S e α' H' _ _ v tv => ?_) fun _ _ z => z.elim⟩
    subst e
    cases tv
    exact q H'
end
end Ir
set_option Elab.async false
set_option maxRecDepth 100000
set_option maxHeartbeats 4000001
/-! The text of the law by my small language: made by gen.py from the linked text. -/
namespace Ir.K72
open PySem L2 PySem.Spec PyProof.Rows
def top (i : Nat) : Stmt := PySem.Challenge.pw_strangemill_k72_bounds_and_words.main.body.getD i (.Pass ⟨0, 0, 0, 0⟩)
def d_PARTS : List (Str × PyData) := [("ask", (.tuple [])), ("say", (.tuple [])), ("drop", (.tuple [])), ("twin", (.tuple [])), ("turn", (.tuple [])), ("plus", (.tuple [])), ("minus", (.tuple [])), ("times", (.tuple [])), ("part", (.tuple [])), ("same", (.tuple [])), ("give", (.tuple [])), ("throw", (.tuple [])), ("num", (.tuple [(.str "number")])), ("get", (.tuple [(.str "box")])), ("put", (.tuple [(.str "box")])), ("fits", (.tuple [(.str "unit")])), ("new", (.tuple [(.str "unit")])), ("read", (.tuple [(.str "unit"), (.str "name")])), ("write", (.tuple [(.str "unit"), (.str "name")])), ("call", (.tuple [(.str "unit"), (.str "name")])), ("hail", (.tuple [(.str "unit"), (.str "name")])), ("jump", (.tuple [(.str "entry")])), ("nought", (.tuple [(.str "entry")]))]
/-- is_whole -/
def b0 : Ss := (.cons (.ret (.and (.isi (.var 0) .int) (.not (.isi (.var 0) .bool))))
    .nil)
/-- is_within -/
def b1 : Ss := (.cons (.ret (.and (.call 0 (.cons (.var 0) .nil)) (.chain .le .le (.var 1) (.var 0) (.var 2))))
    .nil)
/-- is_number -/
def b2 : Ss := (.cons (.ret (.call 1 (.cons (.var 0) (.cons (.neg (.cst (.p (.int 1000000000000)))) (.cons (.bin .sub (.cst (.p (.int 1000000000000))) (.cst (.p (.int 1)))) .nil)))))
    .nil)
/-- begins_with -/
def b3 : Ss := (.cons (.ite (.or (.not (.isi (.var 0) .str)) (.not (.chain .le .le (.cst (.p (.int 1))) (.len (.var 0)) (.cst (.p (.int 12)))))) (.cons (.ret (.cst (.p (.bool false))))
    .nil) .nil)
    (.cons (.ret (.and (.cmp .in_ (.idx (.var 0) (.cst (.p (.int 0)))) (.var 1)) (.all (.lc (.str (.slice (.var 0) (some 1) none)) [2] true (.cmp .in_ (.var 2) (.cst (.p (.str "abcdefghijklmnopqrstuvwxyz0123456789"))))))))
    .nil))
/-- is_unit_name -/
def b4 : Ss := (.cons (.ret (.call 3 (.cons (.var 0) (.cons (.cst (.p (.str "ABCDEFGHIJKLMNOPQRSTUVWXYZ"))) .nil))))
    .nil)
/-- is_name -/
def b5 : Ss := (.cons (.ret (.call 3 (.cons (.var 0) (.cons (.cst (.p (.str "abcdefghijklmnopqrstuvwxyz"))) .nil))))
    .nil)
/-- is_type -/
def b6 : Ss := (.cons (.ret (.or (.cmp .eq (.var 0) (.cst (.p (.str "num")))) (.call 4 (.cons (.var 0) .nil))))
    .nil)
/-- is_unit -/
def b7 : Ss := (.cons (.ret (.or (.call 8 (.cons (.var 0) .nil)) (.call 9 (.cons (.var 0) .nil))))
    .nil)
/-- is_kind -/
def b8 : Ss := (.cons (.ite (.or (.not (.call 10 (.cons (.var 0) (.cons (.cst (.p (.int 6))) (.cons (.cst (.p (.int 6))) .nil))))) (.cmp .ne (.idx (.var 0) (.cst (.p (.int 0)))) (.cst (.p (.str "kind"))))) (.cons (.ret (.cst (.p (.bool false))))
    .nil) .nil)
    (.cons (.unp [1, 2, 3, 4, 5, 6] (.var 0))
    (.cons (.ret (.and (.call 4 (.cons (.var 2) .nil)) (.and (.or (.cmp .eq (.var 3) (.cst (.p (.str "")))) (.call 4 (.cons (.var 3) .nil))) (.and (.call 13 (.cons (.var 4) .nil)) (.and (.call 12 (.cons (.var 5) (.cons (.cst (.p (.int 0))) (.cons (.cst (.p (.int 6))) (.cons (.cst (.fn 14)) .nil))))) (.call 12 (.cons (.var 6) (.cons (.cst (.p (.int 0))) (.cons (.cst (.p (.int 8))) (.cons (.cst (.fn 16)) .nil))))))))))
    .nil)))
/-- is_face -/
def b9 : Ss := (.cons (.ite (.or (.not (.call 10 (.cons (.var 0) (.cons (.cst (.p (.int 3))) (.cons (.cst (.p (.int 3))) .nil))))) (.cmp .ne (.idx (.var 0) (.cst (.p (.int 0)))) (.cst (.p (.str "face"))))) (.cons (.ret (.cst (.p (.bool false))))
    .nil) .nil)
    (.cons (.unp [1, 2, 3] (.var 0))
    (.cons (.ret (.and (.call 4 (.cons (.var 2) .nil)) (.call 12 (.cons (.var 3) (.cons (.cst (.p (.int 1))) (.cons (.cst (.p (.int 8))) (.cons (.cst (.fn 15)) .nil)))))))
    .nil)))
/-- is_tuple -/
def b10 : Ss := (.cons (.ret (.and (.isi (.var 0) .tuple) (.chain .le .le (.var 1) (.len (.var 0)) (.var 2))))
    .nil)
/-- are_all -/
def b11 : Ss := (.cons (.ret (.and (.call 10 (.cons (.var 0) (.cons (.var 1) (.cons (.var 2) .nil)))) (.all (.lc (.tup (.var 0)) [4] true (.callv 3 (.cons (.var 4) .nil))))))
    .nil)
/-- are_named -/
def b12 : Ss := (.cons (.ret (.and (.call 11 (.cons (.var 0) (.cons (.var 1) (.cons (.var 2) (.cons (.var 3) .nil))))) (.cmp .eq (.lensc (.tup (.var 0)) [4] true (.idx (.var 4) (.cst (.p (.int 0))))) (.len (.var 0)))))
    .nil)
/-- are_faces -/
def b13 : Ss := (.cons (.ret (.and (.call 11 (.cons (.var 0) (.cons (.cst (.p (.int 0))) (.cons (.cst (.p (.int 3))) (.cons (.cst (.fn 4)) .nil))))) (.cmp .eq (.lenset (.var 0)) (.len (.var 0)))))
    .nil)
/-- is_field -/
def b14 : Ss := (.cons (.ret (.and (.call 10 (.cons (.var 0) (.cons (.cst (.p (.int 2))) (.cons (.cst (.p (.int 2))) .nil)))) (.and (.call 5 (.cons (.idx (.var 0) (.cst (.p (.int 0)))) .nil)) (.call 6 (.cons (.idx (.var 0) (.cst (.p (.int 1)))) .nil)))))
    .nil)
/-- is_signature -/
def b15 : Ss := (.cons (.ite (.not (.call 10 (.cons (.var 0) (.cons (.cst (.p (.int 3))) (.cons (.cst (.p (.int 3))) .nil))))) (.cons (.ret (.cst (.p (.bool false))))
    .nil) .nil)
    (.cons (.unp [1, 2, 3] (.var 0))
    (.cons (.ret (.and (.call 5 (.cons (.var 1) .nil)) (.and (.call 11 (.cons (.var 2) (.cons (.cst (.p (.int 0))) (.cons (.cst (.p (.int 6))) (.cons (.cst (.fn 6)) .nil))))) (.call 6 (.cons (.var 3) .nil)))))
    .nil)))
/-- is_way -/
def b16 : Ss := (.cons (.ite (.or (.not (.call 10 (.cons (.var 0) (.cons (.cst (.p (.int 6))) (.cons (.cst (.p (.int 6))) .nil))))) (.not (.call 15 (.cons (.slice (.var 0) none (some 3)) .nil)))) (.cons (.ret (.cst (.p (.bool false))))
    .nil) .nil)
    (.cons (.unp [1, 2, 3] (.slice (.var 0) (some 3) none))
    (.cons (.ite (.or (.not (.call 10 (.cons (.var 1) (.cons (.cst (.p (.int 1))) (.cons (.cst (.p (.int 40))) .nil))))) (.not (.call 17 (.cons (.var 2) (.cons (.len (.var 1)) .nil))))) (.cons (.ret (.cst (.p (.bool false))))
    .nil) .nil)
    (.cons (.asg 4 (.dictOf (.var 2)))
    (.cons (.ret (.and (.all (.lc (.tup (.var 1)) [5] true (.call 20 (.cons (.var 5) (.cons (.var 4) .nil))))) (.and (.call 10 (.cons (.var 3) (.cons (.cst (.p (.int 0))) (.cons (.cst (.p (.int 4))) .nil)))) (.all (.lc (.tup (.var 3)) [6] true (.call 19 (.cons (.var 6) (.cons (.len (.var 1)) (.cons (.var 4) .nil)))))))))
    .nil)))))
/-- are_entries -/
def b17 : Ss := (.cons (.ite (.not (.call 10 (.cons (.var 0) (.cons (.cst (.p (.int 0))) (.cons (.var 1) .nil))))) (.cons (.ret (.cst (.p (.bool false))))
    .nil) .nil)
    (.cons (.asg 2 (.cst (.p (.int 0))))
    (.cons (.for_ (.tup (.var 0)) [3] true (.cons (.ite (.not (.call 18 (.cons (.var 3) (.cons (.var 2) (.cons (.var 1) .nil))))) (.cons (.ret (.cst (.p (.bool false))))
    .nil) .nil)
    (.cons (.asg 2 (.bin .add (.idx (.var 3) (.cst (.p (.int 0)))) (.cst (.p (.int 1)))))
    .nil)))
    (.cons (.ret (.cst (.p (.bool true))))
    .nil))))
/-- is_entry -/
def b18 : Ss := (.cons (.ret (.and (.call 10 (.cons (.var 0) (.cons (.cst (.p (.int 2))) (.cons (.cst (.p (.int 2))) .nil)))) (.and (.call 1 (.cons (.idx (.var 0) (.cst (.p (.int 0)))) (.cons (.var 1) (.cons (.bin .sub (.var 2) (.cst (.p (.int 1)))) .nil)))) (.call 1 (.cons (.idx (.var 0) (.cst (.p (.int 1)))) (.cons (.cst (.p (.int 0))) (.cons (.cst (.p (.int 8))) .nil)))))))
    .nil)
/-- is_catch -/
def b19 : Ss := (.cons (.ite (.not (.call 10 (.cons (.var 0) (.cons (.cst (.p (.int 3))) (.cons (.cst (.p (.int 3))) .nil))))) (.cons (.ret (.cst (.p (.bool false))))
    .nil) .nil)
    (.cons (.unp [3, 4, 5] (.var 0))
    (.cons (.ret (.and (.call 1 (.cons (.var 3) (.cons (.cst (.p (.int 0))) (.cons (.var 1) .nil)))) (.and (.call 1 (.cons (.var 4) (.cons (.bin .add (.var 3) (.cst (.p (.int 1)))) (.cons (.var 1) .nil)))) (.and (.call 0 (.cons (.var 5) .nil)) (.cmp .eq (.dget (.var 2) (.var 5)) (.cst (.p (.int 1))))))))
    .nil)))
/-- is_row -/
def b20 : Ss := (.cons (.ite (.or (.not (.call 10 (.cons (.var 0) (.cons (.cst (.p (.int 1))) (.cons (.cst (.p (.int 3))) .nil))))) (.not (.isi (.idx (.var 0) (.cst (.p (.int 0)))) .str))) (.cons (.ret (.cst (.p (.bool false))))
    .nil) .nil)
    (.cons (.asg 2 (.wget d_PARTS (.idx (.var 0) (.cst (.p (.int 0))))))
    (.cons (.ite (.or (.cmp .is_ (.var 2) (.cst (.p .none))) (.cmp .ne (.len (.var 0)) (.bin .add (.len (.var 2)) (.cst (.p (.int 1)))))) (.cons (.ret (.cst (.p (.bool false))))
    .nil) .nil)
    (.cons (.ret (.all (.lc (.zip (.var 2) (.slice (.var 0) (some 1) none)) [3, 4] false (.call 21 (.cons (.var 3) (.cons (.var 4) (.cons (.var 1) .nil)))))))
    .nil))))
/-- is_part -/
def b21 : Ss := (.cons (.ite (.cmp .eq (.var 0) (.cst (.p (.str "number")))) (.cons (.ret (.call 2 (.cons (.var 1) .nil)))
    .nil) .nil)
    (.cons (.ite (.cmp .eq (.var 0) (.cst (.p (.str "box")))) (.cons (.ret (.call 1 (.cons (.var 1) (.cons (.cst (.p (.int 0))) (.cons (.bin .sub (.cst (.p (.int 8))) (.cst (.p (.int 1)))) .nil)))))
    .nil) .nil)
    (.cons (.ite (.cmp .eq (.var 0) (.cst (.p (.str "unit")))) (.cons (.ret (.call 4 (.cons (.var 1) .nil)))
    .nil) .nil)
    (.cons (.ite (.cmp .eq (.var 0) (.cst (.p (.str "name")))) (.cons (.ret (.call 5 (.cons (.var 1) .nil)))
    .nil) .nil)
    (.cons (.ret (.and (.call 0 (.cons (.var 1) .nil)) (.cmp .in_ (.var 1) (.var 2))))
    .nil)))))
/-- _law_draw -/
def b22 : Ss := (.cons (.setI (.var 0) (.cst (.p (.int 2))) (.bin .add (.idx (.var 0) (.cst (.p (.int 2)))) (.cst (.p (.int 1)))))
    (.cons (.ite (.and (.cmp .eq (.idx (.var 0) (.cst (.p (.int 1)))) (.cst (.p (.int 0)))) (.eqL true (.idx (.var 0) (.cst (.p (.int 0)))) (.disp .nil))) (.cons (.setI (.var 0) (.cst (.p (.int 1))) (.popAt (.idx (.var 0) (.cst (.p (.int 0)))) (.cst (.p (.int 0)))))
    (.cons (.ite (.cmp .lt (.idx (.var 0) (.cst (.p (.int 1)))) (.bin .pow (.cst (.p (.int 10))) (.cst (.p (.int 18))))) (.cons (.setI (.var 0) (.cst (.p (.int 3))) (.bin .mod (.bin .add (.bin .mul (.idx (.var 0) (.cst (.p (.int 3)))) (.cst (.p (.int 39373)))) (.idx (.var 0) (.cst (.p (.int 1))))) (.cst (.p (.int 2147483647)))))
    (.cons (.setI (.var 0) (.cst (.p (.int 1))) (.cst (.p (.int 0))))
    .nil)) .nil)
    .nil)) .nil)
    (.cons (.ite (.cmp .gt (.idx (.var 0) (.cst (.p (.int 1)))) (.cst (.p (.int 0)))) (.cons (.asg 2 (.bin .mod (.idx (.var 0) (.cst (.p (.int 1)))) (.var 1)))
    (.cons (.setI (.var 0) (.cst (.p (.int 1))) (.bin .fdiv (.idx (.var 0) (.cst (.p (.int 1)))) (.var 1)))
    (.cons (.ret (.var 2))
    .nil))) .nil)
    (.cons (.asg 2 (.bin .mod (.bin .pow (.bin .add (.bin .add (.idx (.var 0) (.cst (.p (.int 3)))) (.bin .mul (.cst (.p (.int 7919))) (.idx (.var 0) (.cst (.p (.int 2)))))) (.cst (.p (.int 104729)))) (.cst (.p (.int 5)))) (.cst (.p (.int 2147483647)))))
    (.cons (.ret (.bin .mod (.bin .mod (.bin .mul (.bin .add (.var 2) (.idx (.var 0) (.cst (.p (.int 2))))) (.cst (.p (.int 48271)))) (.cst (.p (.int 2147483629)))) (.var 1)))
    .nil)))))
/-- _law_row -/
def b23 : Ss := (.cons (.ite (.cmp .eq (.var 1) (.cst (.p (.str "num")))) (.cons (.ret (.tup (.cons (.var 1) (.cons (.idxL (.disp (.cons (.bin .sub (.cst (.p (.int 1000000000000))) (.cst (.p (.int 1)))) (.cons (.bin .sub (.cst (.p (.int 0))) (.cst (.p (.int 1000000000000)))) (.cons (.call 22 (.cons (.var 0) (.cons (.cst (.p (.int 1000000000000))) .nil))) .nil)))) (.call 22 (.cons (.var 0) (.cons (.cst (.p (.int 3))) .nil)))) .nil))))
    .nil) .nil)
    (.cons (.ite (.cmp .in_ (.var 1) (.tup (.cons (.cst (.p (.str "get"))) (.cons (.cst (.p (.str "put"))) .nil)))) (.cons (.ret (.tup (.cons (.var 1) (.cons (.call 22 (.cons (.var 0) (.cons (.cst (.p (.int 8))) .nil))) .nil))))
    .nil) .nil)
    (.cons (.ite (.cmp .in_ (.var 1) (.tup (.cons (.cst (.p (.str "fits"))) (.cons (.cst (.p (.str "new"))) .nil)))) (.cons (.ret (.tup (.cons (.var 1) (.cons (.cst (.p (.str "Some"))) .nil))))
    .nil) .nil)
    (.cons (.ite (.cmp .in_ (.var 1) (.tup (.cons (.cst (.p (.str "read"))) (.cons (.cst (.p (.str "write"))) (.cons (.cst (.p (.str "call"))) (.cons (.cst (.p (.str "hail"))) .nil)))))) (.cons (.ret (.tup (.cons (.var 1) (.cons (.cst (.p (.str "Some"))) (.cons (.cst (.p (.str "f"))) .nil)))))
    .nil) .nil)
    (.cons (.ret (.idxL (.disp (.cons (.tup (.cons (.var 1) .nil)) (.cons (.tup (.cons (.var 1) (.cons (.cst (.p (.int 0))) .nil))) .nil))) (.toInt (.cmp .in_ (.var 1) (.tup (.cons (.cst (.p (.str "jump"))) (.cons (.cst (.p (.str "nought"))) .nil)))))))
    .nil)))))
/-- _law_unit -/
def b24 : Ss := (.cons (.ret (.tup (.cons (.cst (.p (.str "kind"))) (.cons (.cst (.p (.str "Own"))) (.cons (.cst (.p (.str ""))) (.cons (.tup .nil) (.cons (.tup .nil) (.cons (.tup (.cons (.tup (.cons (.cst (.p (.str "go"))) (.cons (.tup .nil) (.cons (.cst (.p (.str "num"))) (.cons (.tupOf (.var 0)) (.cons (.tup (.cons (.tup (.cons (.cst (.p (.int 0))) (.cons (.var 1) .nil))) .nil)) (.cons (.tup .nil) .nil))))))) .nil)) .nil))))))))
    .nil)
/-- law -/
def b25 : Ss := (.cons (.asg 1 (.lst (.disp (.cons (.lst (.of (.var 0))) (.cons (.cst (.p (.int 0))) (.cons (.cst (.p (.int 0))) (.cons (.cst (.p (.int 0))) .nil)))))))
    (.cons (.asg 2 (.lst (.disp (.cons (.cst (.p (.int 1000000000000))) (.cons (.cst (.p (.int 8))) (.cons (.cst (.p (.int 8))) (.cons (.cst (.p (.int 40))) (.cons (.cst (.p (.int 16))) (.cons (.cst (.p (.int 30))) (.cons (.cst (.p (.int 200))) (.cons (.cst (.p (.int 400))) .nil)))))))))))
    (.cons (.ite (.or (.eqL true (.var 2) (.disp (.cons (.bin .pow (.cst (.p (.int 10))) (.cst (.p (.int 12)))) (.cons (.cst (.p (.int 8))) (.cons (.cst (.p (.int 8))) (.cons (.cst (.p (.int 40))) (.cons (.cst (.p (.int 16))) (.cons (.cst (.p (.int 30))) (.cons (.cst (.p (.int 200))) (.cons (.cst (.p (.int 400))) .nil)))))))))) (.any (.lc (.lst (.var 2)) [6] true (.isi (.var 6) .bool)))) (.cons (.ret (.cst (.p (.bool false))))
    .nil) .nil)
    (.cons (.asg 3 (.cst (.p (.str "ask say drop twin turn plus minus times part same give throw num get put fits new"))))
    (.cons (.asg 3 (.bin .add (.var 3) (.cst (.p (.str " read write call hail jump nought")))))
    (.cons (.ite (.or (.not (.isi (.cst (.p (.tuple [(.str "ask"), (.str "say"), (.str "drop"), (.str "twin"), (.str "turn"), (.str "plus"), (.str "minus"), (.str "times"), (.str "part"), (.str "same"), (.str "give"), (.str "throw"), (.str "num"), (.str "get"), (.str "put"), (.str "fits"), (.str "new"), (.str "read"), (.str "write"), (.str "call"), (.str "hail"), (.str "jump"), (.str "nought")]))) .tuple)) (.eqLL true (.of (.cst (.p (.tuple [(.str "ask"), (.str "say"), (.str "drop"), (.str "twin"), (.str "turn"), (.str "plus"), (.str "minus"), (.str "times"), (.str "part"), (.str "same"), (.str "give"), (.str "throw"), (.str "num"), (.str "get"), (.str "put"), (.str "fits"), (.str "new"), (.str "read"), (.str "write"), (.str "call"), (.str "hail"), (.str "jump"), (.str "nought")])))) (.split (.var 3) " "))) (.cons (.ret (.cst (.p (.bool false))))
    .nil) .nil)
    (.cons (.asg 4 (.lst (.lc (.tup (.cst (.p (.tuple [(.str "ask"), (.str "say"), (.str "drop"), (.str "twin"), (.str "turn"), (.str "plus"), (.str "minus"), (.str "times"), (.str "part"), (.str "same"), (.str "give"), (.str "throw"), (.str "num"), (.str "get"), (.str "put"), (.str "fits"), (.str "new"), (.str "read"), (.str "write"), (.str "call"), (.str "hail"), (.str "jump"), (.str "nought")])))) [7] true (.call 23 (.cons (.var 1) (.cons (.var 7) .nil))))))
    (.cons (.asg 5 (.lst (.lc (.rng (.bin .sub (.cst (.p (.int 40))) (.len (.var 4)))) [8] true (.call 23 (.cons (.var 1) (.cons (.idx (.cst (.p (.tuple [(.str "ask"), (.str "say"), (.str "drop"), (.str "twin"), (.str "turn"), (.str "plus"), (.str "minus"), (.str "times"), (.str "part"), (.str "same"), (.str "give"), (.str "throw"), (.str "num"), (.str "get"), (.str "put"), (.str "fits"), (.str "new"), (.str "read"), (.str "write"), (.str "call"), (.str "hail"), (.str "jump"), (.str "nought")]))) (.call 22 (.cons (.var 1) (.cons (.len (.cst (.p (.tuple [(.str "ask"), (.str "say"), (.str "drop"), (.str "twin"), (.str "turn"), (.str "plus"), (.str "minus"), (.str "times"), (.str "part"), (.str "same"), (.str "give"), (.str "throw"), (.str "num"), (.str "get"), (.str "put"), (.str "fits"), (.str "new"), (.str "read"), (.str "write"), (.str "call"), (.str "hail"), (.str "jump"), (.str "nought")])))) .nil)))) .nil))))))
    (.cons (.ite (.or (.cmp .isnot (.call 7 (.cons (.call 24 (.cons (.lst (.cat (.var 4) (.var 5))) (.cons (.cst (.p (.int 8))) .nil))) .nil)) (.cst (.p (.bool true)))) (.cmp .isnot (.call 7 (.cons (.call 24 (.cons (.var 4) (.cons (.bin .add (.cst (.p (.int 8))) (.cst (.p (.int 1)))) .nil))) .nil)) (.cst (.p (.bool false))))) (.cons (.ret (.cst (.p (.bool false))))
    .nil) .nil)
    (.cons (.ite (.cmp .isnot (.call 7 (.cons (.call 24 (.cons (.lst (.cat (.lst (.cat (.var 4) (.var 5))) (.lst (.disp (.cons (.tup (.cons (.cst (.p (.str "ask"))) .nil)) .nil))))) (.cons (.cst (.p (.int 0))) .nil))) .nil)) (.cst (.p (.bool false)))) (.cons (.ret (.cst (.p (.bool false))))
    .nil) .nil)
    (.cons (.ite (.cmp .isnot (.call 7 (.cons (.call 24 (.cons (.lst (.disp (.cons (.tup (.cons (.cst (.p (.str "get"))) (.cons (.cst (.p (.int 8))) .nil))) .nil))) (.cons (.cst (.p (.int 0))) .nil))) .nil)) (.cst (.p (.bool false)))) (.cons (.ret (.cst (.p (.bool false))))
    .nil) .nil)
    (.cons (.ret (.and (.cmp .is_ (.call 7 (.cons (.call 24 (.cons (.lst (.disp (.cons (.tup (.cons (.cst (.p (.str "num"))) (.cons (.cst (.p (.int 1000000000000))) .nil))) .nil))) (.cons (.cst (.p (.int 0))) .nil))) .nil)) (.cst (.p (.bool false)))) (.cmp .is_ (.call 7 (.cons (.call 24 (.cons (.lst (.disp (.cons (.tup (.cons (.cst (.p (.str "num"))) (.cons (.bin .sub (.bin .sub (.cst (.p (.int 0))) (.cst (.p (.int 1000000000000)))) (.cst (.p (.int 1)))) .nil))) .nil))) (.cons (.cst (.p (.int 0))) .nil))) .nil)) (.cst (.p (.bool false))))))
    .nil))))))))))))
def fns : List Fn := [⟨1, 1, b0⟩, ⟨3, 3, b1⟩, ⟨1, 1, b2⟩, ⟨2, 3, b3⟩, ⟨1, 1, b4⟩, ⟨1, 1, b5⟩, ⟨1, 1, b6⟩, ⟨1, 1, b7⟩, ⟨1, 7, b8⟩, ⟨1, 4, b9⟩, ⟨3, 3, b10⟩, ⟨4, 5, b11⟩, ⟨4, 5, b12⟩, ⟨1, 1, b13⟩, ⟨1, 1, b14⟩, ⟨1, 4, b15⟩, ⟨1, 7, b16⟩, ⟨2, 4, b17⟩, ⟨3, 3, b18⟩, ⟨3, 6, b19⟩, ⟨2, 5, b20⟩, ⟨3, 3, b21⟩, ⟨2, 3, b22⟩, ⟨2, 2, b23⟩, ⟨2, 2, b24⟩, ⟨1, 9, b25⟩]
def fs (i : Nat) : Option Fn := fns[i]?
structure Txt (g : Gc) (w : World) (mg : Str → Option Value) (a : Nat → Addr) : Prop where
  ph : ∀ i f, g.ph i = some f → i < 26 ∧ f = a i
  p0 : g.ph 0 = some (a 0)
  m0 : mg "is_whole" = some (.ref (a 0))
  p1 : g.ph 1 = some (a 1)
  m1 : mg "is_within" = some (.ref (a 1))
  p2 : g.ph 2 = some (a 2)
  m2 : mg "is_number" = some (.ref (a 2))
  p3 : g.ph 3 = some (a 3)
  m3 : mg "begins_with" = some (.ref (a 3))
  p4 : g.ph 4 = some (a 4)
  m4 : mg "is_unit_name" = some (.ref (a 4))
  p5 : g.ph 5 = some (a 5)
  m5 : mg "is_name" = some (.ref (a 5))
  p6 : g.ph 6 = some (a 6)
  m6 : mg "is_type" = some (.ref (a 6))
  p7 : g.ph 7 = some (a 7)
  m7 : mg "is_unit" = some (.ref (a 7))
  p8 : g.ph 8 = some (a 8)
  m8 : mg "is_kind" = some (.ref (a 8))
  p9 : g.ph 9 = some (a 9)
  m9 : mg "is_face" = some (.ref (a 9))
  p10 : g.ph 10 = some (a 10)
  m10 : mg "is_tuple" = some (.ref (a 10))
  p11 : g.ph 11 = some (a 11)
  m11 : mg "are_all" = some (.ref (a 11))
  p12 : g.ph 12 = some (a 12)
  m12 : mg "are_named" = some (.ref (a 12))
  p13 : g.ph 13 = some (a 13)
  m13 : mg "are_faces" = some (.ref (a 13))
  p14 : g.ph 14 = some (a 14)
  m14 : mg "is_field" = some (.ref (a 14))
  p15 : g.ph 15 = some (a 15)
  m15 : mg "is_signature" = some (.ref (a 15))
  p16 : g.ph 16 = some (a 16)
  m16 : mg "is_way" = some (.ref (a 16))
  p17 : g.ph 17 = some (a 17)
  m17 : mg "are_entries" = some (.ref (a 17))
  p18 : g.ph 18 = some (a 18)
  m18 : mg "is_entry" = some (.ref (a 18))
  p19 : g.ph 19 = some (a 19)
  m19 : mg "is_catch" = some (.ref (a 19))
  p20 : g.ph 20 = some (a 20)
  m20 : mg "is_row" = some (.ref (a 20))
  p21 : g.ph 21 = some (a 21)
  m21 : mg "is_part" = some (.ref (a 21))
  p22 : g.ph 22 = some (a 22)
  m22 : mg "_law_draw" = some (.ref (a 22))
  p23 : g.ph 23 = some (a 23)
  m23 : mg "_law_row" = some (.ref (a 23))
  p24 : g.ph 24 = some (a 24)
  m24 : mg "_law_unit" = some (.ref (a 24))
  p25 : g.ph 25 = some (a 25)
  m25 : mg "law" = some (.ref (a 25))
  b_all : mg "all" = none
  b_any : mg "any" = none
  b_bool : mg "bool" = none
  b_dict : mg "dict" = none
  b_int : mg "int" = none
  b_isinstance : mg "isinstance" = none
  b_len : mg "len" = none
  b_list : mg "list" = none
  b_range : mg "range" = none
  b_set : mg "set" = none
  b_str : mg "str" = none
  b_tuple : mg "tuple" = none
  b_zip : mg "zip" = none
  c_REACH : Gv g mg "REACH" (.p (.int 1000000000000))
  c_BOXES : Gv g mg "BOXES" (.p (.int 8))
  c_STACK : Gv g mg "STACK" (.p (.int 8))
  c_ROWS : Gv g mg "ROWS" (.p (.int 40))
  c_REGISTERS : Gv g mg "REGISTERS" (.p (.int 16))
  c_FRAMES : Gv g mg "FRAMES" (.p (.int 30))
  c_ROOM : Gv g mg "ROOM" (.p (.int 200))
  c_MOST : Gv g mg "MOST" (.p (.int 400))
  c_SIGNS : Gv g mg "SIGNS" (.p (.int 12))
  c_FACES : Gv g mg "FACES" (.p (.int 3))
  c_FIELDS : Gv g mg "FIELDS" (.p (.int 6))
  c_WAYS : Gv g mg "WAYS" (.p (.int 8))
  c_SIGNATURES : Gv g mg "SIGNATURES" (.p (.int 8))
  c_TAKES : Gv g mg "TAKES" (.p (.int 6))
  c_CATCHES : Gv g mg "CATCHES" (.p (.int 4))
  c_WORDS : Gv g mg "WORDS" (.p (.tuple [(.str "ask"), (.str "say"), (.str "drop"), (.str "twin"), (.str "turn"), (.str "plus"), (.str "minus"), (.str "times"), (.str "part"), (.str "same"), (.str "give"), (.str "throw"), (.str "num"), (.str "get"), (.str "put"), (.str "fits"), (.str "new"), (.str "read"), (.str "write"), (.str "call"), (.str "hail"), (.str "jump"), (.str "nought")]))
  c_CAPITALS : Gv g mg "CAPITALS" (.p (.str "ABCDEFGHIJKLMNOPQRSTUVWXYZ"))
  c_SMALLS : Gv g mg "SMALLS" (.p (.str "abcdefghijklmnopqrstuvwxyz"))
  c_BEHIND : Gv g mg "BEHIND" (.p (.str "abcdefghijklmnopqrstuvwxyz0123456789"))
  d_PARTS : Wd g w mg "PARTS" d_PARTS
section
variable {P : Program} {w : World} {g : Gc} {mg : Str → Option Value} {base : Heap} {cal : Nat → List D → M D} {k : Nat} {a : Nat → Addr}
theorem Txt.v22 (T : Txt g w mg a) : Gv g mg "_law_draw" (.fn 22) := ⟨.ref (a 22), .ref (a 22), T.m22, rfl, fun _ _ => ⟨a 22, T.p22, rfl⟩⟩
theorem Txt.v23 (T : Txt g w mg a) : Gv g mg "_law_row" (.fn 23) := ⟨.ref (a 23), .ref (a 23), T.m23, rfl, fun _ _ => ⟨a 23, T.p23, rfl⟩⟩
theorem Txt.v24 (T : Txt g w mg a) : Gv g mg "_law_unit" (.fn 24) := ⟨.ref (a 24), .ref (a 24), T.m24, rfl, fun _ _ => ⟨a 24, T.p24, rfl⟩⟩
theorem Txt.v11 (T : Txt g w mg a) : Gv g mg "are_all" (.fn 11) := ⟨.ref (a 11), .ref (a 11), T.m11, rfl, fun _ _ => ⟨a 11, T.p11, rfl⟩⟩
theorem Txt.v17 (T : Txt g w mg a) : Gv g mg "are_entries" (.fn 17) := ⟨.ref (a 17), .ref (a 17), T.m17, rfl, fun _ _ => ⟨a 17, T.p17, rfl⟩⟩
theorem Txt.v13 (T : Txt g w mg a) : Gv g mg "are_faces" (.fn 13) := ⟨.ref (a 13), .ref (a 13), T.m13, rfl, fun _ _ => ⟨a 13, T.p13, rfl⟩⟩
theorem Txt.v12 (T : Txt g w mg a) : Gv g mg "are_named" (.fn 12) := ⟨.ref (a 12), .ref (a 12), T.m12, rfl, fun _ _ => ⟨a 12, T.p12, rfl⟩⟩
theorem Txt.v3 (T : Txt g w mg a) : Gv g mg "begins_with" (.fn 3) := ⟨.ref (a 3), .ref (a 3), T.m3, rfl, fun _ _ => ⟨a 3, T.p3, rfl⟩⟩
theorem Txt.v19 (T : Txt g w mg a) : Gv g mg "is_catch" (.fn 19) := ⟨.ref (a 19), .ref (a 19), T.m19, rfl, fun _ _ => ⟨a 19, T.p19, rfl⟩⟩
theorem Txt.v18 (T : Txt g w mg a) : Gv g mg "is_entry" (.fn 18) := ⟨.ref (a 18), .ref (a 18), T.m18, rfl, fun _ _ => ⟨a 18, T.p18, rfl⟩⟩
theorem Txt.v9 (T : Txt g w mg a) : Gv g mg "is_face" (.fn 9) := ⟨.ref (a 9), .ref (a 9), T.m9, rfl, fun _ _ => ⟨a 9, T.p9, rfl⟩⟩
theorem Txt.v14 (T : Txt g w mg a) : Gv g mg "is_field" (.fn 14) := ⟨.ref (a 14), .ref (a 14), T.m14, rfl, fun _ _ => ⟨a 14, T.p14, rfl⟩⟩
theorem Txt.v8 (T : Txt g w mg a) : Gv g mg "is_kind" (.fn 8) := ⟨.ref (a 8), .ref (a 8), T.m8, rfl, fun _ _ => ⟨a 8, T.p8, rfl⟩⟩
theorem Txt.v5 (T : Txt g w mg a) : Gv g mg "is_name" (.fn 5) := ⟨.ref (a 5), .ref (a 5), T.m5, rfl, fun _ _ => ⟨a 5, T.p5, rfl⟩⟩
theorem Txt.v2 (T : Txt g w mg a) : Gv g mg "is_number" (.fn 2) := ⟨.ref (a 2), .ref (a 2), T.m2, rfl, fun _ _ => ⟨a 2, T.p2, rfl⟩⟩
theorem Txt.v21 (T : Txt g w mg a) : Gv g mg "is_part" (.fn 21) := ⟨.ref (a 21), .ref (a 21), T.m21, rfl, fun _ _ => ⟨a 21, T.p21, rfl⟩⟩
theorem Txt.v20 (T : Txt g w mg a) : Gv g mg "is_row" (.fn 20) := ⟨.ref (a 20), .ref (a 20), T.m20, rfl, fun _ _ => ⟨a 20, T.p20, rfl⟩⟩
theorem Txt.v15 (T : Txt g w mg a) : Gv g mg "is_signature" (.fn 15) := ⟨.ref (a 15), .ref (a 15), T.m15, rfl, fun _ _ => ⟨a 15, T.p15, rfl⟩⟩
theorem Txt.v10 (T : Txt g w mg a) : Gv g mg "is_tuple" (.fn 10) := ⟨.ref (a 10), .ref (a 10), T.m10, rfl, fun _ _ => ⟨a 10, T.p10, rfl⟩⟩
theorem Txt.v6 (T : Txt g w mg a) : Gv g mg "is_type" (.fn 6) := ⟨.ref (a 6), .ref (a 6), T.m6, rfl, fun _ _ => ⟨a 6, T.p6, rfl⟩⟩
theorem Txt.v7 (T : Txt g w mg a) : Gv g mg "is_unit" (.fn 7) := ⟨.ref (a 7), .ref (a 7), T.m7, rfl, fun _ _ => ⟨a 7, T.p7, rfl⟩⟩
theorem Txt.v4 (T : Txt g w mg a) : Gv g mg "is_unit_name" (.fn 4) := ⟨.ref (a 4), .ref (a 4), T.m4, rfl, fun _ _ => ⟨a 4, T.p4, rfl⟩⟩
theorem Txt.v16 (T : Txt g w mg a) : Gv g mg "is_way" (.fn 16) := ⟨.ref (a 16), .ref (a 16), T.m16, rfl, fun _ _ => ⟨a 16, T.p16, rfl⟩⟩
theorem Txt.v0 (T : Txt g w mg a) : Gv g mg "is_whole" (.fn 0) := ⟨.ref (a 0), .ref (a 0), T.m0, rfl, fun _ _ => ⟨a 0, T.p0, rfl⟩⟩
theorem Txt.v1 (T : Txt g w mg a) : Gv g mg "is_within" (.fn 1) := ⟨.ref (a 1), .ref (a 1), T.m1, rfl, fun _ _ => ⟨a 1, T.p1, rfl⟩⟩
theorem sc0 : FnScope ["thing"] ["thing"] (defScope (top 20)) := ⟨rfl, rfl, rfl, by decide +kernel, rfl, by decide +kernel, by decide +kernel⟩
theorem bd0 (T : Txt g w mg a) {f : Addr} {cdv : Value} {A : Around} {outer : List Env} {s : Shared} {H : Hp} {E : XK} (G : Gd (cxOf CX0 P w g.K mg base ["thing"] "is_whole" (defScope (top 20)) f cdv A outer s H E).nox g W0 CX0 cal k) :
    PSs (cxOf CX0 P w g.K mg base ["thing"] "is_whole" (defScope (top 20)) f cdv A outer s H E).nox (defBody (top 20)) (rS g W0 (exSs cal b0)) :=
    (ss_cons (s_ret (e_and (e_isi .int boot_int G.K T.b_isinstance T.b_int (e_var 0)) (e_one (e_not (e_isi .bool boot_bool G.K T.b_isinstance T.b_bool (e_var 0))))))
    ss_nil)
theorem sc1 : FnScope ["thing", "low", "high"] ["thing", "low", "high"] (defScope (top 21)) := ⟨rfl, rfl, rfl, by decide +kernel, rfl, by decide +kernel, by decide +kernel⟩
theorem bd1 (T : Txt g w mg a) {f : Addr} {cdv : Value} {A : Around} {outer : List Env} {s : Shared} {H : Hp} {E : XK} (G : Gd (cxOf CX0 P w g.K mg base ["thing", "low", "high"] "is_within" (defScope (top 21)) f cdv A outer s H E).nox g W0 CX0 cal k) :
    PSs (cxOf CX0 P w g.K mg base ["thing", "low", "high"] "is_within" (defScope (top 21)) f cdv A outer s H E).nox (defBody (top 21)) (rS g W0 (exSs cal b1)) :=
    (ss_cons (s_ret (e_and (e_call G T.p0 T.m0 (a_cons (e_var 0) a_nil)) (e_one (e_ch (c_le G) (c_le G) (e_var 1) (e_var 0) (e_var 2)))))
    ss_nil)
theorem sc2 : FnScope ["thing"] ["thing"] (defScope (top 22)) := ⟨rfl, rfl, rfl, by decide +kernel, rfl, by decide +kernel, by decide +kernel⟩
theorem bd2 (T : Txt g w mg a) {f : Addr} {cdv : Value} {A : Around} {outer : List Env} {s : Shared} {H : Hp} {E : XK} (G : Gd (cxOf CX0 P w g.K mg base ["thing"] "is_number" (defScope (top 22)) f cdv A outer s H E).nox g W0 CX0 cal k) :
    PSs (cxOf CX0 P w g.K mg base ["thing"] "is_number" (defScope (top 22)) f cdv A outer s H E).nox (defBody (top 22)) (rS g W0 (exSs cal b2)) :=
    (ss_cons (s_ret (e_call G T.p1 T.m1 (a_cons (e_var 0) (a_cons (e_neg (e_glob T.c_REACH)) (a_cons (e_sub G (e_glob T.c_REACH) e_int) a_nil)))))
    ss_nil)
theorem sc3 : FnScope ["thing", "firsts", "sign"] ["thing", "firsts"] (defScope (top 23)) := ⟨rfl, rfl, rfl, by decide +kernel, rfl, by decide +kernel, by decide +kernel⟩
theorem bd3 (T : Txt g w mg a) {f : Addr} {cdv : Value} {A : Around} {outer : List Env} {s : Shared} {H : Hp} {E : XK} (G : Gd (cxOf CX0 P w g.K mg base ["thing", "firsts", "sign"] "begins_with" (defScope (top 23)) f cdv A outer s H E).nox g W0 CX0 cal k) :
    PSs (cxOf CX0 P w g.K mg base ["thing", "firsts", "sign"] "begins_with" (defScope (top 23)) f cdv A outer s H E).nox (defBody (top 23)) (rS g W0 (exSs cal b3)) :=
    (ss_cons (s_ite (t_w (w_or (t_not (t_val (e_isi .str boot_str G.K T.b_isinstance T.b_str (e_var 0)))) (w_or1 (t_not (t_ch (c_le G) (c_le G) e_int (e_len G.K T.b_len (e_var 0)) (e_glob T.c_SIGNS)))))) (ss_cons (s_ret e_bl)
    ss_nil) ss_nil)
    (ss_cons (s_ret (e_and (e_c (c_in G) (e_idx G.K (e_var 0) e_int) (e_var 1)) (e_one (e_all G.calm G.K T.b_all (l_lc [("sign", 2)] G (i_str (e_slice G.K (e_var 0) pt_int pt_none)) (by rfl) (fun _ _ _ _ _ => g_one 2 G.nd) (fun _ _ _ _ _ G => (e_c (c_in G) (e_var 2) (e_glob T.c_BEHIND))))))))
    ss_nil))
theorem sc4 : FnScope ["thing"] ["thing"] (defScope (top 24)) := ⟨rfl, rfl, rfl, by decide +kernel, rfl, by decide +kernel, by decide +kernel⟩
theorem bd4 (T : Txt g w mg a) {f : Addr} {cdv : Value} {A : Around} {outer : List Env} {s : Shared} {H : Hp} {E : XK} (G : Gd (cxOf CX0 P w g.K mg base ["thing"] "is_unit_name" (defScope (top 24)) f cdv A outer s H E).nox g W0 CX0 cal k) :
    PSs (cxOf CX0 P w g.K mg base ["thing"] "is_unit_name" (defScope (top 24)) f cdv A outer s H E).nox (defBody (top 24)) (rS g W0 (exSs cal b4)) :=
    (ss_cons (s_ret (e_call G T.p3 T.m3 (a_cons (e_var 0) (a_cons (e_glob T.c_CAPITALS) a_nil))))
    ss_nil)
theorem sc5 : FnScope ["thing"] ["thing"] (defScope (top 25)) := ⟨rfl, rfl, rfl, by decide +kernel, rfl, by decide +kernel, by decide +kernel⟩
theorem bd5 (T : Txt g w mg a) {f : Addr} {cdv : Value} {A : Around} {outer : List Env} {s : Shared} {H : Hp} {E : XK} (G : Gd (cxOf CX0 P w g.K mg base ["thing"] "is_name" (defScope (top 25)) f cdv A outer s H E).nox g W0 CX0 cal k) :
    PSs (cxOf CX0 P w g.K mg base ["thing"] "is_name" (defScope (top 25)) f cdv A outer s H E).nox (defBody (top 25)) (rS g W0 (exSs cal b5)) :=
    (ss_cons (s_ret (e_call G T.p3 T.m3 (a_cons (e_var 0) (a_cons (e_glob T.c_SMALLS) a_nil))))
    ss_nil)
theorem sc6 : FnScope ["thing"] ["thing"] (defScope (top 26)) := ⟨rfl, rfl, rfl, by decide +kernel, rfl, by decide +kernel, by decide +kernel⟩
theorem bd6 (T : Txt g w mg a) {f : Addr} {cdv : Value} {A : Around} {outer : List Env} {s : Shared} {H : Hp} {E : XK} (G : Gd (cxOf CX0 P w g.K mg base ["thing"] "is_type" (defScope (top 26)) f cdv A outer s H E).nox g W0 CX0 cal k) :
    PSs (cxOf CX0 P w g.K mg base ["thing"] "is_type" (defScope (top 26)) f cdv A outer s H E).nox (defBody (top 26)) (rS g W0 (exSs cal b6)) :=
    (ss_cons (s_ret (e_or (e_c (c_eq G) (e_var 0) e_str) (e_one (e_call G T.p4 T.m4 (a_cons (e_var 0) a_nil)))))
    ss_nil)
theorem sc7 : FnScope ["thing"] ["thing"] (defScope (top 29)) := ⟨rfl, rfl, rfl, by decide +kernel, rfl, by decide +kernel, by decide +kernel⟩
theorem bd7 (T : Txt g w mg a) {f : Addr} {cdv : Value} {A : Around} {outer : List Env} {s : Shared} {H : Hp} {E : XK} (G : Gd (cxOf CX0 P w g.K mg base ["thing"] "is_unit" (defScope (top 29)) f cdv A outer s H E).nox g W0 CX0 cal k) :
    PSs (cxOf CX0 P w g.K mg base ["thing"] "is_unit" (defScope (top 29)) f cdv A outer s H E).nox (defBody (top 29)) (rS g W0 (exSs cal b7)) :=
    (ss_cons (s_ret (e_or (e_call G T.p8 T.m8 (a_cons (e_var 0) a_nil)) (e_one (e_call G T.p9 T.m9 (a_cons (e_var 0) a_nil)))))
    ss_nil)
theorem sc8 : FnScope ["thing", "_", "name", "above", "faces", "fields", "ways"] ["thing"] (defScope (top 30)) := ⟨rfl, rfl, rfl, by decide +kernel, rfl, by decide +kernel, by decide +kernel⟩
theorem bd8 (T : Txt g w mg a) {f : Addr} {cdv : Value} {A : Around} {outer : List Env} {s : Shared} {H : Hp} {E : XK} (G : Gd (cxOf CX0 P w g.K mg base ["thing", "_", "name", "above", "faces", "fields", "ways"] "is_kind" (defScope (top 30)) f cdv A outer s H E).nox g W0 CX0 cal k) :
    PSs (cxOf CX0 P w g.K mg base ["thing", "_", "name", "above", "faces", "fields", "ways"] "is_kind" (defScope (top 30)) f cdv A outer s H E).nox (defBody (top 30)) (rS g W0 (exSs cal b8)) :=
    (ss_cons (s_ite (t_w (w_or (t_not (t_val (e_call G T.p10 T.m10 (a_cons (e_var 0) (a_cons e_int (a_cons e_int a_nil)))))) (w_or1 (t_c (c_ne G) (e_idx G.K (e_var 0) e_int) e_str)))) (ss_cons (s_ret e_bl)
    ss_nil) ss_nil)
    (ss_cons (s_unp (e_var 0) (g_tup G.K G.calm (g_cons 1 G.nd (g_cons 2 G.nd (g_cons 3 G.nd (g_cons 4 G.nd (g_cons 5 G.nd (g_cons 6 G.nd g_nil))))))))
    (ss_cons (s_ret (e_and (e_call G T.p4 T.m4 (a_cons (e_var 2) a_nil)) (e_and (e_or (e_c (c_eq G) (e_var 3) e_str) (e_one (e_call G T.p4 T.m4 (a_cons (e_var 3) a_nil)))) (e_and (e_call G T.p13 T.m13 (a_cons (e_var 4) a_nil)) (e_and (e_call G T.p12 T.m12 (a_cons (e_var 5) (a_cons e_int (a_cons (e_glob T.c_FIELDS) (a_cons (e_glob T.v14) a_nil))))) (e_one (e_call G T.p12 T.m12 (a_cons (e_var 6) (a_cons e_int (a_cons (e_glob T.c_WAYS) (a_cons (e_glob T.v16) a_nil)))))))))))
    ss_nil)))
theorem sc9 : FnScope ["thing", "_", "name", "signatures"] ["thing"] (defScope (top 31)) := ⟨rfl, rfl, rfl, by decide +kernel, rfl, by decide +kernel, by decide +kernel⟩
theorem bd9 (T : Txt g w mg a) {f : Addr} {cdv : Value} {A : Around} {outer : List Env} {s : Shared} {H : Hp} {E : XK} (G : Gd (cxOf CX0 P w g.K mg base ["thing", "_", "name", "signatures"] "is_face" (defScope (top 31)) f cdv A outer s H E).nox g W0 CX0 cal k) :
    PSs (cxOf CX0 P w g.K mg base ["thing", "_", "name", "signatures"] "is_face" (defScope (top 31)) f cdv A outer s H E).nox (defBody (top 31)) (rS g W0 (exSs cal b9)) :=
    (ss_cons (s_ite (t_w (w_or (t_not (t_val (e_call G T.p10 T.m10 (a_cons (e_var 0) (a_cons e_int (a_cons e_int a_nil)))))) (w_or1 (t_c (c_ne G) (e_idx G.K (e_var 0) e_int) e_str)))) (ss_cons (s_ret e_bl)
    ss_nil) ss_nil)
    (ss_cons (s_unp (e_var 0) (g_tup G.K G.calm (g_cons 1 G.nd (g_cons 2 G.nd (g_cons 3 G.nd g_nil)))))
    (ss_cons (s_ret (e_and (e_call G T.p4 T.m4 (a_cons (e_var 2) a_nil)) (e_one (e_call G T.p12 T.m12 (a_cons (e_var 3) (a_cons e_int (a_cons (e_glob T.c_SIGNATURES) (a_cons (e_glob T.v15) a_nil))))))))
    ss_nil)))
theorem sc10 : FnScope ["thing", "low", "high"] ["thing", "low", "high"] (defScope (top 32)) := ⟨rfl, rfl, rfl, by decide +kernel, rfl, by decide +kernel, by decide +kernel⟩
theorem bd10 (T : Txt g w mg a) {f : Addr} {cdv : Value} {A : Around} {outer : List Env} {s : Shared} {H : Hp} {E : XK} (G : Gd (cxOf CX0 P w g.K mg base ["thing", "low", "high"] "is_tuple" (defScope (top 32)) f cdv A outer s H E).nox g W0 CX0 cal k) :
    PSs (cxOf CX0 P w g.K mg base ["thing", "low", "high"] "is_tuple" (defScope (top 32)) f cdv A outer s H E).nox (defBody (top 32)) (rS g W0 (exSs cal b10)) :=
    (ss_cons (s_ret (e_and (e_isi .tuple boot_tuple G.K T.b_isinstance T.b_tuple (e_var 0)) (e_one (e_ch (c_le G) (c_le G) (e_var 1) (e_len G.K T.b_len (e_var 0)) (e_var 2)))))
    ss_nil)
theorem sc11 : FnScope ["thing", "low", "high", "holds", "part"] ["thing", "low", "high", "holds"] (defScope (top 33)) := ⟨rfl, rfl, rfl, by decide +kernel, rfl, by decide +kernel, by decide +kernel⟩
theorem bd11 (T : Txt g w mg a) {f : Addr} {cdv : Value} {A : Around} {outer : List Env} {s : Shared} {H : Hp} {E : XK} (G : Gd (cxOf CX0 P w g.K mg base ["thing", "low", "high", "holds", "part"] "are_all" (defScope (top 33)) f cdv A outer s H E).nox g W0 CX0 cal k) :
    PSs (cxOf CX0 P w g.K mg base ["thing", "low", "high", "holds", "part"] "are_all" (defScope (top 33)) f cdv A outer s H E).nox (defBody (top 33)) (rS g W0 (exSs cal b11)) :=
    (ss_cons (s_ret (e_and (e_call G T.p10 T.m10 (a_cons (e_var 0) (a_cons (e_var 1) (a_cons (e_var 2) a_nil)))) (e_one (e_all G.calm G.K T.b_all (l_lc [("part", 4)] G (i_tup G.K (e_var 0)) (by rfl) (fun _ _ _ _ _ => g_one 4 G.nd) (fun _ _ _ _ _ G => (e_callv 3 G (a_cons (e_var 4) a_nil))))))))
    ss_nil)
theorem sc12 : FnScope ["thing", "low", "high", "holds", "part"] ["thing", "low", "high", "holds"] (defScope (top 34)) := ⟨rfl, rfl, rfl, by decide +kernel, rfl, by decide +kernel, by decide +kernel⟩
theorem bd12 (T : Txt g w mg a) {f : Addr} {cdv : Value} {A : Around} {outer : List Env} {s : Shared} {H : Hp} {E : XK} (G : Gd (cxOf CX0 P w g.K mg base ["thing", "low", "high", "holds", "part"] "are_named" (defScope (top 34)) f cdv A outer s H E).nox g W0 CX0 cal k) :
    PSs (cxOf CX0 P w g.K mg base ["thing", "low", "high", "holds", "part"] "are_named" (defScope (top 34)) f cdv A outer s H E).nox (defBody (top 34)) (rS g W0 (exSs cal b12)) :=
    (ss_cons (s_ret (e_and (e_call G T.p11 T.m11 (a_cons (e_var 0) (a_cons (e_var 1) (a_cons (e_var 2) (a_cons (e_var 3) a_nil))))) (e_one (e_c (c_eq G) (e_lensc [("part", 4)] G T.b_len (i_tup G.K (e_var 0)) (by rfl) (fun _ _ _ _ _ => g_one 4 G.nd) (fun _ _ _ _ _ G => (e_idx G.K (e_var 4) e_int))) (e_len G.K T.b_len (e_var 0))))))
    ss_nil)
theorem sc13 : FnScope ["thing"] ["thing"] (defScope (top 35)) := ⟨rfl, rfl, rfl, by decide +kernel, rfl, by decide +kernel, by decide +kernel⟩
theorem bd13 (T : Txt g w mg a) {f : Addr} {cdv : Value} {A : Around} {outer : List Env} {s : Shared} {H : Hp} {E : XK} (G : Gd (cxOf CX0 P w g.K mg base ["thing"] "are_faces" (defScope (top 35)) f cdv A outer s H E).nox g W0 CX0 cal k) :
    PSs (cxOf CX0 P w g.K mg base ["thing"] "are_faces" (defScope (top 35)) f cdv A outer s H E).nox (defBody (top 35)) (rS g W0 (exSs cal b13)) :=
    (ss_cons (s_ret (e_and (e_call G T.p11 T.m11 (a_cons (e_var 0) (a_cons e_int (a_cons (e_glob T.c_FACES) (a_cons (e_glob T.v4) a_nil))))) (e_one (e_c (c_eq G) (e_lenset G.calm G.K T.b_len T.b_set (e_var 0)) (e_len G.K T.b_len (e_var 0))))))
    ss_nil)
theorem sc14 : FnScope ["thing"] ["thing"] (defScope (top 36)) := ⟨rfl, rfl, rfl, by decide +kernel, rfl, by decide +kernel, by decide +kernel⟩
theorem bd14 (T : Txt g w mg a) {f : Addr} {cdv : Value} {A : Around} {outer : List Env} {s : Shared} {H : Hp} {E : XK} (G : Gd (cxOf CX0 P w g.K mg base ["thing"] "is_field" (defScope (top 36)) f cdv A outer s H E).nox g W0 CX0 cal k) :
    PSs (cxOf CX0 P w g.K mg base ["thing"] "is_field" (defScope (top 36)) f cdv A outer s H E).nox (defBody (top 36)) (rS g W0 (exSs cal b14)) :=
    (ss_cons (s_ret (e_and (e_call G T.p10 T.m10 (a_cons (e_var 0) (a_cons e_int (a_cons e_int a_nil)))) (e_and (e_call G T.p5 T.m5 (a_cons (e_idx G.K (e_var 0) e_int) a_nil)) (e_one (e_call G T.p6 T.m6 (a_cons (e_idx G.K (e_var 0) e_int) a_nil))))))
    ss_nil)
theorem sc15 : FnScope ["thing", "name", "takes", "gives"] ["thing"] (defScope (top 37)) := ⟨rfl, rfl, rfl, by decide +kernel, rfl, by decide +kernel, by decide +kernel⟩
theorem bd15 (T : Txt g w mg a) {f : Addr} {cdv : Value} {A : Around} {outer : List Env} {s : Shared} {H : Hp} {E : XK} (G : Gd (cxOf CX0 P w g.K mg base ["thing", "name", "takes", "gives"] "is_signature" (defScope (top 37)) f cdv A outer s H E).nox g W0 CX0 cal k) :
    PSs (cxOf CX0 P w g.K mg base ["thing", "name", "takes", "gives"] "is_signature" (defScope (top 37)) f cdv A outer s H E).nox (defBody (top 37)) (rS g W0 (exSs cal b15)) :=
    (ss_cons (s_ite (t_not (t_val (e_call G T.p10 T.m10 (a_cons (e_var 0) (a_cons e_int (a_cons e_int a_nil)))))) (ss_cons (s_ret e_bl)
    ss_nil) ss_nil)
    (ss_cons (s_unp (e_var 0) (g_tup G.K G.calm (g_cons 1 G.nd (g_cons 2 G.nd (g_cons 3 G.nd g_nil)))))
    (ss_cons (s_ret (e_and (e_call G T.p5 T.m5 (a_cons (e_var 1) a_nil)) (e_and (e_call G T.p11 T.m11 (a_cons (e_var 2) (a_cons e_int (a_cons (e_glob T.c_TAKES) (a_cons (e_glob T.v6) a_nil))))) (e_one (e_call G T.p6 T.m6 (a_cons (e_var 3) a_nil))))))
    ss_nil)))
theorem sc16 : FnScope ["thing", "rows", "entries", "catches", "heights", "row", "catch"] ["thing"] (defScope (top 38)) := ⟨rfl, rfl, rfl, by decide +kernel, rfl, by decide +kernel, by decide +kernel⟩
theorem bd16 (T : Txt g w mg a) {f : Addr} {cdv : Value} {A : Around} {outer : List Env} {s : Shared} {H : Hp} {E : XK} (G : Gd (cxOf CX0 P w g.K mg base ["thing", "rows", "entries", "catches", "heights", "row", "catch"] "is_way" (defScope (top 38)) f cdv A outer s H E).nox g W0 CX0 cal k) :
    PSs (cxOf CX0 P w g.K mg base ["thing", "rows", "entries", "catches", "heights", "row", "catch"] "is_way" (defScope (top 38)) f cdv A outer s H E).nox (defBody (top 38)) (rS g W0 (exSs cal b16)) :=
    (ss_cons (s_ite (t_w (w_or (t_not (t_val (e_call G T.p10 T.m10 (a_cons (e_var 0) (a_cons e_int (a_cons e_int a_nil)))))) (w_or1 (t_not (t_val (e_call G T.p15 T.m15 (a_cons (e_slice G.K (e_var 0) pt_none pt_int) a_nil))))))) (ss_cons (s_ret e_bl)
    ss_nil) ss_nil)
    (ss_cons (s_unp (e_slice G.K (e_var 0) pt_int pt_none) (g_tup G.K G.calm (g_cons 1 G.nd (g_cons 2 G.nd (g_cons 3 G.nd g_nil)))))
    (ss_cons (s_ite (t_w (w_or (t_not (t_val (e_call G T.p10 T.m10 (a_cons (e_var 1) (a_cons e_int (a_cons (e_glob T.c_ROWS) a_nil)))))) (w_or1 (t_not (t_val (e_call G T.p17 T.m17 (a_cons (e_var 2) (a_cons (e_len G.K T.b_len (e_var 1)) a_nil)))))))) (ss_cons (s_ret e_bl)
    ss_nil) ss_nil)
    (ss_cons (s_asg 4 G.nd (e_dictOf G.calm G.K T.b_dict (e_var 2)))
    (ss_cons (s_ret (e_and (e_all G.calm G.K T.b_all (l_lc [("row", 5)] G (i_tup G.K (e_var 1)) (by rfl) (fun _ _ _ _ _ => g_one 5 G.nd) (fun _ _ _ _ _ G => (e_call G T.p20 T.m20 (a_cons (e_var 5) (a_cons (e_var 4) a_nil)))))) (e_and (e_call G T.p10 T.m10 (a_cons (e_var 3) (a_cons e_int (a_cons (e_glob T.c_CATCHES) a_nil)))) (e_one (e_all G.calm G.K T.b_all (l_lc [("catch", 6)] G (i_tup G.K (e_var 3)) (by rfl) (fun _ _ _ _ _ => g_one 6 G.nd) (fun _ _ _ _ _ G => (e_call G T.p19 T.m19 (a_cons (e_var 6) (a_cons (e_len G.K T.b_len (e_var 1)) (a_cons (e_var 4) a_nil)))))))))))
    ss_nil)))))
theorem sc17 : FnScope ["thing", "many", "least", "entry"] ["thing", "many"] (defScope (top 39)) := ⟨rfl, rfl, rfl, by decide +kernel, rfl, by decide +kernel, by decide +kernel⟩
theorem bd17 (T : Txt g w mg a) {f : Addr} {cdv : Value} {A : Around} {outer : List Env} {s : Shared} {H : Hp} {E : XK} (G : Gd (cxOf CX0 P w g.K mg base ["thing", "many", "least", "entry"] "are_entries" (defScope (top 39)) f cdv A outer s H E).nox g W0 CX0 cal k) :
    PSs (cxOf CX0 P w g.K mg base ["thing", "many", "least", "entry"] "are_entries" (defScope (top 39)) f cdv A outer s H E).nox (defBody (top 39)) (rS g W0 (exSs cal b17)) :=
    (ss_cons (s_ite (t_not (t_val (e_call G T.p10 T.m10 (a_cons (e_var 0) (a_cons e_int (a_cons (e_var 1) a_nil)))))) (ss_cons (s_ret e_bl)
    ss_nil) ss_nil)
    (ss_cons (s_asg 2 G.nd e_int)
    (ss_cons (s_for PassesOwn.never G.calm (i_tup G.K (e_var 0)) (g_one 3 G.nd) (ss_cons (s_ite (t_not (t_val (e_call G T.p18 T.m18 (a_cons (e_var 3) (a_cons (e_var 2) (a_cons (e_var 1) a_nil)))))) (ss_cons (s_ret e_bl)
    ss_nil) ss_nil)
    (ss_cons (s_asg 2 G.nd (e_add G (e_idx G.K (e_var 3) e_int) e_int))
    ss_nil)))
    (ss_cons (s_ret e_bl)
    ss_nil))))
theorem sc18 : FnScope ["thing", "least", "many"] ["thing", "least", "many"] (defScope (top 40)) := ⟨rfl, rfl, rfl, by decide +kernel, rfl, by decide +kernel, by decide +kernel⟩
theorem bd18 (T : Txt g w mg a) {f : Addr} {cdv : Value} {A : Around} {outer : List Env} {s : Shared} {H : Hp} {E : XK} (G : Gd (cxOf CX0 P w g.K mg base ["thing", "least", "many"] "is_entry" (defScope (top 40)) f cdv A outer s H E).nox g W0 CX0 cal k) :
    PSs (cxOf CX0 P w g.K mg base ["thing", "least", "many"] "is_entry" (defScope (top 40)) f cdv A outer s H E).nox (defBody (top 40)) (rS g W0 (exSs cal b18)) :=
    (ss_cons (s_ret (e_and (e_call G T.p10 T.m10 (a_cons (e_var 0) (a_cons e_int (a_cons e_int a_nil)))) (e_and (e_call G T.p1 T.m1 (a_cons (e_idx G.K (e_var 0) e_int) (a_cons (e_var 1) (a_cons (e_sub G (e_var 2) e_int) a_nil)))) (e_one (e_call G T.p1 T.m1 (a_cons (e_idx G.K (e_var 0) e_int) (a_cons e_int (a_cons (e_glob T.c_STACK) a_nil))))))))
    ss_nil)
theorem sc19 : FnScope ["thing", "many", "heights", "first", "end", "at"] ["thing", "many", "heights"] (defScope (top 41)) := ⟨rfl, rfl, rfl, by decide +kernel, rfl, by decide +kernel, by decide +kernel⟩
theorem bd19 (T : Txt g w mg a) {f : Addr} {cdv : Value} {A : Around} {outer : List Env} {s : Shared} {H : Hp} {E : XK} (G : Gd (cxOf CX0 P w g.K mg base ["thing", "many", "heights", "first", "end", "at"] "is_catch" (defScope (top 41)) f cdv A outer s H E).nox g W0 CX0 cal k) :
    PSs (cxOf CX0 P w g.K mg base ["thing", "many", "heights", "first", "end", "at"] "is_catch" (defScope (top 41)) f cdv A outer s H E).nox (defBody (top 41)) (rS g W0 (exSs cal b19)) :=
    (ss_cons (s_ite (t_not (t_val (e_call G T.p10 T.m10 (a_cons (e_var 0) (a_cons e_int (a_cons e_int a_nil)))))) (ss_cons (s_ret e_bl)
    ss_nil) ss_nil)
    (ss_cons (s_unp (e_var 0) (g_tup G.K G.calm (g_cons 3 G.nd (g_cons 4 G.nd (g_cons 5 G.nd g_nil)))))
    (ss_cons (s_ret (e_and (e_call G T.p1 T.m1 (a_cons (e_var 3) (a_cons e_int (a_cons (e_var 1) a_nil)))) (e_and (e_call G T.p1 T.m1 (a_cons (e_var 4) (a_cons (e_add G (e_var 3) e_int) (a_cons (e_var 1) a_nil)))) (e_and (e_call G T.p0 T.m0 (a_cons (e_var 5) a_nil)) (e_one (e_c (c_eq G) (e_dget G (e_var 2) (e_var 5)) e_int))))))
    ss_nil)))
theorem sc20 : FnScope ["thing", "heights", "sorts", "sort", "part"] ["thing", "heights"] (defScope (top 42)) := ⟨rfl, rfl, rfl, by decide +kernel, rfl, by decide +kernel, by decide +kernel⟩
theorem bd20 (T : Txt g w mg a) {f : Addr} {cdv : Value} {A : Around} {outer : List Env} {s : Shared} {H : Hp} {E : XK} (G : Gd (cxOf CX0 P w g.K mg base ["thing", "heights", "sorts", "sort", "part"] "is_row" (defScope (top 42)) f cdv A outer s H E).nox g W0 CX0 cal k) :
    PSs (cxOf CX0 P w g.K mg base ["thing", "heights", "sorts", "sort", "part"] "is_row" (defScope (top 42)) f cdv A outer s H E).nox (defBody (top 42)) (rS g W0 (exSs cal b20)) :=
    (ss_cons (s_ite (t_w (w_or (t_not (t_val (e_call G T.p10 T.m10 (a_cons (e_var 0) (a_cons e_int (a_cons e_int a_nil)))))) (w_or1 (t_not (t_val (e_isi .str boot_str G.K T.b_isinstance T.b_str (e_idx G.K (e_var 0) e_int))))))) (ss_cons (s_ret e_bl)
    ss_nil) ss_nil)
    (ss_cons (s_asg 2 G.nd (e_wget T.d_PARTS G.K (e_idx G.K (e_var 0) e_int)))
    (ss_cons (s_ite (t_w (w_or (t_c (c_is G) (e_var 2) e_non) (w_or1 (t_c (c_ne G) (e_len G.K T.b_len (e_var 0)) (e_add G (e_len G.K T.b_len (e_var 2)) e_int))))) (ss_cons (s_ret e_bl)
    ss_nil) ss_nil)
    (ss_cons (s_ret (e_all G.calm G.K T.b_all (l_lc [("sort", 3), ("part", 4)] G (i_zip G.K T.b_zip (e_var 2) (e_slice G.K (e_var 0) pt_int pt_none)) (by rfl) (fun _ _ _ _ _ => g_tup G.K G.calm (g_cons 3 G.nd (g_cons 4 G.nd g_nil))) (fun _ _ _ _ _ G => (e_call G T.p21 T.m21 (a_cons (e_var 3) (a_cons (e_var 4) (a_cons (e_var 1) a_nil))))))))
    ss_nil))))
theorem sc21 : FnScope ["sort", "part", "heights"] ["sort", "part", "heights"] (defScope (top 43)) := ⟨rfl, rfl, rfl, by decide +kernel, rfl, by decide +kernel, by decide +kernel⟩
theorem bd21 (T : Txt g w mg a) {f : Addr} {cdv : Value} {A : Around} {outer : List Env} {s : Shared} {H : Hp} {E : XK} (G : Gd (cxOf CX0 P w g.K mg base ["sort", "part", "heights"] "is_part" (defScope (top 43)) f cdv A outer s H E).nox g W0 CX0 cal k) :
    PSs (cxOf CX0 P w g.K mg base ["sort", "part", "heights"] "is_part" (defScope (top 43)) f cdv A outer s H E).nox (defBody (top 43)) (rS g W0 (exSs cal b21)) :=
    (ss_cons (s_ite (t_c (c_eq G) (e_var 0) e_str) (ss_cons (s_ret (e_call G T.p2 T.m2 (a_cons (e_var 1) a_nil)))
    ss_nil) ss_nil)
    (ss_cons (s_ite (t_c (c_eq G) (e_var 0) e_str) (ss_cons (s_ret (e_call G T.p1 T.m1 (a_cons (e_var 1) (a_cons e_int (a_cons (e_sub G (e_glob T.c_BOXES) e_int) a_nil)))))
    ss_nil) ss_nil)
    (ss_cons (s_ite (t_c (c_eq G) (e_var 0) e_str) (ss_cons (s_ret (e_call G T.p4 T.m4 (a_cons (e_var 1) a_nil)))
    ss_nil) ss_nil)
    (ss_cons (s_ite (t_c (c_eq G) (e_var 0) e_str) (ss_cons (s_ret (e_call G T.p5 T.m5 (a_cons (e_var 1) a_nil)))
    ss_nil) ss_nil)
    (ss_cons (s_ret (e_and (e_call G T.p0 T.m0 (a_cons (e_var 1) a_nil)) (e_one (e_c (c_in G) (e_var 1) (e_var 2)))))
    ss_nil)))))
theorem sc22 : FnScope ["_law_stream", "_law_many", "_law_number"] ["_law_stream", "_law_many"] (defScope (top 45)) := ⟨rfl, rfl, rfl, by decide +kernel, rfl, by decide +kernel, by decide +kernel⟩
theorem bd22 (T : Txt g w mg a) {f : Addr} {cdv : Value} {A : Around} {outer : List Env} {s : Shared} {H : Hp} {E : XK} (G : Gd (cxOf CX0 P w g.K mg base ["_law_stream", "_law_many", "_law_number"] "_law_draw" (defScope (top 45)) f cdv A outer s H E).nox g W0 CX0 cal k) :
    PSs (cxOf CX0 P w g.K mg base ["_law_stream", "_law_many", "_law_number"] "_law_draw" (defScope (top 45)) f cdv A outer s H E).nox (defBody (top 45)) (rS g W0 (exSs cal b22)) :=
    (ss_cons (s_setI (e_add G (e_idx G.K (e_var 0) e_int) e_int) (e_var 0) e_int)
    (ss_cons (s_ite (t_w (w_and (t_c (c_eq G) (e_idx G.K (e_var 0) e_int) e_int) (w_and1 (t_neL G (e_idx G.K (e_var 0) e_int) (l_disp a_nil))))) (ss_cons (s_setI (e_popAt G.K (e_idx G.K (e_var 0) e_int) e_int) (e_var 0) e_int)
    (ss_cons (s_ite (t_c (c_lt G) (e_idx G.K (e_var 0) e_int) (e_pow G e_int e_int)) (ss_cons (s_setI (e_mod G (e_add G (e_mul G (e_idx G.K (e_var 0) e_int) e_int) (e_idx G.K (e_var 0) e_int)) e_int) (e_var 0) e_int)
    (ss_cons (s_setI e_int (e_var 0) e_int)
    ss_nil)) ss_nil)
    ss_nil)) ss_nil)
    (ss_cons (s_ite (t_c (c_gt G) (e_idx G.K (e_var 0) e_int) e_int) (ss_cons (s_asg 2 G.nd (e_mod G (e_idx G.K (e_var 0) e_int) (e_var 1)))
    (ss_cons (s_setI (e_fdiv G (e_idx G.K (e_var 0) e_int) (e_var 1)) (e_var 0) e_int)
    (ss_cons (s_ret (e_var 2))
    ss_nil))) ss_nil)
    (ss_cons (s_asg 2 G.nd (e_mod G (e_pow G (e_add G (e_add G (e_idx G.K (e_var 0) e_int) (e_mul G e_int (e_idx G.K (e_var 0) e_int))) e_int) e_int) e_int))
    (ss_cons (s_ret (e_mod G (e_mod G (e_mul G (e_add G (e_var 2) (e_idx G.K (e_var 0) e_int)) e_int) e_int) (e_var 1)))
    ss_nil)))))
theorem sc23 : FnScope ["_law_st", "_law_word"] ["_law_st", "_law_word"] (defScope (top 46)) := ⟨rfl, rfl, rfl, by decide +kernel, rfl, by decide +kernel, by decide +kernel⟩
theorem bd23 (T : Txt g w mg a) {f : Addr} {cdv : Value} {A : Around} {outer : List Env} {s : Shared} {H : Hp} {E : XK} (G : Gd (cxOf CX0 P w g.K mg base ["_law_st", "_law_word"] "_law_row" (defScope (top 46)) f cdv A outer s H E).nox g W0 CX0 cal k) :
    PSs (cxOf CX0 P w g.K mg base ["_law_st", "_law_word"] "_law_row" (defScope (top 46)) f cdv A outer s H E).nox (defBody (top 46)) (rS g W0 (exSs cal b23)) :=
    (ss_cons (s_ite (t_c (c_eq G) (e_var 1) e_str) (ss_cons (s_ret (e_tup (a_cons (e_var 1) (a_cons (e_idxL G.K (l_disp (a_cons (e_sub G (e_glob T.c_REACH) e_int) (a_cons (e_sub G e_int (e_glob T.c_REACH)) (a_cons (e_call G T.p22 T.m22 (a_cons (e_var 0) (a_cons (e_glob T.c_REACH) a_nil))) a_nil)))) (e_call G T.p22 T.m22 (a_cons (e_var 0) (a_cons e_int a_nil)))) a_nil))))
    ss_nil) ss_nil)
    (ss_cons (s_ite (t_c (c_in G) (e_var 1) (e_tup (a_cons e_str (a_cons e_str a_nil)))) (ss_cons (s_ret (e_tup (a_cons (e_var 1) (a_cons (e_call G T.p22 T.m22 (a_cons (e_var 0) (a_cons (e_glob T.c_BOXES) a_nil))) a_nil))))
    ss_nil) ss_nil)
    (ss_cons (s_ite (t_c (c_in G) (e_var 1) (e_tup (a_cons e_str (a_cons e_str a_nil)))) (ss_cons (s_ret (e_tup (a_cons (e_var 1) (a_cons e_str a_nil))))
    ss_nil) ss_nil)
    (ss_cons (s_ite (t_c (c_in G) (e_var 1) (e_tup (a_cons e_str (a_cons e_str (a_cons e_str (a_cons e_str a_nil)))))) (ss_cons (s_ret (e_tup (a_cons (e_var 1) (a_cons e_str (a_cons e_str a_nil)))))
    ss_nil) ss_nil)
    (ss_cons (s_ret (e_idxL G.K (l_disp (a_cons (e_tup (a_cons (e_var 1) a_nil)) (a_cons (e_tup (a_cons (e_var 1) (a_cons e_int a_nil))) a_nil))) (e_toInt T.b_int (e_c (c_in G) (e_var 1) (e_tup (a_cons e_str (a_cons e_str a_nil)))))))
    ss_nil)))))
theorem sc24 : FnScope ["_law_rows", "_law_high"] ["_law_rows", "_law_high"] (defScope (top 47)) := ⟨rfl, rfl, rfl, by decide +kernel, rfl, by decide +kernel, by decide +kernel⟩
theorem bd24 (T : Txt g w mg a) {f : Addr} {cdv : Value} {A : Around} {outer : List Env} {s : Shared} {H : Hp} {E : XK} (G : Gd (cxOf CX0 P w g.K mg base ["_law_rows", "_law_high"] "_law_unit" (defScope (top 47)) f cdv A outer s H E).nox g W0 CX0 cal k) :
    PSs (cxOf CX0 P w g.K mg base ["_law_rows", "_law_high"] "_law_unit" (defScope (top 47)) f cdv A outer s H E).nox (defBody (top 47)) (rS g W0 (exSs cal b24)) :=
    (ss_cons (s_ret (e_tup (a_cons e_str (a_cons e_str (a_cons e_str (a_cons (e_tup a_nil) (a_cons (e_tup a_nil) (a_cons (e_tup (a_cons (e_tup (a_cons e_str (a_cons (e_tup a_nil) (a_cons e_str (a_cons (e_tupOf G.K T.b_tuple (e_var 0)) (a_cons (e_tup (a_cons (e_tup (a_cons e_int (a_cons (e_var 1) a_nil))) a_nil)) (a_cons (e_tup a_nil) a_nil))))))) a_nil)) a_nil))))))))
    ss_nil)
theorem sc25 : FnScope ["_law_script", "_law_st", "_law_told", "_law_words", "_law_rows", "_law_more", "_law_one", "_law_word", "_law_k"] ["_law_script"] (defScope (top 48)) := ⟨rfl, rfl, rfl, by decide +kernel, rfl, by decide +kernel, by decide +kernel⟩
theorem bd25 (T : Txt g w mg a) {f : Addr} {cdv : Value} {A : Around} {outer : List Env} {s : Shared} {H : Hp} {E : XK} (G : Gd (cxOf CX0 P w g.K mg base ["_law_script", "_law_st", "_law_told", "_law_words", "_law_rows", "_law_more", "_law_one", "_law_word", "_law_k"] "law" (defScope (top 48)) f cdv A outer s H E).nox g W0 CX0 cal k) :
    PSs (cxOf CX0 P w g.K mg base ["_law_script", "_law_st", "_law_told", "_law_words", "_law_rows", "_law_more", "_law_one", "_law_word", "_law_k"] "law" (defScope (top 48)) f cdv A outer s H E).nox (defBody (top 48)) (rS g W0 (exSs cal b25)) :=
    (ss_cons (s_asg 1 G.nd (e_lst (l_disp (a_cons (e_lst (l_of G.K T.b_list (e_var 0))) (a_cons e_int (a_cons e_int (a_cons e_int a_nil)))))))
    (ss_cons (s_asg 2 G.nd (e_lst (l_disp (a_cons (e_glob T.c_REACH) (a_cons (e_glob T.c_BOXES) (a_cons (e_glob T.c_STACK) (a_cons (e_glob T.c_ROWS) (a_cons (e_glob T.c_REGISTERS) (a_cons (e_glob T.c_FRAMES) (a_cons (e_glob T.c_ROOM) (a_cons (e_glob T.c_MOST) a_nil)))))))))))
    (ss_cons (s_ite (t_w (w_or (t_neL G (e_var 2) (l_disp (a_cons (e_pow G e_int e_int) (a_cons e_int (a_cons e_int (a_cons e_int (a_cons e_int (a_cons e_int (a_cons e_int (a_cons e_int a_nil)))))))))) (w_or1 (t_val (e_any G.calm G.K T.b_any (l_lc [("_law_one", 6)] G (i_lst G.K (e_var 2)) (by rfl) (fun _ _ _ _ _ => g_one 6 G.nd) (fun _ _ _ _ _ G => (e_isi .bool boot_bool G.K T.b_isinstance T.b_bool (e_var 6))))))))) (ss_cons (s_ret e_bl)
    ss_nil) ss_nil)
    (ss_cons (s_asg 3 G.nd e_str)
    (ss_cons (s_asg 3 G.nd (e_add G (e_var 3) e_str))
    (ss_cons (s_ite (t_w (w_or (t_not (t_val (e_isi .tuple boot_tuple G.K T.b_isinstance T.b_tuple (e_glob T.c_WORDS)))) (w_or1 (t_neLL G (l_of G.K T.b_list (e_glob T.c_WORDS)) (l_split (e_var 3)))))) (ss_cons (s_ret e_bl)
    ss_nil) ss_nil)
    (ss_cons (s_asgLc 4 [("_law_word", 7)] G (i_tup G.K (e_glob T.c_WORDS)) (by rfl) (fun _ _ _ _ _ => g_one 7 G.nd) (fun _ _ _ _ _ G => (e_call G T.p23 T.m23 (a_cons (e_var 1) (a_cons (e_var 7) a_nil)))) (sw_true rfl rfl rfl (by decide +kernel)))
    (ss_cons (s_asgLc 5 [("_law_k", 8)] G (i_rng T.b_range (e_sub G (e_glob T.c_ROWS) (e_len G.K T.b_len (e_var 4)))) (by rfl) (fun _ _ _ _ _ => g_one 8 G.nd) (fun _ _ _ _ _ G => (e_call G T.p23 T.m23 (a_cons (e_var 1) (a_cons (e_idx G.K (e_glob T.c_WORDS) (e_call G T.p22 T.m22 (a_cons (e_var 1) (a_cons (e_len G.K T.b_len (e_glob T.c_WORDS)) a_nil)))) a_nil)))) (sw_true rfl rfl rfl (by decide +kernel)))
    (ss_cons (s_ite (t_w (w_or (t_c (c_isnot G) (e_call G T.p7 T.m7 (a_cons (e_call G T.p24 T.m24 (a_cons (e_lst (l_cat (e_var 4) (e_var 5))) (a_cons (e_glob T.c_STACK) a_nil))) a_nil)) e_bl) (w_or1 (t_c (c_isnot G) (e_call G T.p7 T.m7 (a_cons (e_call G T.p24 T.m24 (a_cons (e_var 4) (a_cons (e_add G (e_glob T.c_STACK) e_int) a_nil))) a_nil)) e_bl)))) (ss_cons (s_ret e_bl)
    ss_nil) ss_nil)
    (ss_cons (s_ite (t_c (c_isnot G) (e_call G T.p7 T.m7 (a_cons (e_call G T.p24 T.m24 (a_cons (e_lst (l_cat (e_lst (l_cat (e_var 4) (e_var 5))) (e_lst (l_disp (a_cons (e_tup (a_cons e_str a_nil)) a_nil))))) (a_cons e_int a_nil))) a_nil)) e_bl) (ss_cons (s_ret e_bl)
    ss_nil) ss_nil)
    (ss_cons (s_ite (t_c (c_isnot G) (e_call G T.p7 T.m7 (a_cons (e_call G T.p24 T.m24 (a_cons (e_lst (l_disp (a_cons (e_tup (a_cons e_str (a_cons (e_glob T.c_BOXES) a_nil))) a_nil))) (a_cons e_int a_nil))) a_nil)) e_bl) (ss_cons (s_ret e_bl)
    ss_nil) ss_nil)
    (ss_cons (s_ret (e_and (e_c (c_is G) (e_call G T.p7 T.m7 (a_cons (e_call G T.p24 T.m24 (a_cons (e_lst (l_disp (a_cons (e_tup (a_cons e_str (a_cons (e_glob T.c_REACH) a_nil))) a_nil))) (a_cons e_int a_nil))) a_nil)) e_bl) (e_one (e_c (c_is G) (e_call G T.p7 T.m7 (a_cons (e_call G T.p24 T.m24 (a_cons (e_lst (l_disp (a_cons (e_tup (a_cons e_str (a_cons (e_sub G (e_sub G e_int (e_glob T.c_REACH)) e_int) a_nil))) a_nil))) (a_cons e_int a_nil))) a_nil)) e_bl))))
    ss_nil))))))))))))
end
end Ir.K72
set_option Elab.async false
set_option maxRecDepth 100000
namespace Ir
open PySem
/-! how runs are put together -/
theorem ss_step {cal : Nat → List D → M D} {s : St} {r : Ss} {ρ ρ' : Sl} {S S' : Sto} {o : Out (Ctl × Sl)} (h : exS cal s ρ S = .val (.next, ρ') S') (h2 : exSs cal r ρ' S' = o) : exSs cal (.cons s r) ρ S = o := by
  show M.bind (exS cal s ρ) _ S = o
  unfold M.bind
  rw [h]
  exact h2
theorem ss_end {cal : Nat → List D → M D} {s : St} {r : Ss} {ρ ρ' : Sl} {S S' : Sto} {d : D} (h : exS cal s ρ S = .val (.ret d, ρ') S') : exSs cal (.cons s r) ρ S = .val (.ret d, ρ') S' := by
  show M.bind (exS cal s ρ) _ S = _
  unfold M.bind
  rw [h]
  rfl
theorem call_mk {cal : Nat → List D → M D} {f : Fn} {ds : List D} {S S' : Sto} {ρ' : Sl} {d : PyData} (h : ds.length = f.ar) (e : exSs cal f.body (ds.map some ++ List.replicate (f.sz - f.ar) none) S = .val (.ret (.p d), ρ') S') : callF cal f ds S = .val (.p d) (S'.take S.length) := by
  unfold callF
  rw [if_pos h, e]
  rfl
theorem rb_plain (n : Nat) : ∀ ds : List PyData, (ds.map D.p).all (rb n) = true
  | [] => rfl
  | d :: ds => by rw [List.map_cons, List.all_cons, rb_plain n ds]; rfl
theorem plain_of : ∀ ds : List PyData, plainOf (ds.map D.p) = some ds
  | [] => rfl
  | d :: ds => by
    show (plainOf (ds.map D.p)).map (d :: ·) = some (d :: ds)
    rw [plain_of ds]
    rfl
theorem alloc_plain (ds : List PyData) (S : Sto) : alloc (.lst (ds.map D.p)) S = .val (.ref S.length) (S ++ [.lst (ds.map D.p)]) := by
  unfold alloc
  rw [if_pos (show rbO S.length (.lst (ds.map D.p)) = true from rb_plain _ ds)]
/-- a comprehension over a fixed row of values, by what each turn keeps -/
theorem lc_inv {ds : List D} {body : D → M D} (I : Nat → Sto → Prop) (R : D → D → Prop) (step : ∀ i d S, ds[i]? = some d → I i S → ∃ e S', body d S = .val e S' ∧ R d e ∧ I (i + 1) S') :
    ∀ (n i : Nat) (acc : List D) (S : Sto), i + n = ds.length → I i S → ∃ es S', lcGo (.fix ds) body n i acc S = .val (acc ++ es) S' ∧ Paired R (ds.drop i) es ∧ I ds.length S'
  | 0, i, acc, S, h, hI => by
    have e : i = ds.length := by omega
    subst e
    refine ⟨[], S, ?_, ?_, hI⟩
    · show (match (Src.fix ds).at ds.length S with
        | some none => Out.val acc S
        | _ => .bad) = _
      simp [Src.at]
    · rw [List.drop_length]; exact .nil
  | n + 1, i, acc, S, h, hI => by
    have hi : i < ds.length := by omega
    obtain ⟨e, S1, h1, h2, h3⟩ := step i ds[i] S (List.getElem?_eq_getElem hi) hI
    obtain ⟨es, S2, h4, h5, h6⟩ := lc_inv I R step n (i + 1) (acc ++ [e]) S1 (by omega) h3
    refine ⟨e :: es, S2, ?_, ?_, h6⟩
    · show (match (Src.fix ds).at i S with
        | some none => Out.val acc S
        | some (some d) => M.bind (body d) (fun e => lcGo (.fix ds) body n (i + 1) (acc ++ [e])) S
        | none => .bad) = _
      have ea : (Src.fix ds).at i S = some (some ds[i]) := by simp [Src.at, List.getElem?_eq_getElem hi]
      rw [ea]
      show M.bind (body ds[i]) _ S = _
      unfold M.bind
      rw [h1]
      show lcGo (.fix ds) body n (i + 1) (acc ++ [e]) S1 = _
      rw [h4, List.append_assoc]
      rfl
    · rw [List.drop_eq_getElem_cons hi]
      exact .cons h2 h5
end Ir
set_option Elab.async false
set_option linter.all false
set_option maxRecDepth 100000
set_option maxHeartbeats 4000001
namespace Ir
open PySem
/-! walking a body from outside in -/
section
variable {cal : Nat → List D → M D} {ρ : Sl} {S : Sto} {ok : D → Sto → Prop} {okL : List D → Sto → Prop} {okS : Ctl × Sl → Sto → Prop} {okI : Src → Sto → Prop} {ex : Ex → Sto → Prop}
theorem wpB {α β : Type} {m : M α} {f : α → M β} {S : Sto} {ok : β → Sto → Prop} {ex : Ex → Sto → Prop} (h : wp (m S) (fun a S' => wp (f a S') ok ex) ex) : wp (M.bind m f S) ok ex := by
  unfold M.bind
  cases e : m S <;> rw [e] at h <;> exact h
theorem wpO {α : Type} {o : Option α} {a : α} {S : Sto} {ok : α → Sto → Prop} {ex : Ex → Sto → Prop} (h : o = some a) (k : ok a S) : wp (M.opt o S) ok ex := by rw [h]; exact k
theorem r_var {i : Nat} (h : ∃ d, ρ[i]? = some (some d) ∧ ok d S) : wp (evE cal (.var i) ρ S) ok ex := by
  obtain ⟨d, h, k⟩ := h
  unfold evE
  rw [h]
  exact k
theorem r_cst {d : D} (k : ok d S) : wp (evE cal (.cst d) ρ S) ok ex := k
theorem r_bin {o : BOp} {a b : E} (h : wp (evE cal a ρ S) (fun x S1 => wp (evE cal b ρ S1) (fun y S2 => ∃ z, bop o x y = some z ∧ ok z S2) ex) ex) : wp (evE cal (.bin o a b) ρ S) ok ex :=
  wpB (wp_mono h (fun x S1 h => wpB (wp_mono h (fun y S2 ⟨z, e, k⟩ => wpO e k) fun _ _ z => z)) fun _ _ z => z)
theorem r_cmp {o : COp} {a b : E} (h : wp (evE cal a ρ S) (fun x S1 => wp (evE cal b ρ S1) (fun y S2 => ∃ z, cop S2 o x y = some z ∧ ok (.p (.bool z)) S2) ex) ex) : wp (evE cal (.cmp o a b) ρ S) ok ex :=
  wpB (wp_mono h (fun x S1 h => wpB (wp_mono h (fun y S2 ⟨z, e, k⟩ => wpO (by rw [e]; rfl) k) fun _ _ z => z)) fun _ _ z => z)
theorem r_chain {o o' : COp} {a b c : E} (h : wp (evE cal a ρ S) (fun x S1 => wp (evE cal b ρ S1) (fun y S2 => ∃ z, cop S2 o x y = some z ∧ (if z = true then wp (evE cal c ρ S2) (fun w S3 => ∃ z, cop S3 o' y w = some z ∧ ok (.p (.bool z)) S3) ex else ok (.p (.bool false)) S2)) ex) ex) : wp (evE cal (.chain o o' a b c) ρ S) ok ex :=
  wpB (wp_mono h (fun x S1 h => wpB (wp_mono h (fun y S2 ⟨z, e, k⟩ => wpB (wpO e (by
    cases z with
    | true => exact wpB (wp_mono k (fun w S3 ⟨z, e, k⟩ => wpO (by rw [e]; rfl) k) fun _ _ z => z)
    | false => exact k))) fun _ _ z => z)) fun _ _ z => z)
theorem r_and {a b : E} (h : wp (evE cal a ρ S) (fun x S1 => ∃ z, x = .p (.bool z) ∧ (if z = true then wp (evE cal b ρ S1) ok ex else ok (.p (.bool false)) S1)) ex) : wp (evE cal (.and a b) ρ S) ok ex :=
  wpB (wp_mono h (fun x S1 ⟨z, e, k⟩ => wpB (wpO (a := z) (by rw [e]; rfl) (by cases z <;> exact k))) fun _ _ z => z)
theorem r_or {a b : E} (h : wp (evE cal a ρ S) (fun x S1 => ∃ z, x = .p (.bool z) ∧ (if z = true then ok (.p (.bool true)) S1 else wp (evE cal b ρ S1) ok ex)) ex) : wp (evE cal (.or a b) ρ S) ok ex :=
  wpB (wp_mono h (fun x S1 ⟨z, e, k⟩ => wpB (wpO (a := z) (by rw [e]; rfl) (by cases z <;> exact k))) fun _ _ z => z)
theorem r_not {a : E} (h : wp (evE cal a ρ S) (fun x S1 => ∃ z, x = .p (.bool z) ∧ ok (.p (.bool !z)) S1) ex) : wp (evE cal (.not a) ρ S) ok ex :=
  wpB (wp_mono h (fun x S1 ⟨z, e, k⟩ => wpB (wpO (a := z) (by rw [e]; rfl) k)) fun _ _ z => z)
theorem r_idx {a b : E} (h : wp (evE cal a ρ S) (fun x S1 => wp (evE cal b ρ S1) (fun y S2 => ∃ z, getI S2 x y = some z ∧ ok z S2) ex) ex) : wp (evE cal (.idx a b) ρ S) ok ex :=
  wpB (wp_mono h (fun x S1 h => wpB (wp_mono h (fun y S2 ⟨z, e, k⟩ => wpO e k) fun _ _ z => z)) fun _ _ z => z)
theorem r_idxL {l : L} {b : E} (h : wp (evL cal l ρ S) (fun ds S1 => wp (evE cal b ρ S1) (fun y S2 => ∃ z, (asInt y).bind (fun i => L2.atI ds i) = some z ∧ ok z S2) ex) ex) : wp (evE cal (.idxL l b) ρ S) ok ex :=
  wpB (wp_mono h (fun x S1 h => wpB (wp_mono h (fun y S2 ⟨z, e, k⟩ => wpO e k) fun _ _ z => z)) fun _ _ z => z)
theorem r_slice {a : E} {lo hi : Option Int} (h : wp (evE cal a ρ S) (fun x S1 => ∃ z, sliceD x lo hi = some z ∧ ok z S1) ex) : wp (evE cal (.slice a lo hi) ρ S) ok ex :=
  wpB (wp_mono h (fun x S1 ⟨z, e, k⟩ => wpO e k) fun _ _ z => z)
theorem r_len {a : E} (h : wp (evE cal a ρ S) (fun x S1 => ∃ z, lenD S1 x = some z ∧ ok (.p (.int z)) S1) ex) : wp (evE cal (.len a) ρ S) ok ex :=
  wpB (wp_mono h (fun x S1 ⟨z, e, k⟩ => wpO (by rw [e]; rfl) k) fun _ _ z => z)
theorem r_isi {a : E} {t : Ty} (h : wp (evE cal a ρ S) (fun x S1 => ∃ z, isiD x t = some z ∧ ok (.p (.bool z)) S1) ex) : wp (evE cal (.isi a t) ρ S) ok ex :=
  wpB (wp_mono h (fun x S1 ⟨z, e, k⟩ => wpO (by rw [e]; rfl) k) fun _ _ z => z)
theorem r_toInt {a : E} (h : wp (evE cal a ρ S) (fun x S1 => ∃ z, intOf x = some z ∧ ok (.p (.int z)) S1) ex) : wp (evE cal (.toInt a) ρ S) ok ex :=
  wpB (wp_mono h (fun x S1 ⟨z, e, k⟩ => wpO (by rw [e]; rfl) k) fun _ _ z => z)
theorem r_all {l : L} (h : wp (evL cal l ρ S) (fun ds S1 => ∃ bs, boolsOf ds = some bs ∧ ok (.p (.bool (bs.all id))) S1) ex) : wp (evE cal (.all l) ρ S) ok ex :=
  wpB (wp_mono h (fun x S1 ⟨z, e, k⟩ => wpO (by rw [e]; rfl) k) fun _ _ z => z)
theorem r_tupOf {a : E} (h : wp (evE cal a ρ S) (fun x S1 => ∃ z, tupD S1 x = some z ∧ ok z S1) ex) : wp (evE cal (.tupOf a) ρ S) ok ex :=
  wpB (wp_mono h (fun x S1 ⟨z, e, k⟩ => wpO e k) fun _ _ z => z)
theorem r_wget {kvs : List (Str × PyData)} {a : E} (h : wp (evE cal a ρ S) (fun x S1 => ∃ z, wgetD kvs x = some z ∧ ok z S1) ex) : wp (evE cal (.wget kvs a) ρ S) ok ex :=
  wpB (wp_mono h (fun x S1 ⟨z, e, k⟩ => wpO e k) fun _ _ z => z)
theorem r_dictOf {a : E} (h : wp (evE cal a ρ S) (fun x S1 => ∃ z, dictD x = some z ∧ wp (alloc (.dic z) S1) ok ex) ex) : wp (evE cal (.dictOf a) ρ S) ok ex :=
  wpB (wp_mono h (fun x S1 ⟨z, e, k⟩ => wpB (wpO e k)) fun _ _ z => z)
theorem r_lenset {a : E} (h : wp (evE cal a ρ S) (fun x S1 => ∃ z, lensetD x = some z ∧ ok z S1) ex) : wp (evE cal (.lenset a) ρ S) ok ex :=
  wpB (wp_mono h (fun x S1 ⟨z, e, k⟩ => wpO e k) fun _ _ z => z)
theorem r_call {f : Nat} {as : Es} (h : wp (evEs cal as ρ S) (fun ds S1 => wp (cal f ds S1) ok ex) ex) : wp (evE cal (.call f as) ρ S) ok ex := wpB h
theorem r_callv {i : Nat} {as : Es} (h : ∃ f, ρ[i]? = some (some (.fn f)) ∧ wp (evEs cal as ρ S) (fun ds S1 => wp (cal f ds S1) ok ex) ex) : wp (evE cal (.callv i as) ρ S) ok ex := by
  obtain ⟨f, hv, h⟩ := h
  unfold evE
  rw [hv]
  exact wpB h
theorem r_tup {as : Es} (h : wp (evEs cal as ρ S) (fun ds S1 => ∃ ps, plainOf ds = some ps ∧ ds.length ≤ 1000 ∧ ok (.p (.tuple ps)) S1) ex) : wp (evE cal (.tup as) ρ S) ok ex :=
  wpB (wp_mono h (fun ds S1 ⟨ps, e, hl, k⟩ => wpO (by rw [if_pos (by rw [sizeLine_eq]; omega), e]; rfl) k) fun _ _ z => z)
theorem r_nil (k : okL [] S) : wp (evEs cal .nil ρ S) okL ex := k
theorem r_cons {e : E} {es : Es} (h : wp (evE cal e ρ S) (fun d S1 => wp (evEs cal es ρ S1) (fun ds S2 => okL (d :: ds) S2) ex) ex) : wp (evEs cal (.cons e es) ρ S) okL ex :=
  wpB (wp_mono h (fun d S1 h => wpB (wp_mono h (fun ds S2 k => k) fun _ _ z => z)) fun _ _ z => z)
theorem r_disp {as : Es} (h : wp (evEs cal as ρ S) (fun ds S1 => ds.length ≤ 100000 ∧ okL ds S1) ex) : wp (evL cal (.disp as) ρ S) okL ex :=
  wpB (wp_mono h (fun ds S1 ⟨hl, k⟩ => wpO (if_pos hl) k) fun _ _ z => z)
theorem r_lst {l : L} (h : wp (evL cal l ρ S) (fun ds S1 => wp (alloc (.lst ds) S1) ok ex) ex) : wp (evE cal (.lst l) ρ S) ok ex := wpB h
theorem r_cat {a b : E} (h : wp (evE cal a ρ S) (fun x S1 => wp (evE cal b ρ S1) (fun y S2 => ∃ z, catD S2 x y = some z ∧ okL z S2) ex) ex) : wp (evL cal (.cat a b) ρ S) okL ex :=
  wpB (wp_mono h (fun x S1 h => wpB (wp_mono h (fun y S2 ⟨z, e, k⟩ => wpO e k) fun _ _ z => z)) fun _ _ z => z)
theorem r_of {a : E} (h : wp (evE cal a ρ S) (fun x S1 => ∃ z, ofD S1 x = some z ∧ okL z S1) ex) : wp (evL cal (.of a) ρ S) okL ex :=
  wpB (wp_mono h (fun x S1 ⟨z, e, k⟩ => wpO e k) fun _ _ z => z)
theorem r_eqL {neg : Bool} {a : E} {l : L} (h : wp (evE cal a ρ S) (fun x S1 => wp (evL cal l ρ S1) (fun es S2 => ∃ ds z, lstAt S2 x = some ds ∧ eqLD neg ds es = some z ∧ ok z S2) ex) ex) : wp (evE cal (.eqL neg a l) ρ S) ok ex :=
  wpB (wp_mono h (fun x S1 h => wpB (wp_mono h (fun y S2 ⟨ds, z, e, e2, k⟩ => wpO (by rw [e]; exact e2) k) fun _ _ z => z)) fun _ _ z => z)
theorem r_pop {a b : E} (h : wp (evE cal a ρ S) (fun x S1 => ∃ ds, lstAt S1 x = some ds ∧ wp (evE cal b ρ S1) (fun y S2 => wp (popD x y S2) ok ex) ex) ex) : wp (evE cal (.popAt a b) ρ S) ok ex :=
  wpB (wp_mono h (fun x S1 ⟨ds, e, h⟩ => wpB (wpO e (wpB (wp_mono h (fun y S2 k => k) fun _ _ z => z)))) fun _ _ z => z)
theorem s_asgR {i : Nat} {e : E} (h : wp (evE cal e ρ S) (fun d S1 => okS (.next, ρ.set i (some d)) S1) ex) : wp (exS cal (.asg i e) ρ S) okS ex := wpB (wp_mono h (fun _ _ k => k) fun _ _ z => z)
theorem s_setR {o i v : E} (h : wp (evE cal v ρ S) (fun d S1 => wp (evE cal o ρ S1) (fun x S2 => wp (evE cal i ρ S2) (fun y S3 => wp (setD x y d S3) (fun _ S4 => okS (.next, ρ) S4) ex) ex) ex) ex) : wp (exS cal (.setI o i v) ρ S) okS ex :=
  wpB (wp_mono h (fun d S1 h => wpB (wp_mono h (fun x S2 h => wpB (wp_mono h (fun y S3 h => wpB (wp_mono h (fun _ _ k => k) fun _ _ z => z)) fun _ _ z => z)) fun _ _ z => z)) fun _ _ z => z)
theorem s_retR {e : E} (h : wp (evE cal e ρ S) (fun d S1 => okS (.ret d, ρ) S1) ex) : wp (exS cal (.ret e) ρ S) okS ex := wpB (wp_mono h (fun _ _ k => k) fun _ _ z => z)
theorem s_iteR {t : E} {a b : Ss} (h : wp (evE cal t ρ S) (fun x S1 => ∃ z, x = .p (.bool z) ∧ (if z = true then wp (exSs cal a ρ S1) okS ex else wp (exSs cal b ρ S1) okS ex)) ex) : wp (exS cal (.ite t a b) ρ S) okS ex :=
  wpB (wp_mono h (fun x S1 ⟨z, e, k⟩ => wpB (wpO (a := z) (by rw [e]; rfl) (by cases z <;> exact k))) fun _ _ z => z)
theorem s_unpR {is : List Nat} {e : E} (h : wp (evE cal e ρ S) (fun d S1 => ∃ ρ', tgt is false d ρ = some ρ' ∧ okS (.next, ρ') S1) ex) : wp (exS cal (.unp is e) ρ S) okS ex :=
  wpB (wp_mono h (fun x S1 ⟨z, e, k⟩ => wpB (wpO e k)) fun _ _ z => z)
theorem ss_nilR (k : okS (.next, ρ) S) : wp (exSs cal .nil ρ S) okS ex := k
theorem ss_consR {s : St} {r : Ss} (h : wp (exS cal s ρ S) (fun c S1 => (match c with
    | (.next, ρ') => wp (exSs cal r ρ' S1) okS ex
    | c => okS c S1)) ex) : wp (exSs cal (.cons s r) ρ S) okS ex :=
  wpB (wp_mono h (fun c S1 k => by
    obtain ⟨c, ρ'⟩ := c
    cases c <;> exact k) fun _ _ z => z)
theorem call_wp {f : Fn} {ds : List D} (h : ds.length = f.ar) (e : wp (exSs cal f.body (ds.map some ++ List.replicate (f.sz - f.ar) none) S) (fun c S' => ∃ d, c.1 = .ret (.p d) ∧ ok (.p d) (S'.take S.length)) (fun _ _ => False)) : wp (callF cal f ds S) ok ex := by
  unfold callF
  rw [if_pos h]
  cases q : exSs cal f.body (ds.map some ++ List.replicate (f.sz - f.ar) none) S with
  | val c S' =>
    rw [q] at e
    obtain ⟨d, e1, k⟩ := e
    obtain ⟨c, ρ'⟩ := c
    have e1 : c = .ret (.p d) := e1
    subst e1
    exact k
  | exc x S' => rw [q] at e; exact e.elim
  | bad => rw [q] at e; exact e.elim
end
theorem eq_int (i j : Int) : eqD (.p (.int i)) (.p (.int j)) = some (decide (i = j)) := by
  simp [eqD, sameScal, PyData.eqv]
  rfl
theorem r_setD {j : Nat} {k : Int} {d : D} {S : Sto} {ok : Unit → Sto → Prop} {ex : Ex → Sto → Prop} (h : ∃ ds n, S[j]? = some (.lst ds) ∧ L2.ixN ds.length k = some n ∧ rb j d = true ∧ ok () (S.set j (.lst (ds.set n d)))) : wp (setD (.ref j) (.p (.int k)) d S) ok ex := by
  obtain ⟨ds, n, h, h2, h3, q⟩ := h
  unfold setD
  simp only [h, h2, h3, if_true]
  exact q
theorem r_popD {j : Nat} {S : Sto} {ok : D → Sto → Prop} {ex : Ex → Sto → Prop} (h : ∃ d ds, S[j]? = some (.lst (d :: ds)) ∧ ok d (S.set j (.lst ds))) : wp (popD (.ref j) (.p (.int 0)) S) ok ex := by
  obtain ⟨d, ds, h, q⟩ := h
  unfold popD
  simp only [h, if_true]
  exact q
theorem ifB {z : Bool} {p q : Prop} (h1 : z = true → p) (h2 : z = false → q) : if z = true then p else q := by
  cases z
  · exact h2 rfl
  · exact h1 rfl
theorem ifT {p q : Prop} (h : p) : if true = true then p else q := by rw [if_pos rfl]; exact h
theorem ifF {p q : Prop} (h : q) : if false = true then p else q := by rw [if_neg (by decide)]; exact h


theorem plain_ints : ∀ ms : List Int, plainOf (ms.map fun i => D.p (.int i)) = some (ms.map .int)
  | [] => rfl
  | m :: ms => by
    show (plainOf (ms.map fun i => D.p (.int i))).map (PyData.int m :: ·) = _
    rw [plain_ints ms]
    rfl
theorem cop_eq_int (S : Sto) (i j : Int) : cop S .eq (.p (.int i)) (.p (.int j)) = some (decide (i = j)) := eq_int i j
theorem cop_lt (S : Sto) (i j : Int) : cop S .lt (.p (.int i)) (.p (.int j)) = some (decide (i < j)) := rfl
theorem cop_le (S : Sto) (i j : Int) : cop S .le (.p (.int i)) (.p (.int j)) = some (decide (i ≤ j)) := rfl
theorem cop_gt (S : Sto) (i j : Int) : cop S .gt (.p (.int i)) (.p (.int j)) = some (decide (j < i)) := rfl
theorem cop_ge (S : Sto) (i j : Int) : cop S .ge (.p (.int i)) (.p (.int j)) = some (decide (j ≤ i)) := rfl
theorem bop_add (i j : Int) : bop .add (.p (.int i)) (.p (.int j)) = some (.p (.int (i + j))) := rfl
theorem bop_sub (i j : Int) : bop .sub (.p (.int i)) (.p (.int j)) = some (.p (.int (i - j))) := rfl
theorem bop_mod {i j : Int} (h : 0 < j) : bop .mod (.p (.int i)) (.p (.int j)) = some (.p (.int (i % j))) := if_pos h
theorem bop_mulR {i j : Int} (h : -(2 ^ 64) < j ∧ j < 2 ^ 64) : bop .mul (.p (.int i)) (.p (.int j)) = some (.p (.int (i * j))) := if_pos (.inr h)
theorem bop_mulL {i j : Int} (h : -(2 ^ 64) < i ∧ i < 2 ^ 64) : bop .mul (.p (.int i)) (.p (.int j)) = some (.p (.int (i * j))) := if_pos (.inl h)
theorem bop_pow {i j : Int} (h : 0 ≤ j ∧ j ≤ 1000000 ∧ i.natAbs < 2 ^ 64) : bop .pow (.p (.int i)) (.p (.int j)) = some (.p (.int (i ^ j.toNat))) := if_pos h
theorem bop_fdiv {i j : Int} (h : 0 < j ∧ j.natAbs.log2 < 9000) : bop .fdiv (.p (.int i)) (.p (.int j)) = some (.p (.int (i / j))) := if_pos h
theorem eqL_ints (neg : Bool) : ∀ ms : List Int, eqLD neg (ms.map fun i => D.p (.int i)) [] = some (.p (.bool (if neg then !ms.isEmpty else ms.isEmpty)))
  | [] => by cases neg <;> rfl
  | m :: ms => by
    unfold eqLD
    rw [plain_ints]
    have hs : SeqAt.shaped (.list ((m :: ms).map PyData.int)) = true := by
      exact PySem.W.ke_shaped_ints (m :: ms)
    have he : PyData.eqvAll ((m :: ms).map PyData.int) [] = false := by
      simp [PyData.eqvAll]
    show (if SeqAt.shaped (.list ((m :: ms).map PyData.int)) = true ∧ SeqAt.shaped (.list []) = true then some (D.p (.bool (if neg then !PyData.eqvAll ((m :: ms).map PyData.int) [] else PyData.eqvAll ((m :: ms).map PyData.int) []))) else none) = _
    rw [if_pos ⟨hs, rfl⟩, he]
    cases neg <;> rfl
def Got {α : Type} (o : Option α) (p : α → Prop) : Prop := ∃ z, o = some z ∧ p z
theorem ex_get {S : Sto} {x y : D} {p : D → Prop} (h : Got (getI S x y) p) : ∃ z, getI S x y = some z ∧ p z := h
theorem ex_bool {b : Bool} {p : Bool → Prop} (k : p b) : ∃ z, D.p (.bool b) = D.p (.bool z) ∧ p z := ⟨b, rfl, k⟩
theorem ex_eq {S : Sto} {i j : Int} {p : Bool → Prop} (k : p (decide (i = j))) : ∃ z, cop S .eq (.p (.int i)) (.p (.int j)) = some z ∧ p z := ⟨_, eq_int i j, k⟩
theorem ex_lt {S : Sto} {i j : Int} {p : Bool → Prop} (k : p (decide (i < j))) : ∃ z, cop S .lt (.p (.int i)) (.p (.int j)) = some z ∧ p z := ⟨_, rfl, k⟩
theorem ex_le {S : Sto} {i j : Int} {p : Bool → Prop} (k : p (decide (i ≤ j))) : ∃ z, cop S .le (.p (.int i)) (.p (.int j)) = some z ∧ p z := ⟨_, rfl, k⟩
theorem ex_gt {S : Sto} {i j : Int} {p : Bool → Prop} (k : p (decide (j < i))) : ∃ z, cop S .gt (.p (.int i)) (.p (.int j)) = some z ∧ p z := ⟨_, rfl, k⟩
theorem ex_add {i j : Int} {p : D → Prop} (k : p (.p (.int (i + j)))) : ∃ z, bop .add (.p (.int i)) (.p (.int j)) = some z ∧ p z := ⟨_, rfl, k⟩
theorem ex_sub {i j : Int} {p : D → Prop} (k : p (.p (.int (i - j)))) : ∃ z, bop .sub (.p (.int i)) (.p (.int j)) = some z ∧ p z := ⟨_, rfl, k⟩
theorem ex_mod {i j : Int} {p : D → Prop} (h : 0 < j) (k : p (.p (.int (i % j)))) : ∃ z, bop .mod (.p (.int i)) (.p (.int j)) = some z ∧ p z := ⟨_, bop_mod h, k⟩
theorem ex_mulR {i j : Int} {p : D → Prop} (h : -(2 ^ 64) < j ∧ j < 2 ^ 64) (k : p (.p (.int (i * j)))) : ∃ z, bop .mul (.p (.int i)) (.p (.int j)) = some z ∧ p z := ⟨_, bop_mulR h, k⟩
theorem ex_mulL {i j : Int} {p : D → Prop} (h : -(2 ^ 64) < i ∧ i < 2 ^ 64) (k : p (.p (.int (i * j)))) : ∃ z, bop .mul (.p (.int i)) (.p (.int j)) = some z ∧ p z := ⟨_, bop_mulL h, k⟩
theorem ex_pow {i j : Int} {p : D → Prop} (h : 0 ≤ j ∧ j ≤ 1000000) (h2 : i.natAbs < 2 ^ 64) (k : p (.p (.int (i ^ j.toNat)))) : ∃ z, bop .pow (.p (.int i)) (.p (.int j)) = some z ∧ p z := ⟨_, bop_pow ⟨h.1, h.2, h2⟩, k⟩
theorem ex_fdiv {i j : Int} {p : D → Prop} (h : 0 < j) (h2 : j.natAbs.log2 < 9000) (k : p (.p (.int (i / j)))) : ∃ z, bop .fdiv (.p (.int i)) (.p (.int j)) = some z ∧ p z := ⟨_, bop_fdiv ⟨h, h2⟩, k⟩
theorem ex_len {ds : List D} {p : Prop} (h : ds.length ≤ 100000) (k : p) : ds.length ≤ 100000 ∧ p := ⟨h, k⟩
def GotP (ds : List D) (p : List PyData → Prop) : Prop := ∃ ps, plainOf ds = some ps ∧ ds.length ≤ 1000 ∧ p ps
theorem ex_plain {ds : List D} {p : List PyData → Prop} (h : GotP ds p) : ∃ ps, plainOf ds = some ps ∧ ds.length ≤ 1000 ∧ p ps := h

end Ir
set_option Elab.async false
set_option linter.all false
set_option maxRecDepth 100000
set_option maxHeartbeats 4000001
namespace Ir.K72
open PySem
def dInts (ms : List Int) : MO := .lst (ms.map fun i => .p (.int i))
def st4 (b c e : Int) : MO := .lst [.ref 0, .p (.int b), .p (.int c), .p (.int e)]
def dInv (N : Int) (rest S : Sto) : Prop := ∃ (ms : List Int) (b c e : Int), S = dInts ms :: st4 b c e :: rest ∧ 0 ≤ c ∧ c ≤ N ∧ 0 ≤ e ∧ e < 2147483647
def d4 : Ss := match b22 with | .cons _ (.cons _ r) => r | _ => .nil
theorem draw_tail (cal : Nat → List D → M D) (ms : List Int) (rest : Sto) (b c e many : Int) (hm : 0 < many) (hm2 : many.natAbs.log2 < 9000) (hc : 0 ≤ c) (hc2 : c ≤ 100000) (he : 0 ≤ e) (he2 : e < 2147483647) (N : Int) (hN : c ≤ N) :
    wp (exSs cal d4 [some (.ref 1), some (.p (.int many)), none] (dInts ms :: st4 b c e :: rest)) (fun x S' => ∃ (r : Int), x.1 = .ret (.p (.int r)) ∧ 0 ≤ r ∧ r < many ∧ dInv N rest S') (fun _ _ => False) := by
  unfold d4 b22
  dsimp only
  (with_reducible refine ss_consR ?_)
  repeat (first | (first | ((with_reducible refine r_var ?_); refine ⟨_, rfl, ?_⟩) | with_reducible refine r_cst ?_ | with_reducible refine r_bin ?_ | with_reducible refine r_cmp ?_ | with_reducible refine r_chain ?_ | with_reducible refine r_and ?_ | with_reducible refine r_or ?_ | with_reducible refine r_not ?_ | with_reducible refine r_idx ?_ | with_reducible refine r_idxL ?_ | with_reducible refine r_slice ?_ | with_reducible refine r_len ?_ | with_reducible refine r_isi ?_ | with_reducible refine r_toInt ?_ | with_reducible refine r_all ?_ | with_reducible refine r_tupOf ?_ | with_reducible refine r_wget ?_ | with_reducible refine r_dictOf ?_ | with_reducible refine r_lenset ?_ | with_reducible refine r_call ?_ | with_reducible refine r_tup ?_ | with_reducible refine r_nil ?_ | with_reducible refine r_cons ?_ | with_reducible refine r_disp ?_ | with_reducible refine r_lst ?_ | with_reducible refine r_cat ?_ | with_reducible refine r_of ?_ | with_reducible refine r_eqL ?_ | with_reducible refine r_pop ?_ | with_reducible refine s_asgR ?_ | with_reducible refine s_setR ?_ | with_reducible refine s_retR ?_ | with_reducible refine s_iteR ?_ | with_reducible refine s_unpR ?_ | with_reducible refine ss_nilR ?_ | ((with_reducible refine r_callv ?_); refine ⟨_, rfl, ?_⟩) | ((with_reducible refine r_setD ?_); refine ⟨_, _, rfl, rfl, rfl, ?_⟩) | ((with_reducible refine r_popD ?_); refine ⟨_, _, rfl, ?_⟩)) | with_reducible refine ex_bool ?_ | with_reducible refine ex_eq ?_ | with_reducible refine ex_lt ?_ | with_reducible refine ex_le ?_ | with_reducible refine ex_gt ?_ | with_reducible refine ex_add ?_ | with_reducible refine ex_sub ?_ | ((with_reducible refine ex_mod ?_ ?_); (· first | assumption | decide)) | ((with_reducible refine ex_mulR ?_ ?_); · decide) | ((with_reducible refine ex_mulL ?_ ?_); · decide) | ((with_reducible refine ex_pow ?_ ?_ ?_); (· decide); (· first | omega | decide)) | ((with_reducible refine ex_fdiv ?_ ?_ ?_); (· first | assumption | decide); (· first | assumption | decide)) | ((with_reducible refine ex_get ?_); refine ⟨_, rfl, ?_⟩; (try dsimp only)) | ((with_reducible refine ex_len ?_ ?_); (· exact Nat.le_of_ble_eq_true rfl)) | ((with_reducible refine ex_plain ?_); refine ⟨_, rfl, Nat.le_of_ble_eq_true rfl, ?_⟩; (try dsimp only)))
  refine ifB (fun h => ?_) (fun h => ?_)
  · (with_reducible refine ss_consR ?_); repeat (first | (first | ((with_reducible refine r_var ?_); refine ⟨_, rfl, ?_⟩) | with_reducible refine r_cst ?_ | with_reducible refine r_bin ?_ | with_reducible refine r_cmp ?_ | with_reducible refine r_chain ?_ | with_reducible refine r_and ?_ | with_reducible refine r_or ?_ | with_reducible refine r_not ?_ | with_reducible refine r_idx ?_ | with_reducible refine r_idxL ?_ | with_reducible refine r_slice ?_ | with_reducible refine r_len ?_ | with_reducible refine r_isi ?_ | with_reducible refine r_toInt ?_ | with_reducible refine r_all ?_ | with_reducible refine r_tupOf ?_ | with_reducible refine r_wget ?_ | with_reducible refine r_dictOf ?_ | with_reducible refine r_lenset ?_ | with_reducible refine r_call ?_ | with_reducible refine r_tup ?_ | with_reducible refine r_nil ?_ | with_reducible refine r_cons ?_ | with_reducible refine r_disp ?_ | with_reducible refine r_lst ?_ | with_reducible refine r_cat ?_ | with_reducible refine r_of ?_ | with_reducible refine r_eqL ?_ | with_reducible refine r_pop ?_ | with_reducible refine s_asgR ?_ | with_reducible refine s_setR ?_ | with_reducible refine s_retR ?_ | with_reducible refine s_iteR ?_ | with_reducible refine s_unpR ?_ | with_reducible refine ss_nilR ?_ | ((with_reducible refine r_callv ?_); refine ⟨_, rfl, ?_⟩) | ((with_reducible refine r_setD ?_); refine ⟨_, _, rfl, rfl, rfl, ?_⟩) | ((with_reducible refine r_popD ?_); refine ⟨_, _, rfl, ?_⟩)) | with_reducible refine ex_bool ?_ | with_reducible refine ex_eq ?_ | with_reducible refine ex_lt ?_ | with_reducible refine ex_le ?_ | with_reducible refine ex_gt ?_ | with_reducible refine ex_add ?_ | with_reducible refine ex_sub ?_ | ((with_reducible refine ex_mod ?_ ?_); (· first | assumption | decide)) | ((with_reducible refine ex_mulR ?_ ?_); · decide) | ((with_reducible refine ex_mulL ?_ ?_); · decide) | ((with_reducible refine ex_pow ?_ ?_ ?_); (· decide); (· first | omega | decide)) | ((with_reducible refine ex_fdiv ?_ ?_ ?_); (· first | assumption | decide); (· first | assumption | decide)) | ((with_reducible refine ex_get ?_); refine ⟨_, rfl, ?_⟩; (try dsimp only)) | ((with_reducible refine ex_len ?_ ?_); (· exact Nat.le_of_ble_eq_true rfl)) | ((with_reducible refine ex_plain ?_); refine ⟨_, rfl, Nat.le_of_ble_eq_true rfl, ?_⟩; (try dsimp only)))
    (with_reducible refine ss_consR ?_); repeat (first | (first | ((with_reducible refine r_var ?_); refine ⟨_, rfl, ?_⟩) | with_reducible refine r_cst ?_ | with_reducible refine r_bin ?_ | with_reducible refine r_cmp ?_ | with_reducible refine r_chain ?_ | with_reducible refine r_and ?_ | with_reducible refine r_or ?_ | with_reducible refine r_not ?_ | with_reducible refine r_idx ?_ | with_reducible refine r_idxL ?_ | with_reducible refine r_slice ?_ | with_reducible refine r_len ?_ | with_reducible refine r_isi ?_ | with_reducible refine r_toInt ?_ | with_reducible refine r_all ?_ | with_reducible refine r_tupOf ?_ | with_reducible refine r_wget ?_ | with_reducible refine r_dictOf ?_ | with_reducible refine r_lenset ?_ | with_reducible refine r_call ?_ | with_reducible refine r_tup ?_ | with_reducible refine r_nil ?_ | with_reducible refine r_cons ?_ | with_reducible refine r_disp ?_ | with_reducible refine r_lst ?_ | with_reducible refine r_cat ?_ | with_reducible refine r_of ?_ | with_reducible refine r_eqL ?_ | with_reducible refine r_pop ?_ | with_reducible refine s_asgR ?_ | with_reducible refine s_setR ?_ | with_reducible refine s_retR ?_ | with_reducible refine s_iteR ?_ | with_reducible refine s_unpR ?_ | with_reducible refine ss_nilR ?_ | ((with_reducible refine r_callv ?_); refine ⟨_, rfl, ?_⟩) | ((with_reducible refine r_setD ?_); refine ⟨_, _, rfl, rfl, rfl, ?_⟩) | ((with_reducible refine r_popD ?_); refine ⟨_, _, rfl, ?_⟩)) | with_reducible refine ex_bool ?_ | with_reducible refine ex_eq ?_ | with_reducible refine ex_lt ?_ | with_reducible refine ex_le ?_ | with_reducible refine ex_gt ?_ | with_reducible refine ex_add ?_ | with_reducible refine ex_sub ?_ | ((with_reducible refine ex_mod ?_ ?_); (· first | assumption | decide)) | ((with_reducible refine ex_mulR ?_ ?_); · decide) | ((with_reducible refine ex_mulL ?_ ?_); · decide) | ((with_reducible refine ex_pow ?_ ?_ ?_); (· decide); (· first | omega | decide)) | ((with_reducible refine ex_fdiv ?_ ?_ ?_); (· first | assumption | decide); (· first | assumption | decide)) | ((with_reducible refine ex_get ?_); refine ⟨_, rfl, ?_⟩; (try dsimp only)) | ((with_reducible refine ex_len ?_ ?_); (· exact Nat.le_of_ble_eq_true rfl)) | ((with_reducible refine ex_plain ?_); refine ⟨_, rfl, Nat.le_of_ble_eq_true rfl, ?_⟩; (try dsimp only)))
    (with_reducible refine ss_consR ?_); repeat (first | (first | ((with_reducible refine r_var ?_); refine ⟨_, rfl, ?_⟩) | with_reducible refine r_cst ?_ | with_reducible refine r_bin ?_ | with_reducible refine r_cmp ?_ | with_reducible refine r_chain ?_ | with_reducible refine r_and ?_ | with_reducible refine r_or ?_ | with_reducible refine r_not ?_ | with_reducible refine r_idx ?_ | with_reducible refine r_idxL ?_ | with_reducible refine r_slice ?_ | with_reducible refine r_len ?_ | with_reducible refine r_isi ?_ | with_reducible refine r_toInt ?_ | with_reducible refine r_all ?_ | with_reducible refine r_tupOf ?_ | with_reducible refine r_wget ?_ | with_reducible refine r_dictOf ?_ | with_reducible refine r_lenset ?_ | with_reducible refine r_call ?_ | with_reducible refine r_tup ?_ | with_reducible refine r_nil ?_ | with_reducible refine r_cons ?_ | with_reducible refine r_disp ?_ | with_reducible refine r_lst ?_ | with_reducible refine r_cat ?_ | with_reducible refine r_of ?_ | with_reducible refine r_eqL ?_ | with_reducible refine r_pop ?_ | with_reducible refine s_asgR ?_ | with_reducible refine s_setR ?_ | with_reducible refine s_retR ?_ | with_reducible refine s_iteR ?_ | with_reducible refine s_unpR ?_ | with_reducible refine ss_nilR ?_ | ((with_reducible refine r_callv ?_); refine ⟨_, rfl, ?_⟩) | ((with_reducible refine r_setD ?_); refine ⟨_, _, rfl, rfl, rfl, ?_⟩) | ((with_reducible refine r_popD ?_); refine ⟨_, _, rfl, ?_⟩)) | with_reducible refine ex_bool ?_ | with_reducible refine ex_eq ?_ | with_reducible refine ex_lt ?_ | with_reducible refine ex_le ?_ | with_reducible refine ex_gt ?_ | with_reducible refine ex_add ?_ | with_reducible refine ex_sub ?_ | ((with_reducible refine ex_mod ?_ ?_); (· first | assumption | decide)) | ((with_reducible refine ex_mulR ?_ ?_); · decide) | ((with_reducible refine ex_mulL ?_ ?_); · decide) | ((with_reducible refine ex_pow ?_ ?_ ?_); (· decide); (· first | omega | decide)) | ((with_reducible refine ex_fdiv ?_ ?_ ?_); (· first | assumption | decide); (· first | assumption | decide)) | ((with_reducible refine ex_get ?_); refine ⟨_, rfl, ?_⟩; (try dsimp only)) | ((with_reducible refine ex_len ?_ ?_); (· exact Nat.le_of_ble_eq_true rfl)) | ((with_reducible refine ex_plain ?_); refine ⟨_, rfl, Nat.le_of_ble_eq_true rfl, ?_⟩; (try dsimp only)))
    exact ⟨_, rfl, Int.emod_nonneg _ (by omega), Int.emod_lt_of_pos _ hm, ms, b / many, c, e, rfl, hc, hN, he, he2⟩
  · repeat (first | (first | ((with_reducible refine r_var ?_); refine ⟨_, rfl, ?_⟩) | with_reducible refine r_cst ?_ | with_reducible refine r_bin ?_ | with_reducible refine r_cmp ?_ | with_reducible refine r_chain ?_ | with_reducible refine r_and ?_ | with_reducible refine r_or ?_ | with_reducible refine r_not ?_ | with_reducible refine r_idx ?_ | with_reducible refine r_idxL ?_ | with_reducible refine r_slice ?_ | with_reducible refine r_len ?_ | with_reducible refine r_isi ?_ | with_reducible refine r_toInt ?_ | with_reducible refine r_all ?_ | with_reducible refine r_tupOf ?_ | with_reducible refine r_wget ?_ | with_reducible refine r_dictOf ?_ | with_reducible refine r_lenset ?_ | with_reducible refine r_call ?_ | with_reducible refine r_tup ?_ | with_reducible refine r_nil ?_ | with_reducible refine r_cons ?_ | with_reducible refine r_disp ?_ | with_reducible refine r_lst ?_ | with_reducible refine r_cat ?_ | with_reducible refine r_of ?_ | with_reducible refine r_eqL ?_ | with_reducible refine r_pop ?_ | with_reducible refine s_asgR ?_ | with_reducible refine s_setR ?_ | with_reducible refine s_retR ?_ | with_reducible refine s_iteR ?_ | with_reducible refine s_unpR ?_ | with_reducible refine ss_nilR ?_ | ((with_reducible refine r_callv ?_); refine ⟨_, rfl, ?_⟩) | ((with_reducible refine r_setD ?_); refine ⟨_, _, rfl, rfl, rfl, ?_⟩) | ((with_reducible refine r_popD ?_); refine ⟨_, _, rfl, ?_⟩)) | with_reducible refine ex_bool ?_ | with_reducible refine ex_eq ?_ | with_reducible refine ex_lt ?_ | with_reducible refine ex_le ?_ | with_reducible refine ex_gt ?_ | with_reducible refine ex_add ?_ | with_reducible refine ex_sub ?_ | ((with_reducible refine ex_mod ?_ ?_); (· first | assumption | decide)) | ((with_reducible refine ex_mulR ?_ ?_); · decide) | ((with_reducible refine ex_mulL ?_ ?_); · decide) | ((with_reducible refine ex_pow ?_ ?_ ?_); (· decide); (· first | omega | decide)) | ((with_reducible refine ex_fdiv ?_ ?_ ?_); (· first | assumption | decide); (· first | assumption | decide)) | ((with_reducible refine ex_get ?_); refine ⟨_, rfl, ?_⟩; (try dsimp only)) | ((with_reducible refine ex_len ?_ ?_); (· exact Nat.le_of_ble_eq_true rfl)) | ((with_reducible refine ex_plain ?_); refine ⟨_, rfl, Nat.le_of_ble_eq_true rfl, ?_⟩; (try dsimp only)))
    (with_reducible refine ss_consR ?_); repeat (first | (first | ((with_reducible refine r_var ?_); refine ⟨_, rfl, ?_⟩) | with_reducible refine r_cst ?_ | with_reducible refine r_bin ?_ | with_reducible refine r_cmp ?_ | with_reducible refine r_chain ?_ | with_reducible refine r_and ?_ | with_reducible refine r_or ?_ | with_reducible refine r_not ?_ | with_reducible refine r_idx ?_ | with_reducible refine r_idxL ?_ | with_reducible refine r_slice ?_ | with_reducible refine r_len ?_ | with_reducible refine r_isi ?_ | with_reducible refine r_toInt ?_ | with_reducible refine r_all ?_ | with_reducible refine r_tupOf ?_ | with_reducible refine r_wget ?_ | with_reducible refine r_dictOf ?_ | with_reducible refine r_lenset ?_ | with_reducible refine r_call ?_ | with_reducible refine r_tup ?_ | with_reducible refine r_nil ?_ | with_reducible refine r_cons ?_ | with_reducible refine r_disp ?_ | with_reducible refine r_lst ?_ | with_reducible refine r_cat ?_ | with_reducible refine r_of ?_ | with_reducible refine r_eqL ?_ | with_reducible refine r_pop ?_ | with_reducible refine s_asgR ?_ | with_reducible refine s_setR ?_ | with_reducible refine s_retR ?_ | with_reducible refine s_iteR ?_ | with_reducible refine s_unpR ?_ | with_reducible refine ss_nilR ?_ | ((with_reducible refine r_callv ?_); refine ⟨_, rfl, ?_⟩) | ((with_reducible refine r_setD ?_); refine ⟨_, _, rfl, rfl, rfl, ?_⟩) | ((with_reducible refine r_popD ?_); refine ⟨_, _, rfl, ?_⟩)) | with_reducible refine ex_bool ?_ | with_reducible refine ex_eq ?_ | with_reducible refine ex_lt ?_ | with_reducible refine ex_le ?_ | with_reducible refine ex_gt ?_ | with_reducible refine ex_add ?_ | with_reducible refine ex_sub ?_ | ((with_reducible refine ex_mod ?_ ?_); (· first | assumption | decide)) | ((with_reducible refine ex_mulR ?_ ?_); · decide) | ((with_reducible refine ex_mulL ?_ ?_); · decide) | ((with_reducible refine ex_pow ?_ ?_ ?_); (· decide); (· first | omega | decide)) | ((with_reducible refine ex_fdiv ?_ ?_ ?_); (· first | assumption | decide); (· first | assumption | decide)) | ((with_reducible refine ex_get ?_); refine ⟨_, rfl, ?_⟩; (try dsimp only)) | ((with_reducible refine ex_len ?_ ?_); (· exact Nat.le_of_ble_eq_true rfl)) | ((with_reducible refine ex_plain ?_); refine ⟨_, rfl, Nat.le_of_ble_eq_true rfl, ?_⟩; (try dsimp only)))
    (with_reducible refine ss_consR ?_); repeat (first | (first | ((with_reducible refine r_var ?_); refine ⟨_, rfl, ?_⟩) | with_reducible refine r_cst ?_ | with_reducible refine r_bin ?_ | with_reducible refine r_cmp ?_ | with_reducible refine r_chain ?_ | with_reducible refine r_and ?_ | with_reducible refine r_or ?_ | with_reducible refine r_not ?_ | with_reducible refine r_idx ?_ | with_reducible refine r_idxL ?_ | with_reducible refine r_slice ?_ | with_reducible refine r_len ?_ | with_reducible refine r_isi ?_ | with_reducible refine r_toInt ?_ | with_reducible refine r_all ?_ | with_reducible refine r_tupOf ?_ | with_reducible refine r_wget ?_ | with_reducible refine r_dictOf ?_ | with_reducible refine r_lenset ?_ | with_reducible refine r_call ?_ | with_reducible refine r_tup ?_ | with_reducible refine r_nil ?_ | with_reducible refine r_cons ?_ | with_reducible refine r_disp ?_ | with_reducible refine r_lst ?_ | with_reducible refine r_cat ?_ | with_reducible refine r_of ?_ | with_reducible refine r_eqL ?_ | with_reducible refine r_pop ?_ | with_reducible refine s_asgR ?_ | with_reducible refine s_setR ?_ | with_reducible refine s_retR ?_ | with_reducible refine s_iteR ?_ | with_reducible refine s_unpR ?_ | with_reducible refine ss_nilR ?_ | ((with_reducible refine r_callv ?_); refine ⟨_, rfl, ?_⟩) | ((with_reducible refine r_setD ?_); refine ⟨_, _, rfl, rfl, rfl, ?_⟩) | ((with_reducible refine r_popD ?_); refine ⟨_, _, rfl, ?_⟩)) | with_reducible refine ex_bool ?_ | with_reducible refine ex_eq ?_ | with_reducible refine ex_lt ?_ | with_reducible refine ex_le ?_ | with_reducible refine ex_gt ?_ | with_reducible refine ex_add ?_ | with_reducible refine ex_sub ?_ | ((with_reducible refine ex_mod ?_ ?_); (· first | assumption | decide)) | ((with_reducible refine ex_mulR ?_ ?_); · decide) | ((with_reducible refine ex_mulL ?_ ?_); · decide) | ((with_reducible refine ex_pow ?_ ?_ ?_); (· decide); (· first | omega | decide)) | ((with_reducible refine ex_fdiv ?_ ?_ ?_); (· first | assumption | decide); (· first | assumption | decide)) | ((with_reducible refine ex_get ?_); refine ⟨_, rfl, ?_⟩; (try dsimp only)) | ((with_reducible refine ex_len ?_ ?_); (· exact Nat.le_of_ble_eq_true rfl)) | ((with_reducible refine ex_plain ?_); refine ⟨_, rfl, Nat.le_of_ble_eq_true rfl, ?_⟩; (try dsimp only)))
    exact ⟨_, rfl, Int.emod_nonneg _ (by omega), Int.emod_lt_of_pos _ hm, ms, b, c, e, rfl, hc, hN, he, he2⟩
end Ir.K72
set_option Elab.async false
set_option linter.all false
set_option maxRecDepth 100000
set_option maxHeartbeats 4000001
namespace Ir.K72
open PySem
theorem draw_body (cal : Nat → List D → M D) (ms : List Int) (rest : Sto) (b c e many : Int) (hm : 0 < many) (hm2 : many.natAbs.log2 < 9000) (hc : 0 ≤ c) (hc2 : c ≤ 10000) (he : 0 ≤ e) (he2 : e < 2147483647) (N : Int) (hN : c ≤ N) :
    wp (exSs cal b22 [some (.ref 1), some (.p (.int many)), none] (dInts ms :: st4 b c e :: rest)) (fun x S' => ∃ (r : Int), x.1 = .ret (.p (.int r)) ∧ 0 ≤ r ∧ r < many ∧ dInv (N + 1) rest S') (fun _ _ => False) := by
  have T := fun ms b e (he : 0 ≤ e) (he2 : e < 2147483647) => draw_tail cal ms rest b (c + 1) e many hm hm2 (by omega) (by omega) he he2 (N + 1) (by omega)
  unfold d4 at T
  unfold b22 at T ⊢
  dsimp only at T
  (with_reducible refine ss_consR ?_); repeat (first | (first | ((with_reducible refine r_var ?_); refine ⟨_, rfl, ?_⟩) | with_reducible refine r_cst ?_ | with_reducible refine r_bin ?_ | with_reducible refine r_cmp ?_ | with_reducible refine r_chain ?_ | with_reducible refine r_and ?_ | with_reducible refine r_or ?_ | with_reducible refine r_not ?_ | with_reducible refine r_idx ?_ | with_reducible refine r_idxL ?_ | with_reducible refine r_slice ?_ | with_reducible refine r_len ?_ | with_reducible refine r_isi ?_ | with_reducible refine r_toInt ?_ | with_reducible refine r_all ?_ | with_reducible refine r_tupOf ?_ | with_reducible refine r_wget ?_ | with_reducible refine r_dictOf ?_ | with_reducible refine r_lenset ?_ | with_reducible refine r_call ?_ | with_reducible refine r_tup ?_ | with_reducible refine r_nil ?_ | with_reducible refine r_cons ?_ | with_reducible refine r_disp ?_ | with_reducible refine r_lst ?_ | with_reducible refine r_cat ?_ | with_reducible refine r_of ?_ | with_reducible refine r_eqL ?_ | with_reducible refine r_pop ?_ | with_reducible refine s_asgR ?_ | with_reducible refine s_setR ?_ | with_reducible refine s_retR ?_ | with_reducible refine s_iteR ?_ | with_reducible refine s_unpR ?_ | with_reducible refine ss_nilR ?_ | ((with_reducible refine r_callv ?_); refine ⟨_, rfl, ?_⟩) | ((with_reducible refine r_setD ?_); refine ⟨_, _, rfl, rfl, rfl, ?_⟩) | ((with_reducible refine r_popD ?_); refine ⟨_, _, rfl, ?_⟩)) | with_reducible refine ex_bool ?_ | with_reducible refine ex_eq ?_ | with_reducible refine ex_lt ?_ | with_reducible refine ex_le ?_ | with_reducible refine ex_gt ?_ | with_reducible refine ex_add ?_ | with_reducible refine ex_sub ?_ | ((with_reducible refine ex_mod ?_ ?_); (· first | assumption | decide)) | ((with_reducible refine ex_mulR ?_ ?_); · decide) | ((with_reducible refine ex_mulL ?_ ?_); · decide) | ((with_reducible refine ex_pow ?_ ?_ ?_); (· decide); (· first | omega | decide)) | ((with_reducible refine ex_fdiv ?_ ?_ ?_); (· first | assumption | decide); (· first | assumption | decide)) | ((with_reducible refine ex_get ?_); refine ⟨_, rfl, ?_⟩; (try dsimp only)) | ((with_reducible refine ex_len ?_ ?_); (· exact Nat.le_of_ble_eq_true rfl)) | ((with_reducible refine ex_plain ?_); refine ⟨_, rfl, Nat.le_of_ble_eq_true rfl, ?_⟩; (try dsimp only)))
  (with_reducible refine ss_consR ?_); repeat (first | (first | ((with_reducible refine r_var ?_); refine ⟨_, rfl, ?_⟩) | with_reducible refine r_cst ?_ | with_reducible refine r_bin ?_ | with_reducible refine r_cmp ?_ | with_reducible refine r_chain ?_ | with_reducible refine r_and ?_ | with_reducible refine r_or ?_ | with_reducible refine r_not ?_ | with_reducible refine r_idx ?_ | with_reducible refine r_idxL ?_ | with_reducible refine r_slice ?_ | with_reducible refine r_len ?_ | with_reducible refine r_isi ?_ | with_reducible refine r_toInt ?_ | with_reducible refine r_all ?_ | with_reducible refine r_tupOf ?_ | with_reducible refine r_wget ?_ | with_reducible refine r_dictOf ?_ | with_reducible refine r_lenset ?_ | with_reducible refine r_call ?_ | with_reducible refine r_tup ?_ | with_reducible refine r_nil ?_ | with_reducible refine r_cons ?_ | with_reducible refine r_disp ?_ | with_reducible refine r_lst ?_ | with_reducible refine r_cat ?_ | with_reducible refine r_of ?_ | with_reducible refine r_eqL ?_ | with_reducible refine r_pop ?_ | with_reducible refine s_asgR ?_ | with_reducible refine s_setR ?_ | with_reducible refine s_retR ?_ | with_reducible refine s_iteR ?_ | with_reducible refine s_unpR ?_ | with_reducible refine ss_nilR ?_ | ((with_reducible refine r_callv ?_); refine ⟨_, rfl, ?_⟩) | ((with_reducible refine r_setD ?_); refine ⟨_, _, rfl, rfl, rfl, ?_⟩) | ((with_reducible refine r_popD ?_); refine ⟨_, _, rfl, ?_⟩)) | with_reducible refine ex_bool ?_ | with_reducible refine ex_eq ?_ | with_reducible refine ex_lt ?_ | with_reducible refine ex_le ?_ | with_reducible refine ex_gt ?_ | with_reducible refine ex_add ?_ | with_reducible refine ex_sub ?_ | ((with_reducible refine ex_mod ?_ ?_); (· first | assumption | decide)) | ((with_reducible refine ex_mulR ?_ ?_); · decide) | ((with_reducible refine ex_mulL ?_ ?_); · decide) | ((with_reducible refine ex_pow ?_ ?_ ?_); (· decide); (· first | omega | decide)) | ((with_reducible refine ex_fdiv ?_ ?_ ?_); (· first | assumption | decide); (· first | assumption | decide)) | ((with_reducible refine ex_get ?_); refine ⟨_, rfl, ?_⟩; (try dsimp only)) | ((with_reducible refine ex_len ?_ ?_); (· exact Nat.le_of_ble_eq_true rfl)) | ((with_reducible refine ex_plain ?_); refine ⟨_, rfl, Nat.le_of_ble_eq_true rfl, ?_⟩; (try dsimp only)))
  refine ifB (fun h => ?_) (fun h => ?_)
  · repeat (first | (first | ((with_reducible refine r_var ?_); refine ⟨_, rfl, ?_⟩) | with_reducible refine r_cst ?_ | with_reducible refine r_bin ?_ | with_reducible refine r_cmp ?_ | with_reducible refine r_chain ?_ | with_reducible refine r_and ?_ | with_reducible refine r_or ?_ | with_reducible refine r_not ?_ | with_reducible refine r_idx ?_ | with_reducible refine r_idxL ?_ | with_reducible refine r_slice ?_ | with_reducible refine r_len ?_ | with_reducible refine r_isi ?_ | with_reducible refine r_toInt ?_ | with_reducible refine r_all ?_ | with_reducible refine r_tupOf ?_ | with_reducible refine r_wget ?_ | with_reducible refine r_dictOf ?_ | with_reducible refine r_lenset ?_ | with_reducible refine r_call ?_ | with_reducible refine r_tup ?_ | with_reducible refine r_nil ?_ | with_reducible refine r_cons ?_ | with_reducible refine r_disp ?_ | with_reducible refine r_lst ?_ | with_reducible refine r_cat ?_ | with_reducible refine r_of ?_ | with_reducible refine r_eqL ?_ | with_reducible refine r_pop ?_ | with_reducible refine s_asgR ?_ | with_reducible refine s_setR ?_ | with_reducible refine s_retR ?_ | with_reducible refine s_iteR ?_ | with_reducible refine s_unpR ?_ | with_reducible refine ss_nilR ?_ | ((with_reducible refine r_callv ?_); refine ⟨_, rfl, ?_⟩) | ((with_reducible refine r_setD ?_); refine ⟨_, _, rfl, rfl, rfl, ?_⟩) | ((with_reducible refine r_popD ?_); refine ⟨_, _, rfl, ?_⟩)) | with_reducible refine ex_bool ?_ | with_reducible refine ex_eq ?_ | with_reducible refine ex_lt ?_ | with_reducible refine ex_le ?_ | with_reducible refine ex_gt ?_ | with_reducible refine ex_add ?_ | with_reducible refine ex_sub ?_ | ((with_reducible refine ex_mod ?_ ?_); (· first | assumption | decide)) | ((with_reducible refine ex_mulR ?_ ?_); · decide) | ((with_reducible refine ex_mulL ?_ ?_); · decide) | ((with_reducible refine ex_pow ?_ ?_ ?_); (· decide); (· first | omega | decide)) | ((with_reducible refine ex_fdiv ?_ ?_ ?_); (· first | assumption | decide); (· first | assumption | decide)) | ((with_reducible refine ex_get ?_); refine ⟨_, rfl, ?_⟩; (try dsimp only)) | ((with_reducible refine ex_len ?_ ?_); (· exact Nat.le_of_ble_eq_true rfl)) | ((with_reducible refine ex_plain ?_); refine ⟨_, rfl, Nat.le_of_ble_eq_true rfl, ?_⟩; (try dsimp only)))
    refine ⟨_, _, rfl, eqL_ints true ms, ?_⟩
    repeat (first | (first | ((with_reducible refine r_var ?_); refine ⟨_, rfl, ?_⟩) | with_reducible refine r_cst ?_ | with_reducible refine r_bin ?_ | with_reducible refine r_cmp ?_ | with_reducible refine r_chain ?_ | with_reducible refine r_and ?_ | with_reducible refine r_or ?_ | with_reducible refine r_not ?_ | with_reducible refine r_idx ?_ | with_reducible refine r_idxL ?_ | with_reducible refine r_slice ?_ | with_reducible refine r_len ?_ | with_reducible refine r_isi ?_ | with_reducible refine r_toInt ?_ | with_reducible refine r_all ?_ | with_reducible refine r_tupOf ?_ | with_reducible refine r_wget ?_ | with_reducible refine r_dictOf ?_ | with_reducible refine r_lenset ?_ | with_reducible refine r_call ?_ | with_reducible refine r_tup ?_ | with_reducible refine r_nil ?_ | with_reducible refine r_cons ?_ | with_reducible refine r_disp ?_ | with_reducible refine r_lst ?_ | with_reducible refine r_cat ?_ | with_reducible refine r_of ?_ | with_reducible refine r_eqL ?_ | with_reducible refine r_pop ?_ | with_reducible refine s_asgR ?_ | with_reducible refine s_setR ?_ | with_reducible refine s_retR ?_ | with_reducible refine s_iteR ?_ | with_reducible refine s_unpR ?_ | with_reducible refine ss_nilR ?_ | ((with_reducible refine r_callv ?_); refine ⟨_, rfl, ?_⟩) | ((with_reducible refine r_setD ?_); refine ⟨_, _, rfl, rfl, rfl, ?_⟩) | ((with_reducible refine r_popD ?_); refine ⟨_, _, rfl, ?_⟩)) | with_reducible refine ex_bool ?_ | with_reducible refine ex_eq ?_ | with_reducible refine ex_lt ?_ | with_reducible refine ex_le ?_ | with_reducible refine ex_gt ?_ | with_reducible refine ex_add ?_ | with_reducible refine ex_sub ?_ | ((with_reducible refine ex_mod ?_ ?_); (· first | assumption | decide)) | ((with_reducible refine ex_mulR ?_ ?_); · decide) | ((with_reducible refine ex_mulL ?_ ?_); · decide) | ((with_reducible refine ex_pow ?_ ?_ ?_); (· decide); (· first | omega | decide)) | ((with_reducible refine ex_fdiv ?_ ?_ ?_); (· first | assumption | decide); (· first | assumption | decide)) | ((with_reducible refine ex_get ?_); refine ⟨_, rfl, ?_⟩; (try dsimp only)) | ((with_reducible refine ex_len ?_ ?_); (· exact Nat.le_of_ble_eq_true rfl)) | ((with_reducible refine ex_plain ?_); refine ⟨_, rfl, Nat.le_of_ble_eq_true rfl, ?_⟩; (try dsimp only)))
    cases ms with
    | nil =>
      refine ifF ?_
      repeat (first | (first | ((with_reducible refine r_var ?_); refine ⟨_, rfl, ?_⟩) | with_reducible refine r_cst ?_ | with_reducible refine r_bin ?_ | with_reducible refine r_cmp ?_ | with_reducible refine r_chain ?_ | with_reducible refine r_and ?_ | with_reducible refine r_or ?_ | with_reducible refine r_not ?_ | with_reducible refine r_idx ?_ | with_reducible refine r_idxL ?_ | with_reducible refine r_slice ?_ | with_reducible refine r_len ?_ | with_reducible refine r_isi ?_ | with_reducible refine r_toInt ?_ | with_reducible refine r_all ?_ | with_reducible refine r_tupOf ?_ | with_reducible refine r_wget ?_ | with_reducible refine r_dictOf ?_ | with_reducible refine r_lenset ?_ | with_reducible refine r_call ?_ | with_reducible refine r_tup ?_ | with_reducible refine r_nil ?_ | with_reducible refine r_cons ?_ | with_reducible refine r_disp ?_ | with_reducible refine r_lst ?_ | with_reducible refine r_cat ?_ | with_reducible refine r_of ?_ | with_reducible refine r_eqL ?_ | with_reducible refine r_pop ?_ | with_reducible refine s_asgR ?_ | with_reducible refine s_setR ?_ | with_reducible refine s_retR ?_ | with_reducible refine s_iteR ?_ | with_reducible refine s_unpR ?_ | with_reducible refine ss_nilR ?_ | ((with_reducible refine r_callv ?_); refine ⟨_, rfl, ?_⟩) | ((with_reducible refine r_setD ?_); refine ⟨_, _, rfl, rfl, rfl, ?_⟩) | ((with_reducible refine r_popD ?_); refine ⟨_, _, rfl, ?_⟩)) | with_reducible refine ex_bool ?_ | with_reducible refine ex_eq ?_ | with_reducible refine ex_lt ?_ | with_reducible refine ex_le ?_ | with_reducible refine ex_gt ?_ | with_reducible refine ex_add ?_ | with_reducible refine ex_sub ?_ | ((with_reducible refine ex_mod ?_ ?_); (· first | assumption | decide)) | ((with_reducible refine ex_mulR ?_ ?_); · decide) | ((with_reducible refine ex_mulL ?_ ?_); · decide) | ((with_reducible refine ex_pow ?_ ?_ ?_); (· decide); (· first | omega | decide)) | ((with_reducible refine ex_fdiv ?_ ?_ ?_); (· first | assumption | decide); (· first | assumption | decide)) | ((with_reducible refine ex_get ?_); refine ⟨_, rfl, ?_⟩; (try dsimp only)) | ((with_reducible refine ex_len ?_ ?_); (· exact Nat.le_of_ble_eq_true rfl)) | ((with_reducible refine ex_plain ?_); refine ⟨_, rfl, Nat.le_of_ble_eq_true rfl, ?_⟩; (try dsimp only)))
      exact T [] b e he he2
    | cons m ms =>
      refine ifT ?_
      (with_reducible refine ss_consR ?_); repeat (first | (first | ((with_reducible refine r_var ?_); refine ⟨_, rfl, ?_⟩) | with_reducible refine r_cst ?_ | with_reducible refine r_bin ?_ | with_reducible refine r_cmp ?_ | with_reducible refine r_chain ?_ | with_reducible refine r_and ?_ | with_reducible refine r_or ?_ | with_reducible refine r_not ?_ | with_reducible refine r_idx ?_ | with_reducible refine r_idxL ?_ | with_reducible refine r_slice ?_ | with_reducible refine r_len ?_ | with_reducible refine r_isi ?_ | with_reducible refine r_toInt ?_ | with_reducible refine r_all ?_ | with_reducible refine r_tupOf ?_ | with_reducible refine r_wget ?_ | with_reducible refine r_dictOf ?_ | with_reducible refine r_lenset ?_ | with_reducible refine r_call ?_ | with_reducible refine r_tup ?_ | with_reducible refine r_nil ?_ | with_reducible refine r_cons ?_ | with_reducible refine r_disp ?_ | with_reducible refine r_lst ?_ | with_reducible refine r_cat ?_ | with_reducible refine r_of ?_ | with_reducible refine r_eqL ?_ | with_reducible refine r_pop ?_ | with_reducible refine s_asgR ?_ | with_reducible refine s_setR ?_ | with_reducible refine s_retR ?_ | with_reducible refine s_iteR ?_ | with_reducible refine s_unpR ?_ | with_reducible refine ss_nilR ?_ | ((with_reducible refine r_callv ?_); refine ⟨_, rfl, ?_⟩) | ((with_reducible refine r_setD ?_); refine ⟨_, _, rfl, rfl, rfl, ?_⟩) | ((with_reducible refine r_popD ?_); refine ⟨_, _, rfl, ?_⟩)) | with_reducible refine ex_bool ?_ | with_reducible refine ex_eq ?_ | with_reducible refine ex_lt ?_ | with_reducible refine ex_le ?_ | with_reducible refine ex_gt ?_ | with_reducible refine ex_add ?_ | with_reducible refine ex_sub ?_ | ((with_reducible refine ex_mod ?_ ?_); (· first | assumption | decide)) | ((with_reducible refine ex_mulR ?_ ?_); · decide) | ((with_reducible refine ex_mulL ?_ ?_); · decide) | ((with_reducible refine ex_pow ?_ ?_ ?_); (· decide); (· first | omega | decide)) | ((with_reducible refine ex_fdiv ?_ ?_ ?_); (· first | assumption | decide); (· first | assumption | decide)) | ((with_reducible refine ex_get ?_); refine ⟨_, rfl, ?_⟩; (try dsimp only)) | ((with_reducible refine ex_len ?_ ?_); (· exact Nat.le_of_ble_eq_true rfl)) | ((with_reducible refine ex_plain ?_); refine ⟨_, rfl, Nat.le_of_ble_eq_true rfl, ?_⟩; (try dsimp only)))
      refine ⟨_, rfl, ?_⟩
      repeat (first | (first | ((with_reducible refine r_var ?_); refine ⟨_, rfl, ?_⟩) | with_reducible refine r_cst ?_ | with_reducible refine r_bin ?_ | with_reducible refine r_cmp ?_ | with_reducible refine r_chain ?_ | with_reducible refine r_and ?_ | with_reducible refine r_or ?_ | with_reducible refine r_not ?_ | with_reducible refine r_idx ?_ | with_reducible refine r_idxL ?_ | with_reducible refine r_slice ?_ | with_reducible refine r_len ?_ | with_reducible refine r_isi ?_ | with_reducible refine r_toInt ?_ | with_reducible refine r_all ?_ | with_reducible refine r_tupOf ?_ | with_reducible refine r_wget ?_ | with_reducible refine r_dictOf ?_ | with_reducible refine r_lenset ?_ | with_reducible refine r_call ?_ | with_reducible refine r_tup ?_ | with_reducible refine r_nil ?_ | with_reducible refine r_cons ?_ | with_reducible refine r_disp ?_ | with_reducible refine r_lst ?_ | with_reducible refine r_cat ?_ | with_reducible refine r_of ?_ | with_reducible refine r_eqL ?_ | with_reducible refine r_pop ?_ | with_reducible refine s_asgR ?_ | with_reducible refine s_setR ?_ | with_reducible refine s_retR ?_ | with_reducible refine s_iteR ?_ | with_reducible refine s_unpR ?_ | with_reducible refine ss_nilR ?_ | ((with_reducible refine r_callv ?_); refine ⟨_, rfl, ?_⟩) | ((with_reducible refine r_setD ?_); refine ⟨_, _, rfl, rfl, rfl, ?_⟩) | ((with_reducible refine r_popD ?_); refine ⟨_, _, rfl, ?_⟩)) | with_reducible refine ex_bool ?_ | with_reducible refine ex_eq ?_ | with_reducible refine ex_lt ?_ | with_reducible refine ex_le ?_ | with_reducible refine ex_gt ?_ | with_reducible refine ex_add ?_ | with_reducible refine ex_sub ?_ | ((with_reducible refine ex_mod ?_ ?_); (· first | assumption | decide)) | ((with_reducible refine ex_mulR ?_ ?_); · decide) | ((with_reducible refine ex_mulL ?_ ?_); · decide) | ((with_reducible refine ex_pow ?_ ?_ ?_); (· decide); (· first | omega | decide)) | ((with_reducible refine ex_fdiv ?_ ?_ ?_); (· first | assumption | decide); (· first | assumption | decide)) | ((with_reducible refine ex_get ?_); refine ⟨_, rfl, ?_⟩; (try dsimp only)) | ((with_reducible refine ex_len ?_ ?_); (· exact Nat.le_of_ble_eq_true rfl)) | ((with_reducible refine ex_plain ?_); refine ⟨_, rfl, Nat.le_of_ble_eq_true rfl, ?_⟩; (try dsimp only)))
      (with_reducible refine ss_consR ?_); repeat (first | (first | ((with_reducible refine r_var ?_); refine ⟨_, rfl, ?_⟩) | with_reducible refine r_cst ?_ | with_reducible refine r_bin ?_ | with_reducible refine r_cmp ?_ | with_reducible refine r_chain ?_ | with_reducible refine r_and ?_ | with_reducible refine r_or ?_ | with_reducible refine r_not ?_ | with_reducible refine r_idx ?_ | with_reducible refine r_idxL ?_ | with_reducible refine r_slice ?_ | with_reducible refine r_len ?_ | with_reducible refine r_isi ?_ | with_reducible refine r_toInt ?_ | with_reducible refine r_all ?_ | with_reducible refine r_tupOf ?_ | with_reducible refine r_wget ?_ | with_reducible refine r_dictOf ?_ | with_reducible refine r_lenset ?_ | with_reducible refine r_call ?_ | with_reducible refine r_tup ?_ | with_reducible refine r_nil ?_ | with_reducible refine r_cons ?_ | with_reducible refine r_disp ?_ | with_reducible refine r_lst ?_ | with_reducible refine r_cat ?_ | with_reducible refine r_of ?_ | with_reducible refine r_eqL ?_ | with_reducible refine r_pop ?_ | with_reducible refine s_asgR ?_ | with_reducible refine s_setR ?_ | with_reducible refine s_retR ?_ | with_reducible refine s_iteR ?_ | with_reducible refine s_unpR ?_ | with_reducible refine ss_nilR ?_ | ((with_reducible refine r_callv ?_); refine ⟨_, rfl, ?_⟩) | ((with_reducible refine r_setD ?_); refine ⟨_, _, rfl, rfl, rfl, ?_⟩) | ((with_reducible refine r_popD ?_); refine ⟨_, _, rfl, ?_⟩)) | with_reducible refine ex_bool ?_ | with_reducible refine ex_eq ?_ | with_reducible refine ex_lt ?_ | with_reducible refine ex_le ?_ | with_reducible refine ex_gt ?_ | with_reducible refine ex_add ?_ | with_reducible refine ex_sub ?_ | ((with_reducible refine ex_mod ?_ ?_); (· first | assumption | decide)) | ((with_reducible refine ex_mulR ?_ ?_); · decide) | ((with_reducible refine ex_mulL ?_ ?_); · decide) | ((with_reducible refine ex_pow ?_ ?_ ?_); (· decide); (· first | omega | decide)) | ((with_reducible refine ex_fdiv ?_ ?_ ?_); (· first | assumption | decide); (· first | assumption | decide)) | ((with_reducible refine ex_get ?_); refine ⟨_, rfl, ?_⟩; (try dsimp only)) | ((with_reducible refine ex_len ?_ ?_); (· exact Nat.le_of_ble_eq_true rfl)) | ((with_reducible refine ex_plain ?_); refine ⟨_, rfl, Nat.le_of_ble_eq_true rfl, ?_⟩; (try dsimp only)))
      refine ifB (fun h => ?_) (fun h => ?_)
      · (with_reducible refine ss_consR ?_); repeat (first | (first | ((with_reducible refine r_var ?_); refine ⟨_, rfl, ?_⟩) | with_reducible refine r_cst ?_ | with_reducible refine r_bin ?_ | with_reducible refine r_cmp ?_ | with_reducible refine r_chain ?_ | with_reducible refine r_and ?_ | with_reducible refine r_or ?_ | with_reducible refine r_not ?_ | with_reducible refine r_idx ?_ | with_reducible refine r_idxL ?_ | with_reducible refine r_slice ?_ | with_reducible refine r_len ?_ | with_reducible refine r_isi ?_ | with_reducible refine r_toInt ?_ | with_reducible refine r_all ?_ | with_reducible refine r_tupOf ?_ | with_reducible refine r_wget ?_ | with_reducible refine r_dictOf ?_ | with_reducible refine r_lenset ?_ | with_reducible refine r_call ?_ | with_reducible refine r_tup ?_ | with_reducible refine r_nil ?_ | with_reducible refine r_cons ?_ | with_reducible refine r_disp ?_ | with_reducible refine r_lst ?_ | with_reducible refine r_cat ?_ | with_reducible refine r_of ?_ | with_reducible refine r_eqL ?_ | with_reducible refine r_pop ?_ | with_reducible refine s_asgR ?_ | with_reducible refine s_setR ?_ | with_reducible refine s_retR ?_ | with_reducible refine s_iteR ?_ | with_reducible refine s_unpR ?_ | with_reducible refine ss_nilR ?_ | ((with_reducible refine r_callv ?_); refine ⟨_, rfl, ?_⟩) | ((with_reducible refine r_setD ?_); refine ⟨_, _, rfl, rfl, rfl, ?_⟩) | ((with_reducible refine r_popD ?_); refine ⟨_, _, rfl, ?_⟩)) | with_reducible refine ex_bool ?_ | with_reducible refine ex_eq ?_ | with_reducible refine ex_lt ?_ | with_reducible refine ex_le ?_ | with_reducible refine ex_gt ?_ | with_reducible refine ex_add ?_ | with_reducible refine ex_sub ?_ | ((with_reducible refine ex_mod ?_ ?_); (· first | assumption | decide)) | ((with_reducible refine ex_mulR ?_ ?_); · decide) | ((with_reducible refine ex_mulL ?_ ?_); · decide) | ((with_reducible refine ex_pow ?_ ?_ ?_); (· decide); (· first | omega | decide)) | ((with_reducible refine ex_fdiv ?_ ?_ ?_); (· first | assumption | decide); (· first | assumption | decide)) | ((with_reducible refine ex_get ?_); refine ⟨_, rfl, ?_⟩; (try dsimp only)) | ((with_reducible refine ex_len ?_ ?_); (· exact Nat.le_of_ble_eq_true rfl)) | ((with_reducible refine ex_plain ?_); refine ⟨_, rfl, Nat.le_of_ble_eq_true rfl, ?_⟩; (try dsimp only)))
        (with_reducible refine ss_consR ?_); repeat (first | (first | ((with_reducible refine r_var ?_); refine ⟨_, rfl, ?_⟩) | with_reducible refine r_cst ?_ | with_reducible refine r_bin ?_ | with_reducible refine r_cmp ?_ | with_reducible refine r_chain ?_ | with_reducible refine r_and ?_ | with_reducible refine r_or ?_ | with_reducible refine r_not ?_ | with_reducible refine r_idx ?_ | with_reducible refine r_idxL ?_ | with_reducible refine r_slice ?_ | with_reducible refine r_len ?_ | with_reducible refine r_isi ?_ | with_reducible refine r_toInt ?_ | with_reducible refine r_all ?_ | with_reducible refine r_tupOf ?_ | with_reducible refine r_wget ?_ | with_reducible refine r_dictOf ?_ | with_reducible refine r_lenset ?_ | with_reducible refine r_call ?_ | with_reducible refine r_tup ?_ | with_reducible refine r_nil ?_ | with_reducible refine r_cons ?_ | with_reducible refine r_disp ?_ | with_reducible refine r_lst ?_ | with_reducible refine r_cat ?_ | with_reducible refine r_of ?_ | with_reducible refine r_eqL ?_ | with_reducible refine r_pop ?_ | with_reducible refine s_asgR ?_ | with_reducible refine s_setR ?_ | with_reducible refine s_retR ?_ | with_reducible refine s_iteR ?_ | with_reducible refine s_unpR ?_ | with_reducible refine ss_nilR ?_ | ((with_reducible refine r_callv ?_); refine ⟨_, rfl, ?_⟩) | ((with_reducible refine r_setD ?_); refine ⟨_, _, rfl, rfl, rfl, ?_⟩) | ((with_reducible refine r_popD ?_); refine ⟨_, _, rfl, ?_⟩)) | with_reducible refine ex_bool ?_ | with_reducible refine ex_eq ?_ | with_reducible refine ex_lt ?_ | with_reducible refine ex_le ?_ | with_reducible refine ex_gt ?_ | with_reducible refine ex_add ?_ | with_reducible refine ex_sub ?_ | ((with_reducible refine ex_mod ?_ ?_); (· first | assumption | decide)) | ((with_reducible refine ex_mulR ?_ ?_); · decide) | ((with_reducible refine ex_mulL ?_ ?_); · decide) | ((with_reducible refine ex_pow ?_ ?_ ?_); (· decide); (· first | omega | decide)) | ((with_reducible refine ex_fdiv ?_ ?_ ?_); (· first | assumption | decide); (· first | assumption | decide)) | ((with_reducible refine ex_get ?_); refine ⟨_, rfl, ?_⟩; (try dsimp only)) | ((with_reducible refine ex_len ?_ ?_); (· exact Nat.le_of_ble_eq_true rfl)) | ((with_reducible refine ex_plain ?_); refine ⟨_, rfl, Nat.le_of_ble_eq_true rfl, ?_⟩; (try dsimp only)))
        exact T ms 0 _ (Int.emod_nonneg _ (by decide)) (Int.emod_lt_of_pos _ (by decide))
      · repeat (first | (first | ((with_reducible refine r_var ?_); refine ⟨_, rfl, ?_⟩) | with_reducible refine r_cst ?_ | with_reducible refine r_bin ?_ | with_reducible refine r_cmp ?_ | with_reducible refine r_chain ?_ | with_reducible refine r_and ?_ | with_reducible refine r_or ?_ | with_reducible refine r_not ?_ | with_reducible refine r_idx ?_ | with_reducible refine r_idxL ?_ | with_reducible refine r_slice ?_ | with_reducible refine r_len ?_ | with_reducible refine r_isi ?_ | with_reducible refine r_toInt ?_ | with_reducible refine r_all ?_ | with_reducible refine r_tupOf ?_ | with_reducible refine r_wget ?_ | with_reducible refine r_dictOf ?_ | with_reducible refine r_lenset ?_ | with_reducible refine r_call ?_ | with_reducible refine r_tup ?_ | with_reducible refine r_nil ?_ | with_reducible refine r_cons ?_ | with_reducible refine r_disp ?_ | with_reducible refine r_lst ?_ | with_reducible refine r_cat ?_ | with_reducible refine r_of ?_ | with_reducible refine r_eqL ?_ | with_reducible refine r_pop ?_ | with_reducible refine s_asgR ?_ | with_reducible refine s_setR ?_ | with_reducible refine s_retR ?_ | with_reducible refine s_iteR ?_ | with_reducible refine s_unpR ?_ | with_reducible refine ss_nilR ?_ | ((with_reducible refine r_callv ?_); refine ⟨_, rfl, ?_⟩) | ((with_reducible refine r_setD ?_); refine ⟨_, _, rfl, rfl, rfl, ?_⟩) | ((with_reducible refine r_popD ?_); refine ⟨_, _, rfl, ?_⟩)) | with_reducible refine ex_bool ?_ | with_reducible refine ex_eq ?_ | with_reducible refine ex_lt ?_ | with_reducible refine ex_le ?_ | with_reducible refine ex_gt ?_ | with_reducible refine ex_add ?_ | with_reducible refine ex_sub ?_ | ((with_reducible refine ex_mod ?_ ?_); (· first | assumption | decide)) | ((with_reducible refine ex_mulR ?_ ?_); · decide) | ((with_reducible refine ex_mulL ?_ ?_); · decide) | ((with_reducible refine ex_pow ?_ ?_ ?_); (· decide); (· first | omega | decide)) | ((with_reducible refine ex_fdiv ?_ ?_ ?_); (· first | assumption | decide); (· first | assumption | decide)) | ((with_reducible refine ex_get ?_); refine ⟨_, rfl, ?_⟩; (try dsimp only)) | ((with_reducible refine ex_len ?_ ?_); (· exact Nat.le_of_ble_eq_true rfl)) | ((with_reducible refine ex_plain ?_); refine ⟨_, rfl, Nat.le_of_ble_eq_true rfl, ?_⟩; (try dsimp only)))
        exact T ms m e he he2
  · repeat (first | (first | ((with_reducible refine r_var ?_); refine ⟨_, rfl, ?_⟩) | with_reducible refine r_cst ?_ | with_reducible refine r_bin ?_ | with_reducible refine r_cmp ?_ | with_reducible refine r_chain ?_ | with_reducible refine r_and ?_ | with_reducible refine r_or ?_ | with_reducible refine r_not ?_ | with_reducible refine r_idx ?_ | with_reducible refine r_idxL ?_ | with_reducible refine r_slice ?_ | with_reducible refine r_len ?_ | with_reducible refine r_isi ?_ | with_reducible refine r_toInt ?_ | with_reducible refine r_all ?_ | with_reducible refine r_tupOf ?_ | with_reducible refine r_wget ?_ | with_reducible refine r_dictOf ?_ | with_reducible refine r_lenset ?_ | with_reducible refine r_call ?_ | with_reducible refine r_tup ?_ | with_reducible refine r_nil ?_ | with_reducible refine r_cons ?_ | with_reducible refine r_disp ?_ | with_reducible refine r_lst ?_ | with_reducible refine r_cat ?_ | with_reducible refine r_of ?_ | with_reducible refine r_eqL ?_ | with_reducible refine r_pop ?_ | with_reducible refine s_asgR ?_ | with_reducible refine s_setR ?_ | with_reducible refine s_retR ?_ | with_reducible refine s_iteR ?_ | with_reducible refine s_unpR ?_ | with_reducible refine ss_nilR ?_ | ((with_reducible refine r_callv ?_); refine ⟨_, rfl, ?_⟩) | ((with_reducible refine r_setD ?_); refine ⟨_, _, rfl, rfl, rfl, ?_⟩) | ((with_reducible refine r_popD ?_); refine ⟨_, _, rfl, ?_⟩)) | with_reducible refine ex_bool ?_ | with_reducible refine ex_eq ?_ | with_reducible refine ex_lt ?_ | with_reducible refine ex_le ?_ | with_reducible refine ex_gt ?_ | with_reducible refine ex_add ?_ | with_reducible refine ex_sub ?_ | ((with_reducible refine ex_mod ?_ ?_); (· first | assumption | decide)) | ((with_reducible refine ex_mulR ?_ ?_); · decide) | ((with_reducible refine ex_mulL ?_ ?_); · decide) | ((with_reducible refine ex_pow ?_ ?_ ?_); (· decide); (· first | omega | decide)) | ((with_reducible refine ex_fdiv ?_ ?_ ?_); (· first | assumption | decide); (· first | assumption | decide)) | ((with_reducible refine ex_get ?_); refine ⟨_, rfl, ?_⟩; (try dsimp only)) | ((with_reducible refine ex_len ?_ ?_); (· exact Nat.le_of_ble_eq_true rfl)) | ((with_reducible refine ex_plain ?_); refine ⟨_, rfl, Nat.le_of_ble_eq_true rfl, ?_⟩; (try dsimp only)))
    refine ifF ?_
    repeat (first | (first | ((with_reducible refine r_var ?_); refine ⟨_, rfl, ?_⟩) | with_reducible refine r_cst ?_ | with_reducible refine r_bin ?_ | with_reducible refine r_cmp ?_ | with_reducible refine r_chain ?_ | with_reducible refine r_and ?_ | with_reducible refine r_or ?_ | with_reducible refine r_not ?_ | with_reducible refine r_idx ?_ | with_reducible refine r_idxL ?_ | with_reducible refine r_slice ?_ | with_reducible refine r_len ?_ | with_reducible refine r_isi ?_ | with_reducible refine r_toInt ?_ | with_reducible refine r_all ?_ | with_reducible refine r_tupOf ?_ | with_reducible refine r_wget ?_ | with_reducible refine r_dictOf ?_ | with_reducible refine r_lenset ?_ | with_reducible refine r_call ?_ | with_reducible refine r_tup ?_ | with_reducible refine r_nil ?_ | with_reducible refine r_cons ?_ | with_reducible refine r_disp ?_ | with_reducible refine r_lst ?_ | with_reducible refine r_cat ?_ | with_reducible refine r_of ?_ | with_reducible refine r_eqL ?_ | with_reducible refine r_pop ?_ | with_reducible refine s_asgR ?_ | with_reducible refine s_setR ?_ | with_reducible refine s_retR ?_ | with_reducible refine s_iteR ?_ | with_reducible refine s_unpR ?_ | with_reducible refine ss_nilR ?_ | ((with_reducible refine r_callv ?_); refine ⟨_, rfl, ?_⟩) | ((with_reducible refine r_setD ?_); refine ⟨_, _, rfl, rfl, rfl, ?_⟩) | ((with_reducible refine r_popD ?_); refine ⟨_, _, rfl, ?_⟩)) | with_reducible refine ex_bool ?_ | with_reducible refine ex_eq ?_ | with_reducible refine ex_lt ?_ | with_reducible refine ex_le ?_ | with_reducible refine ex_gt ?_ | with_reducible refine ex_add ?_ | with_reducible refine ex_sub ?_ | ((with_reducible refine ex_mod ?_ ?_); (· first | assumption | decide)) | ((with_reducible refine ex_mulR ?_ ?_); · decide) | ((with_reducible refine ex_mulL ?_ ?_); · decide) | ((with_reducible refine ex_pow ?_ ?_ ?_); (· decide); (· first | omega | decide)) | ((with_reducible refine ex_fdiv ?_ ?_ ?_); (· first | assumption | decide); (· first | assumption | decide)) | ((with_reducible refine ex_get ?_); refine ⟨_, rfl, ?_⟩; (try dsimp only)) | ((with_reducible refine ex_len ?_ ?_); (· exact Nat.le_of_ble_eq_true rfl)) | ((with_reducible refine ex_plain ?_); refine ⟨_, rfl, Nat.le_of_ble_eq_true rfl, ?_⟩; (try dsimp only)))
    exact T ms b e he he2
end Ir.K72
set_option Elab.async false
set_option linter.all false
set_option maxRecDepth 100000
set_option maxHeartbeats 4000001
namespace Ir.K72
open PySem PySem.W
theorem wp_eq {α : Type} {m : Out α} {a : α} {S : Sto} {ok : α → Sto → Prop} {ex : Ex → Sto → Prop} (h : m = .val a S) (k : ok a S) : wp m ok ex := by rw [h]; exact k
theorem take_self {A B : MO} {rest : Sto} {S S' : Sto} {N : Int} (h : dInv N rest S') (hl : S.length = rest.length + 2) : S'.take S.length = S' := by
  obtain ⟨ms, b, c, e, rfl, _⟩ := h
  rw [hl]
  apply List.take_of_length_le
  simp
theorem dInv_len {N : Int} {rest S : Sto} (h : dInv N rest S) : S.length = rest.length + 2 := by
  obtain ⟨ms, b, c, e, rfl, _⟩ := h
  simp
theorem dInv_mono {N M : Int} {rest S : Sto} (h : dInv N rest S) (l : N ≤ M) : dInv M rest S := by
  obtain ⟨ms, b, c, e, e1, h1, h2, h3⟩ := h
  exact ⟨ms, b, c, e, e1, h1, by omega, h3⟩
theorem draw_ok (k : Nat) {rest S : Sto} {N many : Int} (h : dInv N rest S) (hN : N ≤ 10000) (hm : 0 < many) (hm2 : many.natAbs.log2 < 9000) :
    wp (calK fs (k + 1) 22 [.ref 1, .p (.int many)] S) (fun d S' => ∃ r, d = .p (.int r) ∧ 0 ≤ r ∧ r < many ∧ dInv (N + 1) rest S') (fun _ _ => False) := by
  have hl := dInv_len h
  show wp (callF (calK fs k) ⟨2, 3, b22⟩ _ S) _ _
  refine call_wp rfl ?_
  obtain ⟨ms, b, c, e, rfl, h1, h2, h3, h4⟩ := id h
  refine wp_mono (draw_body (calK fs k) ms rest b c e many hm hm2 h1 (by omega) h3 h4 N h2) (fun x S' q => ?_) fun _ _ z => z
  obtain ⟨r, e1, h5, h6, h7⟩ := q
  refine ⟨_, e1, r, rfl, h5, h6, ?_⟩
  rw [take_self (A := .lst []) (B := .lst []) h7 hl]
  exact h7
/-- a row of the unit that must be one -/
inductive RowOk : PyData → Prop
  | one (w : Str) : w ∈ (["ask", "say", "drop", "twin", "turn", "plus", "minus", "times", "part", "same", "give", "throw"] : List Str) → RowOk (.tuple [.str w])
  | num (n : Int) : -1000000000000 ≤ n → n ≤ 999999999999 → RowOk (.tuple [.str "num", .int n])
  | box (w : Str) (n : Nat) : w ∈ (["get", "put"] : List Str) → n < 8 → RowOk (.tuple [.str w, .int n])
  | unit (w : Str) : w ∈ (["fits", "new"] : List Str) → RowOk (.tuple [.str w, .str "Some"])
  | way (w : Str) : w ∈ (["read", "write", "call", "hail"] : List Str) → RowOk (.tuple [.str w, .str "Some", .str "f"])
  | entry (w : Str) : w ∈ (["jump", "nought"] : List Str) → RowOk (.tuple [.str w, .int 0])
def words : List Str := ["ask", "say", "drop", "twin", "turn", "plus", "minus", "times", "part", "same", "give", "throw", "num", "get", "put", "fits", "new", "read", "write", "call", "hail", "jump", "nought"]
theorem row_plain {k : Nat} {w : Str} {row : PyData} {rest S : Sto} {N : Int} (h : dInv N rest S) (e : ∀ A B, callF (calK fs (k + 1)) ⟨2, 2, b23⟩ [.ref 1, .p (.str w)] (A :: B :: rest) = .val (.p row) ((A :: B :: rest).take (A :: B :: rest).length)) (r : RowOk row) :
    wp (calK fs (k + 2) 23 [.ref 1, .p (.str w)] S) (fun d S' => ∃ row, d = .p row ∧ RowOk row ∧ dInv (N + 2) rest S') (fun _ _ => False) := by
  obtain ⟨ms, b, c, f, rfl, h1, h2, h3, h4⟩ := h
  show wp (callF (calK fs (k + 1)) ⟨2, 2, b23⟩ _ _) _ _
  refine wp_eq (e _ _) ⟨row, rfl, r, ?_⟩
  rw [List.take_length]
  exact ⟨ms, b, c, f, rfl, h1, by omega, h3, h4⟩
theorem row_num {k : Nat} {rest S : Sto} {N : Int} (h : dInv N rest S) (hN : N ≤ 9000) :
    wp (calK fs (k + 2) 23 [.ref 1, .p (.str "num")] S) (fun d S' => ∃ row, d = .p row ∧ RowOk row ∧ dInv (N + 2) rest S') (fun _ _ => False) := by
  have hl := dInv_len h
  show wp (callF (calK fs (k + 1)) ⟨2, 2, b23⟩ _ _) _ _
  refine call_wp rfl ?_
  unfold b23
  (with_reducible refine ss_consR ?_); repeat (first | (first | ((with_reducible refine r_var ?_); refine ⟨_, rfl, ?_⟩) | with_reducible refine r_cst ?_ | with_reducible refine r_bin ?_ | with_reducible refine r_cmp ?_ | with_reducible refine r_chain ?_ | with_reducible refine r_and ?_ | with_reducible refine r_or ?_ | with_reducible refine r_not ?_ | with_reducible refine r_idx ?_ | with_reducible refine r_idxL ?_ | with_reducible refine r_slice ?_ | with_reducible refine r_len ?_ | with_reducible refine r_isi ?_ | with_reducible refine r_toInt ?_ | with_reducible refine r_all ?_ | with_reducible refine r_tupOf ?_ | with_reducible refine r_wget ?_ | with_reducible refine r_dictOf ?_ | with_reducible refine r_lenset ?_ | with_reducible refine r_call ?_ | with_reducible refine r_tup ?_ | with_reducible refine r_nil ?_ | with_reducible refine r_cons ?_ | with_reducible refine r_disp ?_ | with_reducible refine r_lst ?_ | with_reducible refine r_cat ?_ | with_reducible refine r_of ?_ | with_reducible refine r_eqL ?_ | with_reducible refine r_pop ?_ | with_reducible refine s_asgR ?_ | with_reducible refine s_setR ?_ | with_reducible refine s_retR ?_ | with_reducible refine s_iteR ?_ | with_reducible refine s_unpR ?_ | with_reducible refine ss_nilR ?_ | ((with_reducible refine r_callv ?_); refine ⟨_, rfl, ?_⟩) | ((with_reducible refine r_setD ?_); refine ⟨_, _, rfl, rfl, rfl, ?_⟩) | ((with_reducible refine r_popD ?_); refine ⟨_, _, rfl, ?_⟩)) | with_reducible refine ex_bool ?_ | with_reducible refine ex_eq ?_ | with_reducible refine ex_lt ?_ | with_reducible refine ex_le ?_ | with_reducible refine ex_gt ?_ | with_reducible refine ex_add ?_ | with_reducible refine ex_sub ?_ | ((with_reducible refine ex_mod ?_ ?_); (· first | assumption | decide)) | ((with_reducible refine ex_mulR ?_ ?_); · decide) | ((with_reducible refine ex_mulL ?_ ?_); · decide) | ((with_reducible refine ex_pow ?_ ?_ ?_); (· decide); (· first | omega | decide)) | ((with_reducible refine ex_fdiv ?_ ?_ ?_); (· first | assumption | decide); (· first | assumption | decide)) | ((with_reducible refine ex_get ?_); refine ⟨_, rfl, ?_⟩; (try dsimp only)) | ((with_reducible refine ex_len ?_ ?_); (· exact Nat.le_of_ble_eq_true rfl)) | ((with_reducible refine ex_plain ?_); refine ⟨_, rfl, Nat.le_of_ble_eq_true rfl, ?_⟩; (try dsimp only)))
  refine ⟨true, by kernel_rfl, ?_⟩
  repeat (first | (first | ((with_reducible refine r_var ?_); refine ⟨_, rfl, ?_⟩) | with_reducible refine r_cst ?_ | with_reducible refine r_bin ?_ | with_reducible refine r_cmp ?_ | with_reducible refine r_chain ?_ | with_reducible refine r_and ?_ | with_reducible refine r_or ?_ | with_reducible refine r_not ?_ | with_reducible refine r_idx ?_ | with_reducible refine r_idxL ?_ | with_reducible refine r_slice ?_ | with_reducible refine r_len ?_ | with_reducible refine r_isi ?_ | with_reducible refine r_toInt ?_ | with_reducible refine r_all ?_ | with_reducible refine r_tupOf ?_ | with_reducible refine r_wget ?_ | with_reducible refine r_dictOf ?_ | with_reducible refine r_lenset ?_ | with_reducible refine r_call ?_ | with_reducible refine r_tup ?_ | with_reducible refine r_nil ?_ | with_reducible refine r_cons ?_ | with_reducible refine r_disp ?_ | with_reducible refine r_lst ?_ | with_reducible refine r_cat ?_ | with_reducible refine r_of ?_ | with_reducible refine r_eqL ?_ | with_reducible refine r_pop ?_ | with_reducible refine s_asgR ?_ | with_reducible refine s_setR ?_ | with_reducible refine s_retR ?_ | with_reducible refine s_iteR ?_ | with_reducible refine s_unpR ?_ | with_reducible refine ss_nilR ?_ | ((with_reducible refine r_callv ?_); refine ⟨_, rfl, ?_⟩) | ((with_reducible refine r_setD ?_); refine ⟨_, _, rfl, rfl, rfl, ?_⟩) | ((with_reducible refine r_popD ?_); refine ⟨_, _, rfl, ?_⟩)) | with_reducible refine ex_bool ?_ | with_reducible refine ex_eq ?_ | with_reducible refine ex_lt ?_ | with_reducible refine ex_le ?_ | with_reducible refine ex_gt ?_ | with_reducible refine ex_add ?_ | with_reducible refine ex_sub ?_ | ((with_reducible refine ex_mod ?_ ?_); (· first | assumption | decide)) | ((with_reducible refine ex_mulR ?_ ?_); · decide) | ((with_reducible refine ex_mulL ?_ ?_); · decide) | ((with_reducible refine ex_pow ?_ ?_ ?_); (· decide); (· first | omega | decide)) | ((with_reducible refine ex_fdiv ?_ ?_ ?_); (· first | assumption | decide); (· first | assumption | decide)) | ((with_reducible refine ex_get ?_); refine ⟨_, rfl, ?_⟩; (try dsimp only)) | ((with_reducible refine ex_len ?_ ?_); (· exact Nat.le_of_ble_eq_true rfl)) | ((with_reducible refine ex_plain ?_); refine ⟨_, rfl, Nat.le_of_ble_eq_true rfl, ?_⟩; (try dsimp only)))
  refine ifT ?_
  (with_reducible refine ss_consR ?_); repeat (first | (first | ((with_reducible refine r_var ?_); refine ⟨_, rfl, ?_⟩) | with_reducible refine r_cst ?_ | with_reducible refine r_bin ?_ | with_reducible refine r_cmp ?_ | with_reducible refine r_chain ?_ | with_reducible refine r_and ?_ | with_reducible refine r_or ?_ | with_reducible refine r_not ?_ | with_reducible refine r_idx ?_ | with_reducible refine r_idxL ?_ | with_reducible refine r_slice ?_ | with_reducible refine r_len ?_ | with_reducible refine r_isi ?_ | with_reducible refine r_toInt ?_ | with_reducible refine r_all ?_ | with_reducible refine r_tupOf ?_ | with_reducible refine r_wget ?_ | with_reducible refine r_dictOf ?_ | with_reducible refine r_lenset ?_ | with_reducible refine r_call ?_ | with_reducible refine r_tup ?_ | with_reducible refine r_nil ?_ | with_reducible refine r_cons ?_ | with_reducible refine r_disp ?_ | with_reducible refine r_lst ?_ | with_reducible refine r_cat ?_ | with_reducible refine r_of ?_ | with_reducible refine r_eqL ?_ | with_reducible refine r_pop ?_ | with_reducible refine s_asgR ?_ | with_reducible refine s_setR ?_ | with_reducible refine s_retR ?_ | with_reducible refine s_iteR ?_ | with_reducible refine s_unpR ?_ | with_reducible refine ss_nilR ?_ | ((with_reducible refine r_callv ?_); refine ⟨_, rfl, ?_⟩) | ((with_reducible refine r_setD ?_); refine ⟨_, _, rfl, rfl, rfl, ?_⟩) | ((with_reducible refine r_popD ?_); refine ⟨_, _, rfl, ?_⟩)) | with_reducible refine ex_bool ?_ | with_reducible refine ex_eq ?_ | with_reducible refine ex_lt ?_ | with_reducible refine ex_le ?_ | with_reducible refine ex_gt ?_ | with_reducible refine ex_add ?_ | with_reducible refine ex_sub ?_ | ((with_reducible refine ex_mod ?_ ?_); (· first | assumption | decide)) | ((with_reducible refine ex_mulR ?_ ?_); · decide) | ((with_reducible refine ex_mulL ?_ ?_); · decide) | ((with_reducible refine ex_pow ?_ ?_ ?_); (· decide); (· first | omega | decide)) | ((with_reducible refine ex_fdiv ?_ ?_ ?_); (· first | assumption | decide); (· first | assumption | decide)) | ((with_reducible refine ex_get ?_); refine ⟨_, rfl, ?_⟩; (try dsimp only)) | ((with_reducible refine ex_len ?_ ?_); (· exact Nat.le_of_ble_eq_true rfl)) | ((with_reducible refine ex_plain ?_); refine ⟨_, rfl, Nat.le_of_ble_eq_true rfl, ?_⟩; (try dsimp only)))
  refine wp_mono (draw_ok k (many := 1000000000000) h (by omega) (by decide) (by decide)) (fun d S1 q => ?_) fun _ _ z => z
  obtain ⟨r, rfl, r0, r1, h1⟩ := q
  repeat (first | (first | ((with_reducible refine r_var ?_); refine ⟨_, rfl, ?_⟩) | with_reducible refine r_cst ?_ | with_reducible refine r_bin ?_ | with_reducible refine r_cmp ?_ | with_reducible refine r_chain ?_ | with_reducible refine r_and ?_ | with_reducible refine r_or ?_ | with_reducible refine r_not ?_ | with_reducible refine r_idx ?_ | with_reducible refine r_idxL ?_ | with_reducible refine r_slice ?_ | with_reducible refine r_len ?_ | with_reducible refine r_isi ?_ | with_reducible refine r_toInt ?_ | with_reducible refine r_all ?_ | with_reducible refine r_tupOf ?_ | with_reducible refine r_wget ?_ | with_reducible refine r_dictOf ?_ | with_reducible refine r_lenset ?_ | with_reducible refine r_call ?_ | with_reducible refine r_tup ?_ | with_reducible refine r_nil ?_ | with_reducible refine r_cons ?_ | with_reducible refine r_disp ?_ | with_reducible refine r_lst ?_ | with_reducible refine r_cat ?_ | with_reducible refine r_of ?_ | with_reducible refine r_eqL ?_ | with_reducible refine r_pop ?_ | with_reducible refine s_asgR ?_ | with_reducible refine s_setR ?_ | with_reducible refine s_retR ?_ | with_reducible refine s_iteR ?_ | with_reducible refine s_unpR ?_ | with_reducible refine ss_nilR ?_ | ((with_reducible refine r_callv ?_); refine ⟨_, rfl, ?_⟩) | ((with_reducible refine r_setD ?_); refine ⟨_, _, rfl, rfl, rfl, ?_⟩) | ((with_reducible refine r_popD ?_); refine ⟨_, _, rfl, ?_⟩)) | with_reducible refine ex_bool ?_ | with_reducible refine ex_eq ?_ | with_reducible refine ex_lt ?_ | with_reducible refine ex_le ?_ | with_reducible refine ex_gt ?_ | with_reducible refine ex_add ?_ | with_reducible refine ex_sub ?_ | ((with_reducible refine ex_mod ?_ ?_); (· first | assumption | decide)) | ((with_reducible refine ex_mulR ?_ ?_); · decide) | ((with_reducible refine ex_mulL ?_ ?_); · decide) | ((with_reducible refine ex_pow ?_ ?_ ?_); (· decide); (· first | omega | decide)) | ((with_reducible refine ex_fdiv ?_ ?_ ?_); (· first | assumption | decide); (· first | assumption | decide)) | ((with_reducible refine ex_get ?_); refine ⟨_, rfl, ?_⟩; (try dsimp only)) | ((with_reducible refine ex_len ?_ ?_); (· exact Nat.le_of_ble_eq_true rfl)) | ((with_reducible refine ex_plain ?_); refine ⟨_, rfl, Nat.le_of_ble_eq_true rfl, ?_⟩; (try dsimp only)))
  refine wp_mono (draw_ok k (many := 3) h1 (by omega) (by decide) (by decide)) (fun d S2 q => ?_) fun _ _ z => z
  obtain ⟨x, rfl, x0, x1, h2⟩ := q
  have tk := take_self (A := .lst []) (B := .lst []) h2 hl
  have h2' : dInv (N + 2) rest S2 := dInv_mono h2 (by omega)
  rcases (by omega : x = 0 ∨ x = 1 ∨ x = 2) with rfl | rfl | rfl
  · refine ⟨_, rfl, ?_⟩
    repeat (first | (first | ((with_reducible refine r_var ?_); refine ⟨_, rfl, ?_⟩) | with_reducible refine r_cst ?_ | with_reducible refine r_bin ?_ | with_reducible refine r_cmp ?_ | with_reducible refine r_chain ?_ | with_reducible refine r_and ?_ | with_reducible refine r_or ?_ | with_reducible refine r_not ?_ | with_reducible refine r_idx ?_ | with_reducible refine r_idxL ?_ | with_reducible refine r_slice ?_ | with_reducible refine r_len ?_ | with_reducible refine r_isi ?_ | with_reducible refine r_toInt ?_ | with_reducible refine r_all ?_ | with_reducible refine r_tupOf ?_ | with_reducible refine r_wget ?_ | with_reducible refine r_dictOf ?_ | with_reducible refine r_lenset ?_ | with_reducible refine r_call ?_ | with_reducible refine r_tup ?_ | with_reducible refine r_nil ?_ | with_reducible refine r_cons ?_ | with_reducible refine r_disp ?_ | with_reducible refine r_lst ?_ | with_reducible refine r_cat ?_ | with_reducible refine r_of ?_ | with_reducible refine r_eqL ?_ | with_reducible refine r_pop ?_ | with_reducible refine s_asgR ?_ | with_reducible refine s_setR ?_ | with_reducible refine s_retR ?_ | with_reducible refine s_iteR ?_ | with_reducible refine s_unpR ?_ | with_reducible refine ss_nilR ?_ | ((with_reducible refine r_callv ?_); refine ⟨_, rfl, ?_⟩) | ((with_reducible refine r_setD ?_); refine ⟨_, _, rfl, rfl, rfl, ?_⟩) | ((with_reducible refine r_popD ?_); refine ⟨_, _, rfl, ?_⟩)) | with_reducible refine ex_bool ?_ | with_reducible refine ex_eq ?_ | with_reducible refine ex_lt ?_ | with_reducible refine ex_le ?_ | with_reducible refine ex_gt ?_ | with_reducible refine ex_add ?_ | with_reducible refine ex_sub ?_ | ((with_reducible refine ex_mod ?_ ?_); (· first | assumption | decide)) | ((with_reducible refine ex_mulR ?_ ?_); · decide) | ((with_reducible refine ex_mulL ?_ ?_); · decide) | ((with_reducible refine ex_pow ?_ ?_ ?_); (· decide); (· first | omega | decide)) | ((with_reducible refine ex_fdiv ?_ ?_ ?_); (· first | assumption | decide); (· first | assumption | decide)) | ((with_reducible refine ex_get ?_); refine ⟨_, rfl, ?_⟩; (try dsimp only)) | ((with_reducible refine ex_len ?_ ?_); (· exact Nat.le_of_ble_eq_true rfl)) | ((with_reducible refine ex_plain ?_); refine ⟨_, rfl, Nat.le_of_ble_eq_true rfl, ?_⟩; (try dsimp only)))
    exact ⟨_, rfl, _, rfl, .num _ (by decide) (by decide), by rw [tk]; exact h2'⟩
  · refine ⟨_, rfl, ?_⟩
    repeat (first | (first | ((with_reducible refine r_var ?_); refine ⟨_, rfl, ?_⟩) | with_reducible refine r_cst ?_ | with_reducible refine r_bin ?_ | with_reducible refine r_cmp ?_ | with_reducible refine r_chain ?_ | with_reducible refine r_and ?_ | with_reducible refine r_or ?_ | with_reducible refine r_not ?_ | with_reducible refine r_idx ?_ | with_reducible refine r_idxL ?_ | with_reducible refine r_slice ?_ | with_reducible refine r_len ?_ | with_reducible refine r_isi ?_ | with_reducible refine r_toInt ?_ | with_reducible refine r_all ?_ | with_reducible refine r_tupOf ?_ | with_reducible refine r_wget ?_ | with_reducible refine r_dictOf ?_ | with_reducible refine r_lenset ?_ | with_reducible refine r_call ?_ | with_reducible refine r_tup ?_ | with_reducible refine r_nil ?_ | with_reducible refine r_cons ?_ | with_reducible refine r_disp ?_ | with_reducible refine r_lst ?_ | with_reducible refine r_cat ?_ | with_reducible refine r_of ?_ | with_reducible refine r_eqL ?_ | with_reducible refine r_pop ?_ | with_reducible refine s_asgR ?_ | with_reducible refine s_setR ?_ | with_reducible refine s_retR ?_ | with_reducible refine s_iteR ?_ | with_reducible refine s_unpR ?_ | with_reducible refine ss_nilR ?_ | ((with_reducible refine r_callv ?_); refine ⟨_, rfl, ?_⟩) | ((with_reducible refine r_setD ?_); refine ⟨_, _, rfl, rfl, rfl, ?_⟩) | ((with_reducible refine r_popD ?_); refine ⟨_, _, rfl, ?_⟩)) | with_reducible refine ex_bool ?_ | with_reducible refine ex_eq ?_ | with_reducible refine ex_lt ?_ | with_reducible refine ex_le ?_ | with_reducible refine ex_gt ?_ | with_reducible refine ex_add ?_ | with_reducible refine ex_sub ?_ | ((with_reducible refine ex_mod ?_ ?_); (· first | assumption | decide)) | ((with_reducible refine ex_mulR ?_ ?_); · decide) | ((with_reducible refine ex_mulL ?_ ?_); · decide) | ((with_reducible refine ex_pow ?_ ?_ ?_); (· decide); (· first | omega | decide)) | ((with_reducible refine ex_fdiv ?_ ?_ ?_); (· first | assumption | decide); (· first | assumption | decide)) | ((with_reducible refine ex_get ?_); refine ⟨_, rfl, ?_⟩; (try dsimp only)) | ((with_reducible refine ex_len ?_ ?_); (· exact Nat.le_of_ble_eq_true rfl)) | ((with_reducible refine ex_plain ?_); refine ⟨_, rfl, Nat.le_of_ble_eq_true rfl, ?_⟩; (try dsimp only)))
    exact ⟨_, rfl, _, rfl, .num _ (by decide) (by decide), by rw [tk]; exact h2'⟩
  · refine ⟨_, rfl, ?_⟩
    repeat (first | (first | ((with_reducible refine r_var ?_); refine ⟨_, rfl, ?_⟩) | with_reducible refine r_cst ?_ | with_reducible refine r_bin ?_ | with_reducible refine r_cmp ?_ | with_reducible refine r_chain ?_ | with_reducible refine r_and ?_ | with_reducible refine r_or ?_ | with_reducible refine r_not ?_ | with_reducible refine r_idx ?_ | with_reducible refine r_idxL ?_ | with_reducible refine r_slice ?_ | with_reducible refine r_len ?_ | with_reducible refine r_isi ?_ | with_reducible refine r_toInt ?_ | with_reducible refine r_all ?_ | with_reducible refine r_tupOf ?_ | with_reducible refine r_wget ?_ | with_reducible refine r_dictOf ?_ | with_reducible refine r_lenset ?_ | with_reducible refine r_call ?_ | with_reducible refine r_tup ?_ | with_reducible refine r_nil ?_ | with_reducible refine r_cons ?_ | with_reducible refine r_disp ?_ | with_reducible refine r_lst ?_ | with_reducible refine r_cat ?_ | with_reducible refine r_of ?_ | with_reducible refine r_eqL ?_ | with_reducible refine r_pop ?_ | with_reducible refine s_asgR ?_ | with_reducible refine s_setR ?_ | with_reducible refine s_retR ?_ | with_reducible refine s_iteR ?_ | with_reducible refine s_unpR ?_ | with_reducible refine ss_nilR ?_ | ((with_reducible refine r_callv ?_); refine ⟨_, rfl, ?_⟩) | ((with_reducible refine r_setD ?_); refine ⟨_, _, rfl, rfl, rfl, ?_⟩) | ((with_reducible refine r_popD ?_); refine ⟨_, _, rfl, ?_⟩)) | with_reducible refine ex_bool ?_ | with_reducible refine ex_eq ?_ | with_reducible refine ex_lt ?_ | with_reducible refine ex_le ?_ | with_reducible refine ex_gt ?_ | with_reducible refine ex_add ?_ | with_reducible refine ex_sub ?_ | ((with_reducible refine ex_mod ?_ ?_); (· first | assumption | decide)) | ((with_reducible refine ex_mulR ?_ ?_); · decide) | ((with_reducible refine ex_mulL ?_ ?_); · decide) | ((with_reducible refine ex_pow ?_ ?_ ?_); (· decide); (· first | omega | decide)) | ((with_reducible refine ex_fdiv ?_ ?_ ?_); (· first | assumption | decide); (· first | assumption | decide)) | ((with_reducible refine ex_get ?_); refine ⟨_, rfl, ?_⟩; (try dsimp only)) | ((with_reducible refine ex_len ?_ ?_); (· exact Nat.le_of_ble_eq_true rfl)) | ((with_reducible refine ex_plain ?_); refine ⟨_, rfl, Nat.le_of_ble_eq_true rfl, ?_⟩; (try dsimp only)))
    exact ⟨_, rfl, _, rfl, .num _ (by omega) (by omega), by rw [tk]; exact h2'⟩
theorem row_box {k : Nat} {w : Str} {rest S : Sto} {N : Int} (h : dInv N rest S) (hN : N ≤ 9000) (hw : w ∈ (["get", "put"] : List Str)) (e1 : ∀ S, cop S .eq (.p (.str w)) (.p (.str "num")) = some false) (e2 : ∀ S, cop S .in_ (.p (.str w)) (.p (.tuple [.str "get", .str "put"])) = some true) :
    wp (calK fs (k + 2) 23 [.ref 1, .p (.str w)] S) (fun d S' => ∃ row, d = .p row ∧ RowOk row ∧ dInv (N + 2) rest S') (fun _ _ => False) := by
  have hl := dInv_len h
  show wp (callF (calK fs (k + 1)) ⟨2, 2, b23⟩ _ _) _ _
  refine call_wp rfl ?_
  unfold b23
  (with_reducible refine ss_consR ?_); repeat (first | (first | ((with_reducible refine r_var ?_); refine ⟨_, rfl, ?_⟩) | with_reducible refine r_cst ?_ | with_reducible refine r_bin ?_ | with_reducible refine r_cmp ?_ | with_reducible refine r_chain ?_ | with_reducible refine r_and ?_ | with_reducible refine r_or ?_ | with_reducible refine r_not ?_ | with_reducible refine r_idx ?_ | with_reducible refine r_idxL ?_ | with_reducible refine r_slice ?_ | with_reducible refine r_len ?_ | with_reducible refine r_isi ?_ | with_reducible refine r_toInt ?_ | with_reducible refine r_all ?_ | with_reducible refine r_tupOf ?_ | with_reducible refine r_wget ?_ | with_reducible refine r_dictOf ?_ | with_reducible refine r_lenset ?_ | with_reducible refine r_call ?_ | with_reducible refine r_tup ?_ | with_reducible refine r_nil ?_ | with_reducible refine r_cons ?_ | with_reducible refine r_disp ?_ | with_reducible refine r_lst ?_ | with_reducible refine r_cat ?_ | with_reducible refine r_of ?_ | with_reducible refine r_eqL ?_ | with_reducible refine r_pop ?_ | with_reducible refine s_asgR ?_ | with_reducible refine s_setR ?_ | with_reducible refine s_retR ?_ | with_reducible refine s_iteR ?_ | with_reducible refine s_unpR ?_ | with_reducible refine ss_nilR ?_ | ((with_reducible refine r_callv ?_); refine ⟨_, rfl, ?_⟩) | ((with_reducible refine r_setD ?_); refine ⟨_, _, rfl, rfl, rfl, ?_⟩) | ((with_reducible refine r_popD ?_); refine ⟨_, _, rfl, ?_⟩)) | with_reducible refine ex_bool ?_ | with_reducible refine ex_eq ?_ | with_reducible refine ex_lt ?_ | with_reducible refine ex_le ?_ | with_reducible refine ex_gt ?_ | with_reducible refine ex_add ?_ | with_reducible refine ex_sub ?_ | ((with_reducible refine ex_mod ?_ ?_); (· first | assumption | decide)) | ((with_reducible refine ex_mulR ?_ ?_); · decide) | ((with_reducible refine ex_mulL ?_ ?_); · decide) | ((with_reducible refine ex_pow ?_ ?_ ?_); (· decide); (· first | omega | decide)) | ((with_reducible refine ex_fdiv ?_ ?_ ?_); (· first | assumption | decide); (· first | assumption | decide)) | ((with_reducible refine ex_get ?_); refine ⟨_, rfl, ?_⟩; (try dsimp only)) | ((with_reducible refine ex_len ?_ ?_); (· exact Nat.le_of_ble_eq_true rfl)) | ((with_reducible refine ex_plain ?_); refine ⟨_, rfl, Nat.le_of_ble_eq_true rfl, ?_⟩; (try dsimp only)))
  refine ⟨false, e1 _, ?_⟩
  repeat (first | (first | ((with_reducible refine r_var ?_); refine ⟨_, rfl, ?_⟩) | with_reducible refine r_cst ?_ | with_reducible refine r_bin ?_ | with_reducible refine r_cmp ?_ | with_reducible refine r_chain ?_ | with_reducible refine r_and ?_ | with_reducible refine r_or ?_ | with_reducible refine r_not ?_ | with_reducible refine r_idx ?_ | with_reducible refine r_idxL ?_ | with_reducible refine r_slice ?_ | with_reducible refine r_len ?_ | with_reducible refine r_isi ?_ | with_reducible refine r_toInt ?_ | with_reducible refine r_all ?_ | with_reducible refine r_tupOf ?_ | with_reducible refine r_wget ?_ | with_reducible refine r_dictOf ?_ | with_reducible refine r_lenset ?_ | with_reducible refine r_call ?_ | with_reducible refine r_tup ?_ | with_reducible refine r_nil ?_ | with_reducible refine r_cons ?_ | with_reducible refine r_disp ?_ | with_reducible refine r_lst ?_ | with_reducible refine r_cat ?_ | with_reducible refine r_of ?_ | with_reducible refine r_eqL ?_ | with_reducible refine r_pop ?_ | with_reducible refine s_asgR ?_ | with_reducible refine s_setR ?_ | with_reducible refine s_retR ?_ | with_reducible refine s_iteR ?_ | with_reducible refine s_unpR ?_ | with_reducible refine ss_nilR ?_ | ((with_reducible refine r_callv ?_); refine ⟨_, rfl, ?_⟩) | ((with_reducible refine r_setD ?_); refine ⟨_, _, rfl, rfl, rfl, ?_⟩) | ((with_reducible refine r_popD ?_); refine ⟨_, _, rfl, ?_⟩)) | with_reducible refine ex_bool ?_ | with_reducible refine ex_eq ?_ | with_reducible refine ex_lt ?_ | with_reducible refine ex_le ?_ | with_reducible refine ex_gt ?_ | with_reducible refine ex_add ?_ | with_reducible refine ex_sub ?_ | ((with_reducible refine ex_mod ?_ ?_); (· first | assumption | decide)) | ((with_reducible refine ex_mulR ?_ ?_); · decide) | ((with_reducible refine ex_mulL ?_ ?_); · decide) | ((with_reducible refine ex_pow ?_ ?_ ?_); (· decide); (· first | omega | decide)) | ((with_reducible refine ex_fdiv ?_ ?_ ?_); (· first | assumption | decide); (· first | assumption | decide)) | ((with_reducible refine ex_get ?_); refine ⟨_, rfl, ?_⟩; (try dsimp only)) | ((with_reducible refine ex_len ?_ ?_); (· exact Nat.le_of_ble_eq_true rfl)) | ((with_reducible refine ex_plain ?_); refine ⟨_, rfl, Nat.le_of_ble_eq_true rfl, ?_⟩; (try dsimp only)))
  refine ifF ?_
  repeat (first | (first | ((with_reducible refine r_var ?_); refine ⟨_, rfl, ?_⟩) | with_reducible refine r_cst ?_ | with_reducible refine r_bin ?_ | with_reducible refine r_cmp ?_ | with_reducible refine r_chain ?_ | with_reducible refine r_and ?_ | with_reducible refine r_or ?_ | with_reducible refine r_not ?_ | with_reducible refine r_idx ?_ | with_reducible refine r_idxL ?_ | with_reducible refine r_slice ?_ | with_reducible refine r_len ?_ | with_reducible refine r_isi ?_ | with_reducible refine r_toInt ?_ | with_reducible refine r_all ?_ | with_reducible refine r_tupOf ?_ | with_reducible refine r_wget ?_ | with_reducible refine r_dictOf ?_ | with_reducible refine r_lenset ?_ | with_reducible refine r_call ?_ | with_reducible refine r_tup ?_ | with_reducible refine r_nil ?_ | with_reducible refine r_cons ?_ | with_reducible refine r_disp ?_ | with_reducible refine r_lst ?_ | with_reducible refine r_cat ?_ | with_reducible refine r_of ?_ | with_reducible refine r_eqL ?_ | with_reducible refine r_pop ?_ | with_reducible refine s_asgR ?_ | with_reducible refine s_setR ?_ | with_reducible refine s_retR ?_ | with_reducible refine s_iteR ?_ | with_reducible refine s_unpR ?_ | with_reducible refine ss_nilR ?_ | ((with_reducible refine r_callv ?_); refine ⟨_, rfl, ?_⟩) | ((with_reducible refine r_setD ?_); refine ⟨_, _, rfl, rfl, rfl, ?_⟩) | ((with_reducible refine r_popD ?_); refine ⟨_, _, rfl, ?_⟩)) | with_reducible refine ex_bool ?_ | with_reducible refine ex_eq ?_ | with_reducible refine ex_lt ?_ | with_reducible refine ex_le ?_ | with_reducible refine ex_gt ?_ | with_reducible refine ex_add ?_ | with_reducible refine ex_sub ?_ | ((with_reducible refine ex_mod ?_ ?_); (· first | assumption | decide)) | ((with_reducible refine ex_mulR ?_ ?_); · decide) | ((with_reducible refine ex_mulL ?_ ?_); · decide) | ((with_reducible refine ex_pow ?_ ?_ ?_); (· decide); (· first | omega | decide)) | ((with_reducible refine ex_fdiv ?_ ?_ ?_); (· first | assumption | decide); (· first | assumption | decide)) | ((with_reducible refine ex_get ?_); refine ⟨_, rfl, ?_⟩; (try dsimp only)) | ((with_reducible refine ex_len ?_ ?_); (· exact Nat.le_of_ble_eq_true rfl)) | ((with_reducible refine ex_plain ?_); refine ⟨_, rfl, Nat.le_of_ble_eq_true rfl, ?_⟩; (try dsimp only)))
  (with_reducible refine ss_consR ?_); repeat (first | (first | ((with_reducible refine r_var ?_); refine ⟨_, rfl, ?_⟩) | with_reducible refine r_cst ?_ | with_reducible refine r_bin ?_ | with_reducible refine r_cmp ?_ | with_reducible refine r_chain ?_ | with_reducible refine r_and ?_ | with_reducible refine r_or ?_ | with_reducible refine r_not ?_ | with_reducible refine r_idx ?_ | with_reducible refine r_idxL ?_ | with_reducible refine r_slice ?_ | with_reducible refine r_len ?_ | with_reducible refine r_isi ?_ | with_reducible refine r_toInt ?_ | with_reducible refine r_all ?_ | with_reducible refine r_tupOf ?_ | with_reducible refine r_wget ?_ | with_reducible refine r_dictOf ?_ | with_reducible refine r_lenset ?_ | with_reducible refine r_call ?_ | with_reducible refine r_tup ?_ | with_reducible refine r_nil ?_ | with_reducible refine r_cons ?_ | with_reducible refine r_disp ?_ | with_reducible refine r_lst ?_ | with_reducible refine r_cat ?_ | with_reducible refine r_of ?_ | with_reducible refine r_eqL ?_ | with_reducible refine r_pop ?_ | with_reducible refine s_asgR ?_ | with_reducible refine s_setR ?_ | with_reducible refine s_retR ?_ | with_reducible refine s_iteR ?_ | with_reducible refine s_unpR ?_ | with_reducible refine ss_nilR ?_ | ((with_reducible refine r_callv ?_); refine ⟨_, rfl, ?_⟩) | ((with_reducible refine r_setD ?_); refine ⟨_, _, rfl, rfl, rfl, ?_⟩) | ((with_reducible refine r_popD ?_); refine ⟨_, _, rfl, ?_⟩)) | with_reducible refine ex_bool ?_ | with_reducible refine ex_eq ?_ | with_reducible refine ex_lt ?_ | with_reducible refine ex_le ?_ | with_reducible refine ex_gt ?_ | with_reducible refine ex_add ?_ | with_reducible refine ex_sub ?_ | ((with_reducible refine ex_mod ?_ ?_); (· first | assumption | decide)) | ((with_reducible refine ex_mulR ?_ ?_); · decide) | ((with_reducible refine ex_mulL ?_ ?_); · decide) | ((with_reducible refine ex_pow ?_ ?_ ?_); (· decide); (· first | omega | decide)) | ((with_reducible refine ex_fdiv ?_ ?_ ?_); (· first | assumption | decide); (· first | assumption | decide)) | ((with_reducible refine ex_get ?_); refine ⟨_, rfl, ?_⟩; (try dsimp only)) | ((with_reducible refine ex_len ?_ ?_); (· exact Nat.le_of_ble_eq_true rfl)) | ((with_reducible refine ex_plain ?_); refine ⟨_, rfl, Nat.le_of_ble_eq_true rfl, ?_⟩; (try dsimp only)))
  refine ⟨true, e2 _, ?_⟩
  repeat (first | (first | ((with_reducible refine r_var ?_); refine ⟨_, rfl, ?_⟩) | with_reducible refine r_cst ?_ | with_reducible refine r_bin ?_ | with_reducible refine r_cmp ?_ | with_reducible refine r_chain ?_ | with_reducible refine r_and ?_ | with_reducible refine r_or ?_ | with_reducible refine r_not ?_ | with_reducible refine r_idx ?_ | with_reducible refine r_idxL ?_ | with_reducible refine r_slice ?_ | with_reducible refine r_len ?_ | with_reducible refine r_isi ?_ | with_reducible refine r_toInt ?_ | with_reducible refine r_all ?_ | with_reducible refine r_tupOf ?_ | with_reducible refine r_wget ?_ | with_reducible refine r_dictOf ?_ | with_reducible refine r_lenset ?_ | with_reducible refine r_call ?_ | with_reducible refine r_tup ?_ | with_reducible refine r_nil ?_ | with_reducible refine r_cons ?_ | with_reducible refine r_disp ?_ | with_reducible refine r_lst ?_ | with_reducible refine r_cat ?_ | with_reducible refine r_of ?_ | with_reducible refine r_eqL ?_ | with_reducible refine r_pop ?_ | with_reducible refine s_asgR ?_ | with_reducible refine s_setR ?_ | with_reducible refine s_retR ?_ | with_reducible refine s_iteR ?_ | with_reducible refine s_unpR ?_ | with_reducible refine ss_nilR ?_ | ((with_reducible refine r_callv ?_); refine ⟨_, rfl, ?_⟩) | ((with_reducible refine r_setD ?_); refine ⟨_, _, rfl, rfl, rfl, ?_⟩) | ((with_reducible refine r_popD ?_); refine ⟨_, _, rfl, ?_⟩)) | with_reducible refine ex_bool ?_ | with_reducible refine ex_eq ?_ | with_reducible refine ex_lt ?_ | with_reducible refine ex_le ?_ | with_reducible refine ex_gt ?_ | with_reducible refine ex_add ?_ | with_reducible refine ex_sub ?_ | ((with_reducible refine ex_mod ?_ ?_); (· first | assumption | decide)) | ((with_reducible refine ex_mulR ?_ ?_); · decide) | ((with_reducible refine ex_mulL ?_ ?_); · decide) | ((with_reducible refine ex_pow ?_ ?_ ?_); (· decide); (· first | omega | decide)) | ((with_reducible refine ex_fdiv ?_ ?_ ?_); (· first | assumption | decide); (· first | assumption | decide)) | ((with_reducible refine ex_get ?_); refine ⟨_, rfl, ?_⟩; (try dsimp only)) | ((with_reducible refine ex_len ?_ ?_); (· exact Nat.le_of_ble_eq_true rfl)) | ((with_reducible refine ex_plain ?_); refine ⟨_, rfl, Nat.le_of_ble_eq_true rfl, ?_⟩; (try dsimp only)))
  refine ifT ?_
  (with_reducible refine ss_consR ?_); repeat (first | (first | ((with_reducible refine r_var ?_); refine ⟨_, rfl, ?_⟩) | with_reducible refine r_cst ?_ | with_reducible refine r_bin ?_ | with_reducible refine r_cmp ?_ | with_reducible refine r_chain ?_ | with_reducible refine r_and ?_ | with_reducible refine r_or ?_ | with_reducible refine r_not ?_ | with_reducible refine r_idx ?_ | with_reducible refine r_idxL ?_ | with_reducible refine r_slice ?_ | with_reducible refine r_len ?_ | with_reducible refine r_isi ?_ | with_reducible refine r_toInt ?_ | with_reducible refine r_all ?_ | with_reducible refine r_tupOf ?_ | with_reducible refine r_wget ?_ | with_reducible refine r_dictOf ?_ | with_reducible refine r_lenset ?_ | with_reducible refine r_call ?_ | with_reducible refine r_tup ?_ | with_reducible refine r_nil ?_ | with_reducible refine r_cons ?_ | with_reducible refine r_disp ?_ | with_reducible refine r_lst ?_ | with_reducible refine r_cat ?_ | with_reducible refine r_of ?_ | with_reducible refine r_eqL ?_ | with_reducible refine r_pop ?_ | with_reducible refine s_asgR ?_ | with_reducible refine s_setR ?_ | with_reducible refine s_retR ?_ | with_reducible refine s_iteR ?_ | with_reducible refine s_unpR ?_ | with_reducible refine ss_nilR ?_ | ((with_reducible refine r_callv ?_); refine ⟨_, rfl, ?_⟩) | ((with_reducible refine r_setD ?_); refine ⟨_, _, rfl, rfl, rfl, ?_⟩) | ((with_reducible refine r_popD ?_); refine ⟨_, _, rfl, ?_⟩)) | with_reducible refine ex_bool ?_ | with_reducible refine ex_eq ?_ | with_reducible refine ex_lt ?_ | with_reducible refine ex_le ?_ | with_reducible refine ex_gt ?_ | with_reducible refine ex_add ?_ | with_reducible refine ex_sub ?_ | ((with_reducible refine ex_mod ?_ ?_); (· first | assumption | decide)) | ((with_reducible refine ex_mulR ?_ ?_); · decide) | ((with_reducible refine ex_mulL ?_ ?_); · decide) | ((with_reducible refine ex_pow ?_ ?_ ?_); (· decide); (· first | omega | decide)) | ((with_reducible refine ex_fdiv ?_ ?_ ?_); (· first | assumption | decide); (· first | assumption | decide)) | ((with_reducible refine ex_get ?_); refine ⟨_, rfl, ?_⟩; (try dsimp only)) | ((with_reducible refine ex_len ?_ ?_); (· exact Nat.le_of_ble_eq_true rfl)) | ((with_reducible refine ex_plain ?_); refine ⟨_, rfl, Nat.le_of_ble_eq_true rfl, ?_⟩; (try dsimp only)))
  refine wp_mono (draw_ok k (many := 8) h (by omega) (by decide) (by decide)) (fun d S1 q => ?_) fun _ _ z => z
  obtain ⟨r, rfl, r0, r1, h1⟩ := q
  repeat (first | (first | ((with_reducible refine r_var ?_); refine ⟨_, rfl, ?_⟩) | with_reducible refine r_cst ?_ | with_reducible refine r_bin ?_ | with_reducible refine r_cmp ?_ | with_reducible refine r_chain ?_ | with_reducible refine r_and ?_ | with_reducible refine r_or ?_ | with_reducible refine r_not ?_ | with_reducible refine r_idx ?_ | with_reducible refine r_idxL ?_ | with_reducible refine r_slice ?_ | with_reducible refine r_len ?_ | with_reducible refine r_isi ?_ | with_reducible refine r_toInt ?_ | with_reducible refine r_all ?_ | with_reducible refine r_tupOf ?_ | with_reducible refine r_wget ?_ | with_reducible refine r_dictOf ?_ | with_reducible refine r_lenset ?_ | with_reducible refine r_call ?_ | with_reducible refine r_tup ?_ | with_reducible refine r_nil ?_ | with_reducible refine r_cons ?_ | with_reducible refine r_disp ?_ | with_reducible refine r_lst ?_ | with_reducible refine r_cat ?_ | with_reducible refine r_of ?_ | with_reducible refine r_eqL ?_ | with_reducible refine r_pop ?_ | with_reducible refine s_asgR ?_ | with_reducible refine s_setR ?_ | with_reducible refine s_retR ?_ | with_reducible refine s_iteR ?_ | with_reducible refine s_unpR ?_ | with_reducible refine ss_nilR ?_ | ((with_reducible refine r_callv ?_); refine ⟨_, rfl, ?_⟩) | ((with_reducible refine r_setD ?_); refine ⟨_, _, rfl, rfl, rfl, ?_⟩) | ((with_reducible refine r_popD ?_); refine ⟨_, _, rfl, ?_⟩)) | with_reducible refine ex_bool ?_ | with_reducible refine ex_eq ?_ | with_reducible refine ex_lt ?_ | with_reducible refine ex_le ?_ | with_reducible refine ex_gt ?_ | with_reducible refine ex_add ?_ | with_reducible refine ex_sub ?_ | ((with_reducible refine ex_mod ?_ ?_); (· first | assumption | decide)) | ((with_reducible refine ex_mulR ?_ ?_); · decide) | ((with_reducible refine ex_mulL ?_ ?_); · decide) | ((with_reducible refine ex_pow ?_ ?_ ?_); (· decide); (· first | omega | decide)) | ((with_reducible refine ex_fdiv ?_ ?_ ?_); (· first | assumption | decide); (· first | assumption | decide)) | ((with_reducible refine ex_get ?_); refine ⟨_, rfl, ?_⟩; (try dsimp only)) | ((with_reducible refine ex_len ?_ ?_); (· exact Nat.le_of_ble_eq_true rfl)) | ((with_reducible refine ex_plain ?_); refine ⟨_, rfl, Nat.le_of_ble_eq_true rfl, ?_⟩; (try dsimp only)))
  refine ⟨_, rfl, _, rfl, ?_, by rw [take_self (A := .lst []) (B := .lst []) h1 hl]; exact dInv_mono h1 (by omega)⟩
  have := RowOk.box w r.toNat hw (by omega)
  rwa [Int.toNat_of_nonneg r0] at this
end Ir.K72
set_option Elab.async false
set_option linter.all false
set_option maxRecDepth 100000
set_option maxHeartbeats 4000001
namespace Ir.K72
open PySem PySem.W
theorem row_ok {k : Nat} {w : Str} {rest S : Sto} {N : Int} (h : dInv N rest S) (hN : N ≤ 9000) (hw : w ∈ words) :
    wp (calK fs (k + 2) 23 [.ref 1, .p (.str w)] S) (fun d S' => ∃ row, d = .p row ∧ RowOk row ∧ dInv (N + 2) rest S') (fun _ _ => False) := by
  unfold words at hw
  simp only [List.mem_cons, List.not_mem_nil, or_false] at hw
  rcases hw with rfl | rfl | rfl | rfl | rfl | rfl | rfl | rfl | rfl | rfl | rfl | rfl | rfl | rfl | rfl | rfl | rfl | rfl | rfl | rfl | rfl | rfl | rfl
  · exact row_plain h (fun A B => by kernel_rfl) (.one "ask" (by decide +kernel))
  · exact row_plain h (fun A B => by kernel_rfl) (.one "say" (by decide +kernel))
  · exact row_plain h (fun A B => by kernel_rfl) (.one "drop" (by decide +kernel))
  · exact row_plain h (fun A B => by kernel_rfl) (.one "twin" (by decide +kernel))
  · exact row_plain h (fun A B => by kernel_rfl) (.one "turn" (by decide +kernel))
  · exact row_plain h (fun A B => by kernel_rfl) (.one "plus" (by decide +kernel))
  · exact row_plain h (fun A B => by kernel_rfl) (.one "minus" (by decide +kernel))
  · exact row_plain h (fun A B => by kernel_rfl) (.one "times" (by decide +kernel))
  · exact row_plain h (fun A B => by kernel_rfl) (.one "part" (by decide +kernel))
  · exact row_plain h (fun A B => by kernel_rfl) (.one "same" (by decide +kernel))
  · exact row_plain h (fun A B => by kernel_rfl) (.one "give" (by decide +kernel))
  · exact row_plain h (fun A B => by kernel_rfl) (.one "throw" (by decide +kernel))
  · exact row_num h hN
  · exact row_box h hN (by decide +kernel) (fun S => by kernel_rfl) (fun S => by kernel_rfl)
  · exact row_box h hN (by decide +kernel) (fun S => by kernel_rfl) (fun S => by kernel_rfl)
  · exact row_plain h (fun A B => by kernel_rfl) (.unit "fits" (by decide +kernel))
  · exact row_plain h (fun A B => by kernel_rfl) (.unit "new" (by decide +kernel))
  · exact row_plain h (fun A B => by kernel_rfl) (.way "read" (by decide +kernel))
  · exact row_plain h (fun A B => by kernel_rfl) (.way "write" (by decide +kernel))
  · exact row_plain h (fun A B => by kernel_rfl) (.way "call" (by decide +kernel))
  · exact row_plain h (fun A B => by kernel_rfl) (.way "hail" (by decide +kernel))
  · exact row_plain h (fun A B => by kernel_rfl) (.entry "jump" (by decide +kernel))
  · exact row_plain h (fun A B => by kernel_rfl) (.entry "nought" (by decide +kernel))
theorem wp_val {α : Type} {o : Out α} {x : α} {S : Sto} (h : wp o (fun d S' => d = x ∧ S' = S) (fun _ _ => False)) : o = .val x S := by
  cases o with
  | val a S' => obtain ⟨rfl, rfl⟩ := h; rfl
  | exc _ _ => exact h.elim
  | bad => exact h.elim
theorem whole_ok (k : Nat) (n : Int) (S : Sto) : calK fs (k + 1) 0 [.p (.int n)] S = .val (.p (.bool true)) S := by
  have e : calK fs (k + 1) 0 [.p (.int n)] S = .val (.p (.bool true)) (S.take S.length) := by kernel_rfl
  rw [e, List.take_length]
theorem within_ok (k : Nat) (n lo hi : Int) (S : Sto) : calK fs (k + 2) 1 [.p (.int n), .p (.int lo), .p (.int hi)] S = .val (.p (.bool (decide (lo ≤ n) && decide (n ≤ hi)))) S := by
  refine wp_val ?_
  show wp (callF (calK fs (k + 1)) ⟨3, 3, b1⟩ _ S) _ _
  refine call_wp rfl ?_
  unfold b1
  (with_reducible refine ss_consR ?_); repeat (first | (first | ((with_reducible refine r_var ?_); refine ⟨_, rfl, ?_⟩) | with_reducible refine r_cst ?_ | with_reducible refine r_bin ?_ | with_reducible refine r_cmp ?_ | with_reducible refine r_chain ?_ | with_reducible refine r_and ?_ | with_reducible refine r_or ?_ | with_reducible refine r_not ?_ | with_reducible refine r_idx ?_ | with_reducible refine r_idxL ?_ | with_reducible refine r_slice ?_ | with_reducible refine r_len ?_ | with_reducible refine r_isi ?_ | with_reducible refine r_toInt ?_ | with_reducible refine r_all ?_ | with_reducible refine r_tupOf ?_ | with_reducible refine r_wget ?_ | with_reducible refine r_dictOf ?_ | with_reducible refine r_lenset ?_ | with_reducible refine r_call ?_ | with_reducible refine r_tup ?_ | with_reducible refine r_nil ?_ | with_reducible refine r_cons ?_ | with_reducible refine r_disp ?_ | with_reducible refine r_lst ?_ | with_reducible refine r_cat ?_ | with_reducible refine r_of ?_ | with_reducible refine r_eqL ?_ | with_reducible refine r_pop ?_ | with_reducible refine s_asgR ?_ | with_reducible refine s_setR ?_ | with_reducible refine s_retR ?_ | with_reducible refine s_iteR ?_ | with_reducible refine s_unpR ?_ | with_reducible refine ss_nilR ?_ | ((with_reducible refine r_callv ?_); refine ⟨_, rfl, ?_⟩) | ((with_reducible refine r_setD ?_); refine ⟨_, _, rfl, rfl, rfl, ?_⟩) | ((with_reducible refine r_popD ?_); refine ⟨_, _, rfl, ?_⟩)) | with_reducible refine ex_bool ?_ | with_reducible refine ex_eq ?_ | with_reducible refine ex_lt ?_ | with_reducible refine ex_le ?_ | with_reducible refine ex_gt ?_ | with_reducible refine ex_add ?_ | with_reducible refine ex_sub ?_ | ((with_reducible refine ex_mod ?_ ?_); (· first | assumption | decide)) | ((with_reducible refine ex_mulR ?_ ?_); · decide) | ((with_reducible refine ex_mulL ?_ ?_); · decide) | ((with_reducible refine ex_pow ?_ ?_ ?_); (· decide); (· first | omega | decide)) | ((with_reducible refine ex_fdiv ?_ ?_ ?_); (· first | assumption | decide); (· first | assumption | decide)) | ((with_reducible refine ex_get ?_); refine ⟨_, rfl, ?_⟩; (try dsimp only)) | ((with_reducible refine ex_len ?_ ?_); (· exact Nat.le_of_ble_eq_true rfl)) | ((with_reducible refine ex_plain ?_); refine ⟨_, rfl, Nat.le_of_ble_eq_true rfl, ?_⟩; (try dsimp only)))
  refine wp_eq (whole_ok k n S) ?_
  repeat (first | (first | ((with_reducible refine r_var ?_); refine ⟨_, rfl, ?_⟩) | with_reducible refine r_cst ?_ | with_reducible refine r_bin ?_ | with_reducible refine r_cmp ?_ | with_reducible refine r_chain ?_ | with_reducible refine r_and ?_ | with_reducible refine r_or ?_ | with_reducible refine r_not ?_ | with_reducible refine r_idx ?_ | with_reducible refine r_idxL ?_ | with_reducible refine r_slice ?_ | with_reducible refine r_len ?_ | with_reducible refine r_isi ?_ | with_reducible refine r_toInt ?_ | with_reducible refine r_all ?_ | with_reducible refine r_tupOf ?_ | with_reducible refine r_wget ?_ | with_reducible refine r_dictOf ?_ | with_reducible refine r_lenset ?_ | with_reducible refine r_call ?_ | with_reducible refine r_tup ?_ | with_reducible refine r_nil ?_ | with_reducible refine r_cons ?_ | with_reducible refine r_disp ?_ | with_reducible refine r_lst ?_ | with_reducible refine r_cat ?_ | with_reducible refine r_of ?_ | with_reducible refine r_eqL ?_ | with_reducible refine r_pop ?_ | with_reducible refine s_asgR ?_ | with_reducible refine s_setR ?_ | with_reducible refine s_retR ?_ | with_reducible refine s_iteR ?_ | with_reducible refine s_unpR ?_ | with_reducible refine ss_nilR ?_ | ((with_reducible refine r_callv ?_); refine ⟨_, rfl, ?_⟩) | ((with_reducible refine r_setD ?_); refine ⟨_, _, rfl, rfl, rfl, ?_⟩) | ((with_reducible refine r_popD ?_); refine ⟨_, _, rfl, ?_⟩)) | with_reducible refine ex_bool ?_ | with_reducible refine ex_eq ?_ | with_reducible refine ex_lt ?_ | with_reducible refine ex_le ?_ | with_reducible refine ex_gt ?_ | with_reducible refine ex_add ?_ | with_reducible refine ex_sub ?_ | ((with_reducible refine ex_mod ?_ ?_); (· first | assumption | decide)) | ((with_reducible refine ex_mulR ?_ ?_); · decide) | ((with_reducible refine ex_mulL ?_ ?_); · decide) | ((with_reducible refine ex_pow ?_ ?_ ?_); (· decide); (· first | omega | decide)) | ((with_reducible refine ex_fdiv ?_ ?_ ?_); (· first | assumption | decide); (· first | assumption | decide)) | ((with_reducible refine ex_get ?_); refine ⟨_, rfl, ?_⟩; (try dsimp only)) | ((with_reducible refine ex_len ?_ ?_); (· exact Nat.le_of_ble_eq_true rfl)) | ((with_reducible refine ex_plain ?_); refine ⟨_, rfl, Nat.le_of_ble_eq_true rfl, ?_⟩; (try dsimp only)))
  refine ifT ?_
  repeat (first | (first | ((with_reducible refine r_var ?_); refine ⟨_, rfl, ?_⟩) | with_reducible refine r_cst ?_ | with_reducible refine r_bin ?_ | with_reducible refine r_cmp ?_ | with_reducible refine r_chain ?_ | with_reducible refine r_and ?_ | with_reducible refine r_or ?_ | with_reducible refine r_not ?_ | with_reducible refine r_idx ?_ | with_reducible refine r_idxL ?_ | with_reducible refine r_slice ?_ | with_reducible refine r_len ?_ | with_reducible refine r_isi ?_ | with_reducible refine r_toInt ?_ | with_reducible refine r_all ?_ | with_reducible refine r_tupOf ?_ | with_reducible refine r_wget ?_ | with_reducible refine r_dictOf ?_ | with_reducible refine r_lenset ?_ | with_reducible refine r_call ?_ | with_reducible refine r_tup ?_ | with_reducible refine r_nil ?_ | with_reducible refine r_cons ?_ | with_reducible refine r_disp ?_ | with_reducible refine r_lst ?_ | with_reducible refine r_cat ?_ | with_reducible refine r_of ?_ | with_reducible refine r_eqL ?_ | with_reducible refine r_pop ?_ | with_reducible refine s_asgR ?_ | with_reducible refine s_setR ?_ | with_reducible refine s_retR ?_ | with_reducible refine s_iteR ?_ | with_reducible refine s_unpR ?_ | with_reducible refine ss_nilR ?_ | ((with_reducible refine r_callv ?_); refine ⟨_, rfl, ?_⟩) | ((with_reducible refine r_setD ?_); refine ⟨_, _, rfl, rfl, rfl, ?_⟩) | ((with_reducible refine r_popD ?_); refine ⟨_, _, rfl, ?_⟩)) | with_reducible refine ex_bool ?_ | with_reducible refine ex_eq ?_ | with_reducible refine ex_lt ?_ | with_reducible refine ex_le ?_ | with_reducible refine ex_gt ?_ | with_reducible refine ex_add ?_ | with_reducible refine ex_sub ?_ | ((with_reducible refine ex_mod ?_ ?_); (· first | assumption | decide)) | ((with_reducible refine ex_mulR ?_ ?_); · decide) | ((with_reducible refine ex_mulL ?_ ?_); · decide) | ((with_reducible refine ex_pow ?_ ?_ ?_); (· decide); (· first | omega | decide)) | ((with_reducible refine ex_fdiv ?_ ?_ ?_); (· first | assumption | decide); (· first | assumption | decide)) | ((with_reducible refine ex_get ?_); refine ⟨_, rfl, ?_⟩; (try dsimp only)) | ((with_reducible refine ex_len ?_ ?_); (· exact Nat.le_of_ble_eq_true rfl)) | ((with_reducible refine ex_plain ?_); refine ⟨_, rfl, Nat.le_of_ble_eq_true rfl, ?_⟩; (try dsimp only)))
  refine ifB (fun h => ?_) (fun h => ?_)
  · repeat (first | (first | ((with_reducible refine r_var ?_); refine ⟨_, rfl, ?_⟩) | with_reducible refine r_cst ?_ | with_reducible refine r_bin ?_ | with_reducible refine r_cmp ?_ | with_reducible refine r_chain ?_ | with_reducible refine r_and ?_ | with_reducible refine r_or ?_ | with_reducible refine r_not ?_ | with_reducible refine r_idx ?_ | with_reducible refine r_idxL ?_ | with_reducible refine r_slice ?_ | with_reducible refine r_len ?_ | with_reducible refine r_isi ?_ | with_reducible refine r_toInt ?_ | with_reducible refine r_all ?_ | with_reducible refine r_tupOf ?_ | with_reducible refine r_wget ?_ | with_reducible refine r_dictOf ?_ | with_reducible refine r_lenset ?_ | with_reducible refine r_call ?_ | with_reducible refine r_tup ?_ | with_reducible refine r_nil ?_ | with_reducible refine r_cons ?_ | with_reducible refine r_disp ?_ | with_reducible refine r_lst ?_ | with_reducible refine r_cat ?_ | with_reducible refine r_of ?_ | with_reducible refine r_eqL ?_ | with_reducible refine r_pop ?_ | with_reducible refine s_asgR ?_ | with_reducible refine s_setR ?_ | with_reducible refine s_retR ?_ | with_reducible refine s_iteR ?_ | with_reducible refine s_unpR ?_ | with_reducible refine ss_nilR ?_ | ((with_reducible refine r_callv ?_); refine ⟨_, rfl, ?_⟩) | ((with_reducible refine r_setD ?_); refine ⟨_, _, rfl, rfl, rfl, ?_⟩) | ((with_reducible refine r_popD ?_); refine ⟨_, _, rfl, ?_⟩)) | with_reducible refine ex_bool ?_ | with_reducible refine ex_eq ?_ | with_reducible refine ex_lt ?_ | with_reducible refine ex_le ?_ | with_reducible refine ex_gt ?_ | with_reducible refine ex_add ?_ | with_reducible refine ex_sub ?_ | ((with_reducible refine ex_mod ?_ ?_); (· first | assumption | decide)) | ((with_reducible refine ex_mulR ?_ ?_); · decide) | ((with_reducible refine ex_mulL ?_ ?_); · decide) | ((with_reducible refine ex_pow ?_ ?_ ?_); (· decide); (· first | omega | decide)) | ((with_reducible refine ex_fdiv ?_ ?_ ?_); (· first | assumption | decide); (· first | assumption | decide)) | ((with_reducible refine ex_get ?_); refine ⟨_, rfl, ?_⟩; (try dsimp only)) | ((with_reducible refine ex_len ?_ ?_); (· exact Nat.le_of_ble_eq_true rfl)) | ((with_reducible refine ex_plain ?_); refine ⟨_, rfl, Nat.le_of_ble_eq_true rfl, ?_⟩; (try dsimp only)))
    exact ⟨_, rfl, by rw [h]; rfl, List.take_length⟩
  · exact ⟨_, rfl, by rw [h]; rfl, List.take_length⟩
theorem number_ok (k : Nat) (n : Int) (S : Sto) : calK fs (k + 3) 2 [.p (.int n)] S = .val (.p (.bool (decide (-1000000000000 ≤ n) && decide (n ≤ 1000000000000 - 1)))) S := by
  refine wp_val ?_
  show wp (callF (calK fs (k + 2)) ⟨1, 1, b2⟩ _ S) _ _
  refine call_wp rfl ?_
  unfold b2
  (with_reducible refine ss_consR ?_); repeat (first | (first | ((with_reducible refine r_var ?_); refine ⟨_, rfl, ?_⟩) | with_reducible refine r_cst ?_ | with_reducible refine r_bin ?_ | with_reducible refine r_cmp ?_ | with_reducible refine r_chain ?_ | with_reducible refine r_and ?_ | with_reducible refine r_or ?_ | with_reducible refine r_not ?_ | with_reducible refine r_idx ?_ | with_reducible refine r_idxL ?_ | with_reducible refine r_slice ?_ | with_reducible refine r_len ?_ | with_reducible refine r_isi ?_ | with_reducible refine r_toInt ?_ | with_reducible refine r_all ?_ | with_reducible refine r_tupOf ?_ | with_reducible refine r_wget ?_ | with_reducible refine r_dictOf ?_ | with_reducible refine r_lenset ?_ | with_reducible refine r_call ?_ | with_reducible refine r_tup ?_ | with_reducible refine r_nil ?_ | with_reducible refine r_cons ?_ | with_reducible refine r_disp ?_ | with_reducible refine r_lst ?_ | with_reducible refine r_cat ?_ | with_reducible refine r_of ?_ | with_reducible refine r_eqL ?_ | with_reducible refine r_pop ?_ | with_reducible refine s_asgR ?_ | with_reducible refine s_setR ?_ | with_reducible refine s_retR ?_ | with_reducible refine s_iteR ?_ | with_reducible refine s_unpR ?_ | with_reducible refine ss_nilR ?_ | ((with_reducible refine r_callv ?_); refine ⟨_, rfl, ?_⟩) | ((with_reducible refine r_setD ?_); refine ⟨_, _, rfl, rfl, rfl, ?_⟩) | ((with_reducible refine r_popD ?_); refine ⟨_, _, rfl, ?_⟩)) | with_reducible refine ex_bool ?_ | with_reducible refine ex_eq ?_ | with_reducible refine ex_lt ?_ | with_reducible refine ex_le ?_ | with_reducible refine ex_gt ?_ | with_reducible refine ex_add ?_ | with_reducible refine ex_sub ?_ | ((with_reducible refine ex_mod ?_ ?_); (· first | assumption | decide)) | ((with_reducible refine ex_mulR ?_ ?_); · decide) | ((with_reducible refine ex_mulL ?_ ?_); · decide) | ((with_reducible refine ex_pow ?_ ?_ ?_); (· decide); (· first | omega | decide)) | ((with_reducible refine ex_fdiv ?_ ?_ ?_); (· first | assumption | decide); (· first | assumption | decide)) | ((with_reducible refine ex_get ?_); refine ⟨_, rfl, ?_⟩; (try dsimp only)) | ((with_reducible refine ex_len ?_ ?_); (· exact Nat.le_of_ble_eq_true rfl)) | ((with_reducible refine ex_plain ?_); refine ⟨_, rfl, Nat.le_of_ble_eq_true rfl, ?_⟩; (try dsimp only)))
  refine wpB ?_
  repeat (first | (first | ((with_reducible refine r_var ?_); refine ⟨_, rfl, ?_⟩) | with_reducible refine r_cst ?_ | with_reducible refine r_bin ?_ | with_reducible refine r_cmp ?_ | with_reducible refine r_chain ?_ | with_reducible refine r_and ?_ | with_reducible refine r_or ?_ | with_reducible refine r_not ?_ | with_reducible refine r_idx ?_ | with_reducible refine r_idxL ?_ | with_reducible refine r_slice ?_ | with_reducible refine r_len ?_ | with_reducible refine r_isi ?_ | with_reducible refine r_toInt ?_ | with_reducible refine r_all ?_ | with_reducible refine r_tupOf ?_ | with_reducible refine r_wget ?_ | with_reducible refine r_dictOf ?_ | with_reducible refine r_lenset ?_ | with_reducible refine r_call ?_ | with_reducible refine r_tup ?_ | with_reducible refine r_nil ?_ | with_reducible refine r_cons ?_ | with_reducible refine r_disp ?_ | with_reducible refine r_lst ?_ | with_reducible refine r_cat ?_ | with_reducible refine r_of ?_ | with_reducible refine r_eqL ?_ | with_reducible refine r_pop ?_ | with_reducible refine s_asgR ?_ | with_reducible refine s_setR ?_ | with_reducible refine s_retR ?_ | with_reducible refine s_iteR ?_ | with_reducible refine s_unpR ?_ | with_reducible refine ss_nilR ?_ | ((with_reducible refine r_callv ?_); refine ⟨_, rfl, ?_⟩) | ((with_reducible refine r_setD ?_); refine ⟨_, _, rfl, rfl, rfl, ?_⟩) | ((with_reducible refine r_popD ?_); refine ⟨_, _, rfl, ?_⟩)) | with_reducible refine ex_bool ?_ | with_reducible refine ex_eq ?_ | with_reducible refine ex_lt ?_ | with_reducible refine ex_le ?_ | with_reducible refine ex_gt ?_ | with_reducible refine ex_add ?_ | with_reducible refine ex_sub ?_ | ((with_reducible refine ex_mod ?_ ?_); (· first | assumption | decide)) | ((with_reducible refine ex_mulR ?_ ?_); · decide) | ((with_reducible refine ex_mulL ?_ ?_); · decide) | ((with_reducible refine ex_pow ?_ ?_ ?_); (· decide); (· first | omega | decide)) | ((with_reducible refine ex_fdiv ?_ ?_ ?_); (· first | assumption | decide); (· first | assumption | decide)) | ((with_reducible refine ex_get ?_); refine ⟨_, rfl, ?_⟩; (try dsimp only)) | ((with_reducible refine ex_len ?_ ?_); (· exact Nat.le_of_ble_eq_true rfl)) | ((with_reducible refine ex_plain ?_); refine ⟨_, rfl, Nat.le_of_ble_eq_true rfl, ?_⟩; (try dsimp only)))
  refine wpO rfl ?_
  repeat (first | (first | ((with_reducible refine r_var ?_); refine ⟨_, rfl, ?_⟩) | with_reducible refine r_cst ?_ | with_reducible refine r_bin ?_ | with_reducible refine r_cmp ?_ | with_reducible refine r_chain ?_ | with_reducible refine r_and ?_ | with_reducible refine r_or ?_ | with_reducible refine r_not ?_ | with_reducible refine r_idx ?_ | with_reducible refine r_idxL ?_ | with_reducible refine r_slice ?_ | with_reducible refine r_len ?_ | with_reducible refine r_isi ?_ | with_reducible refine r_toInt ?_ | with_reducible refine r_all ?_ | with_reducible refine r_tupOf ?_ | with_reducible refine r_wget ?_ | with_reducible refine r_dictOf ?_ | with_reducible refine r_lenset ?_ | with_reducible refine r_call ?_ | with_reducible refine r_tup ?_ | with_reducible refine r_nil ?_ | with_reducible refine r_cons ?_ | with_reducible refine r_disp ?_ | with_reducible refine r_lst ?_ | with_reducible refine r_cat ?_ | with_reducible refine r_of ?_ | with_reducible refine r_eqL ?_ | with_reducible refine r_pop ?_ | with_reducible refine s_asgR ?_ | with_reducible refine s_setR ?_ | with_reducible refine s_retR ?_ | with_reducible refine s_iteR ?_ | with_reducible refine s_unpR ?_ | with_reducible refine ss_nilR ?_ | ((with_reducible refine r_callv ?_); refine ⟨_, rfl, ?_⟩) | ((with_reducible refine r_setD ?_); refine ⟨_, _, rfl, rfl, rfl, ?_⟩) | ((with_reducible refine r_popD ?_); refine ⟨_, _, rfl, ?_⟩)) | with_reducible refine ex_bool ?_ | with_reducible refine ex_eq ?_ | with_reducible refine ex_lt ?_ | with_reducible refine ex_le ?_ | with_reducible refine ex_gt ?_ | with_reducible refine ex_add ?_ | with_reducible refine ex_sub ?_ | ((with_reducible refine ex_mod ?_ ?_); (· first | assumption | decide)) | ((with_reducible refine ex_mulR ?_ ?_); · decide) | ((with_reducible refine ex_mulL ?_ ?_); · decide) | ((with_reducible refine ex_pow ?_ ?_ ?_); (· decide); (· first | omega | decide)) | ((with_reducible refine ex_fdiv ?_ ?_ ?_); (· first | assumption | decide); (· first | assumption | decide)) | ((with_reducible refine ex_get ?_); refine ⟨_, rfl, ?_⟩; (try dsimp only)) | ((with_reducible refine ex_len ?_ ?_); (· exact Nat.le_of_ble_eq_true rfl)) | ((with_reducible refine ex_plain ?_); refine ⟨_, rfl, Nat.le_of_ble_eq_true rfl, ?_⟩; (try dsimp only)))
  refine wp_eq (within_ok k n _ _ S) ?_
  exact ⟨_, rfl, rfl, List.take_length⟩
theorem part_num (k : Nat) (n : Int) (j : D) (S : Sto) (h1 : -1000000000000 ≤ n) (h2 : n ≤ 999999999999) : calK fs (k + 4) 21 [.p (.str "number"), .p (.int n), j] S = .val (.p (.bool true)) S := by
  refine wp_val ?_
  show wp (callF (calK fs (k + 3)) ⟨3, 3, b21⟩ _ S) _ _
  refine call_wp rfl ?_
  unfold b21
  (with_reducible refine ss_consR ?_); repeat (first | (first | ((with_reducible refine r_var ?_); refine ⟨_, rfl, ?_⟩) | with_reducible refine r_cst ?_ | with_reducible refine r_bin ?_ | with_reducible refine r_cmp ?_ | with_reducible refine r_chain ?_ | with_reducible refine r_and ?_ | with_reducible refine r_or ?_ | with_reducible refine r_not ?_ | with_reducible refine r_idx ?_ | with_reducible refine r_idxL ?_ | with_reducible refine r_slice ?_ | with_reducible refine r_len ?_ | with_reducible refine r_isi ?_ | with_reducible refine r_toInt ?_ | with_reducible refine r_all ?_ | with_reducible refine r_tupOf ?_ | with_reducible refine r_wget ?_ | with_reducible refine r_dictOf ?_ | with_reducible refine r_lenset ?_ | with_reducible refine r_call ?_ | with_reducible refine r_tup ?_ | with_reducible refine r_nil ?_ | with_reducible refine r_cons ?_ | with_reducible refine r_disp ?_ | with_reducible refine r_lst ?_ | with_reducible refine r_cat ?_ | with_reducible refine r_of ?_ | with_reducible refine r_eqL ?_ | with_reducible refine r_pop ?_ | with_reducible refine s_asgR ?_ | with_reducible refine s_setR ?_ | with_reducible refine s_retR ?_ | with_reducible refine s_iteR ?_ | with_reducible refine s_unpR ?_ | with_reducible refine ss_nilR ?_ | ((with_reducible refine r_callv ?_); refine ⟨_, rfl, ?_⟩) | ((with_reducible refine r_setD ?_); refine ⟨_, _, rfl, rfl, rfl, ?_⟩) | ((with_reducible refine r_popD ?_); refine ⟨_, _, rfl, ?_⟩)) | with_reducible refine ex_bool ?_ | with_reducible refine ex_eq ?_ | with_reducible refine ex_lt ?_ | with_reducible refine ex_le ?_ | with_reducible refine ex_gt ?_ | with_reducible refine ex_add ?_ | with_reducible refine ex_sub ?_ | ((with_reducible refine ex_mod ?_ ?_); (· first | assumption | decide)) | ((with_reducible refine ex_mulR ?_ ?_); · decide) | ((with_reducible refine ex_mulL ?_ ?_); · decide) | ((with_reducible refine ex_pow ?_ ?_ ?_); (· decide); (· first | omega | decide)) | ((with_reducible refine ex_fdiv ?_ ?_ ?_); (· first | assumption | decide); (· first | assumption | decide)) | ((with_reducible refine ex_get ?_); refine ⟨_, rfl, ?_⟩; (try dsimp only)) | ((with_reducible refine ex_len ?_ ?_); (· exact Nat.le_of_ble_eq_true rfl)) | ((with_reducible refine ex_plain ?_); refine ⟨_, rfl, Nat.le_of_ble_eq_true rfl, ?_⟩; (try dsimp only)))
  refine ⟨true, by kernel_rfl, ?_⟩
  repeat (first | (first | ((with_reducible refine r_var ?_); refine ⟨_, rfl, ?_⟩) | with_reducible refine r_cst ?_ | with_reducible refine r_bin ?_ | with_reducible refine r_cmp ?_ | with_reducible refine r_chain ?_ | with_reducible refine r_and ?_ | with_reducible refine r_or ?_ | with_reducible refine r_not ?_ | with_reducible refine r_idx ?_ | with_reducible refine r_idxL ?_ | with_reducible refine r_slice ?_ | with_reducible refine r_len ?_ | with_reducible refine r_isi ?_ | with_reducible refine r_toInt ?_ | with_reducible refine r_all ?_ | with_reducible refine r_tupOf ?_ | with_reducible refine r_wget ?_ | with_reducible refine r_dictOf ?_ | with_reducible refine r_lenset ?_ | with_reducible refine r_call ?_ | with_reducible refine r_tup ?_ | with_reducible refine r_nil ?_ | with_reducible refine r_cons ?_ | with_reducible refine r_disp ?_ | with_reducible refine r_lst ?_ | with_reducible refine r_cat ?_ | with_reducible refine r_of ?_ | with_reducible refine r_eqL ?_ | with_reducible refine r_pop ?_ | with_reducible refine s_asgR ?_ | with_reducible refine s_setR ?_ | with_reducible refine s_retR ?_ | with_reducible refine s_iteR ?_ | with_reducible refine s_unpR ?_ | with_reducible refine ss_nilR ?_ | ((with_reducible refine r_callv ?_); refine ⟨_, rfl, ?_⟩) | ((with_reducible refine r_setD ?_); refine ⟨_, _, rfl, rfl, rfl, ?_⟩) | ((with_reducible refine r_popD ?_); refine ⟨_, _, rfl, ?_⟩)) | with_reducible refine ex_bool ?_ | with_reducible refine ex_eq ?_ | with_reducible refine ex_lt ?_ | with_reducible refine ex_le ?_ | with_reducible refine ex_gt ?_ | with_reducible refine ex_add ?_ | with_reducible refine ex_sub ?_ | ((with_reducible refine ex_mod ?_ ?_); (· first | assumption | decide)) | ((with_reducible refine ex_mulR ?_ ?_); · decide) | ((with_reducible refine ex_mulL ?_ ?_); · decide) | ((with_reducible refine ex_pow ?_ ?_ ?_); (· decide); (· first | omega | decide)) | ((with_reducible refine ex_fdiv ?_ ?_ ?_); (· first | assumption | decide); (· first | assumption | decide)) | ((with_reducible refine ex_get ?_); refine ⟨_, rfl, ?_⟩; (try dsimp only)) | ((with_reducible refine ex_len ?_ ?_); (· exact Nat.le_of_ble_eq_true rfl)) | ((with_reducible refine ex_plain ?_); refine ⟨_, rfl, Nat.le_of_ble_eq_true rfl, ?_⟩; (try dsimp only)))
  refine ifT ?_
  (with_reducible refine ss_consR ?_); repeat (first | (first | ((with_reducible refine r_var ?_); refine ⟨_, rfl, ?_⟩) | with_reducible refine r_cst ?_ | with_reducible refine r_bin ?_ | with_reducible refine r_cmp ?_ | with_reducible refine r_chain ?_ | with_reducible refine r_and ?_ | with_reducible refine r_or ?_ | with_reducible refine r_not ?_ | with_reducible refine r_idx ?_ | with_reducible refine r_idxL ?_ | with_reducible refine r_slice ?_ | with_reducible refine r_len ?_ | with_reducible refine r_isi ?_ | with_reducible refine r_toInt ?_ | with_reducible refine r_all ?_ | with_reducible refine r_tupOf ?_ | with_reducible refine r_wget ?_ | with_reducible refine r_dictOf ?_ | with_reducible refine r_lenset ?_ | with_reducible refine r_call ?_ | with_reducible refine r_tup ?_ | with_reducible refine r_nil ?_ | with_reducible refine r_cons ?_ | with_reducible refine r_disp ?_ | with_reducible refine r_lst ?_ | with_reducible refine r_cat ?_ | with_reducible refine r_of ?_ | with_reducible refine r_eqL ?_ | with_reducible refine r_pop ?_ | with_reducible refine s_asgR ?_ | with_reducible refine s_setR ?_ | with_reducible refine s_retR ?_ | with_reducible refine s_iteR ?_ | with_reducible refine s_unpR ?_ | with_reducible refine ss_nilR ?_ | ((with_reducible refine r_callv ?_); refine ⟨_, rfl, ?_⟩) | ((with_reducible refine r_setD ?_); refine ⟨_, _, rfl, rfl, rfl, ?_⟩) | ((with_reducible refine r_popD ?_); refine ⟨_, _, rfl, ?_⟩)) | with_reducible refine ex_bool ?_ | with_reducible refine ex_eq ?_ | with_reducible refine ex_lt ?_ | with_reducible refine ex_le ?_ | with_reducible refine ex_gt ?_ | with_reducible refine ex_add ?_ | with_reducible refine ex_sub ?_ | ((with_reducible refine ex_mod ?_ ?_); (· first | assumption | decide)) | ((with_reducible refine ex_mulR ?_ ?_); · decide) | ((with_reducible refine ex_mulL ?_ ?_); · decide) | ((with_reducible refine ex_pow ?_ ?_ ?_); (· decide); (· first | omega | decide)) | ((with_reducible refine ex_fdiv ?_ ?_ ?_); (· first | assumption | decide); (· first | assumption | decide)) | ((with_reducible refine ex_get ?_); refine ⟨_, rfl, ?_⟩; (try dsimp only)) | ((with_reducible refine ex_len ?_ ?_); (· exact Nat.le_of_ble_eq_true rfl)) | ((with_reducible refine ex_plain ?_); refine ⟨_, rfl, Nat.le_of_ble_eq_true rfl, ?_⟩; (try dsimp only)))
  refine wp_eq (number_ok k n S) ?_
  exact ⟨_, rfl, by rw [decide_eq_true h1, decide_eq_true (show n ≤ 1000000000000 - 1 by omega)]; rfl, List.take_length⟩
end Ir.K72
set_option Elab.async false
set_option linter.all false
set_option maxRecDepth 100000
set_option maxHeartbeats 4000001
namespace Ir
open PySem
section
variable {cal : Nat → List D → M D} {ρ : Sl} {S : Sto} {okL : List D → Sto → Prop} {ex : Ex → Sto → Prop}
theorem r_lc {it : Wi} {tg : List Nat} {one : Bool} {elt : E} (h : wp (evI cal it ρ S) (fun src S1 => ∃ n, src.size S1 = some n ∧ n ≤ 100000 ∧ wp (lcGo src (fun d => M.calm (match tgt tg one d (wipeD ρ tg) with
        | some ρ' => evE cal elt ρ'
        | none => M.bad)) n 0 [] S1) okL ex) ex) : wp (evL cal (.lc it tg one elt) ρ S) okL ex :=
  wpB (wp_mono h (fun src S1 q => by
    obtain ⟨n, e1, e2, q⟩ := q
    show wp (match src.size S1 with
      | some n => if n ≤ 100000 then lcGo src (fun d => M.calm (match tgt tg one d (wipeD ρ tg) with
        | some ρ' => evE cal elt ρ'
        | none => M.bad)) n 0 [] S1 else Out.bad
      | none => .bad) okL ex
    rw [e1]
    show wp (if n ≤ 100000 then lcGo src (fun d => M.calm (match tgt tg one d (wipeD ρ tg) with
        | some ρ' => evE cal elt ρ'
        | none => M.bad)) n 0 [] S1 else Out.bad) okL ex
    rw [if_pos e2]
    exact q) fun _ _ z => z)
theorem lc_S {src : Src} {body : D → M D} {n i : Nat} {acc : List D} (h : ∃ d, src.at i S = some (some d) ∧ wp (body d S) (fun e S1 => wp (lcGo src body n (i + 1) (acc ++ [e]) S1) okL ex) ex) : wp (lcGo src body (n + 1) i acc S) okL ex := by
  obtain ⟨d, e, h⟩ := h
  show wp ((match src.at i S with
    | some none => Out.val acc S
    | some (some d) => M.bind (body d) (fun e => lcGo src body n (i + 1) (acc ++ [e])) S
    | none => .bad)) okL ex
  rw [e]
  exact wpB h
theorem lc_Z {src : Src} {body : D → M D} {i : Nat} {acc : List D} (h : src.at i S = some none) (k : okL acc S) : wp (lcGo src body 0 i acc S) okL ex := by
  show wp ((match src.at i S with
    | some none => Out.val acc S
    | _ => .bad)) okL ex
  rw [h]
  exact k
theorem wpC {α : Type} {m : M α} {S : Sto} {ok : α → Sto → Prop} {ex : Ex → Sto → Prop} (h : wp (m S) ok (fun _ _ => False)) : wp (M.calm m S) ok ex := by
  unfold M.calm
  cases e : m S with
  | val a S' => rw [e] at h; exact h
  | exc a S' => rw [e] at h; exact h.elim
  | bad => rw [e] at h; exact h.elim
end
end Ir
namespace Ir.K72
open PySem PySem.W
abbrev S7 (o0 o1 o2 o3 o4 o5 : MO) (h : Int) : Sto := [o0, o1, o2, o3, o4, o5, .dic [(.inl 0, .p (.int h))]]
theorem isrow_num (o0 o1 o2 o3 o4 o5 : MO) (h n : Int) (h1 : -1000000000000 ≤ n) (h2 : n ≤ 999999999999) : calK fs 9 20 [.p (.tuple [.str "num", .int n]), .ref 6] (S7 o0 o1 o2 o3 o4 o5 h) = .val (.p (.bool true)) (S7 o0 o1 o2 o3 o4 o5 h) := by
  refine wp_val ?_
  show wp (callF (calK fs 8) ⟨2, 5, b20⟩ _ _) _ _
  refine call_wp rfl ?_
  unfold b20
  (with_reducible refine ss_consR ?_)
  refine wp_eq (a := (.next, [some (.p (.tuple [.str "num", .int n])), some (.ref 6), none, none, none])) (S := S7 o0 o1 o2 o3 o4 o5 h) (by kernel_rfl) ?_
  dsimp only
  (with_reducible refine ss_consR ?_)
  refine wp_eq (a := (.next, [some (.p (.tuple [.str "num", .int n])), some (.ref 6), some (.p (.tuple [.str "number"])), none, none])) (S := S7 o0 o1 o2 o3 o4 o5 h) (by kernel_rfl) ?_
  dsimp only
  (with_reducible refine ss_consR ?_)
  refine wp_eq (a := (.next, [some (.p (.tuple [.str "num", .int n])), some (.ref 6), some (.p (.tuple [.str "number"])), none, none])) (S := S7 o0 o1 o2 o3 o4 o5 h) (by kernel_rfl) ?_
  dsimp only
  (with_reducible refine ss_consR ?_); repeat (first | (first | ((with_reducible refine r_var ?_); refine ⟨_, rfl, ?_⟩) | with_reducible refine r_cst ?_ | with_reducible refine r_bin ?_ | with_reducible refine r_cmp ?_ | with_reducible refine r_chain ?_ | with_reducible refine r_and ?_ | with_reducible refine r_or ?_ | with_reducible refine r_not ?_ | with_reducible refine r_idx ?_ | with_reducible refine r_idxL ?_ | with_reducible refine r_slice ?_ | with_reducible refine r_len ?_ | with_reducible refine r_isi ?_ | with_reducible refine r_toInt ?_ | with_reducible refine r_all ?_ | with_reducible refine r_tupOf ?_ | with_reducible refine r_wget ?_ | with_reducible refine r_dictOf ?_ | with_reducible refine r_lenset ?_ | with_reducible refine r_call ?_ | with_reducible refine r_tup ?_ | with_reducible refine r_nil ?_ | with_reducible refine r_cons ?_ | with_reducible refine r_disp ?_ | with_reducible refine r_lst ?_ | with_reducible refine r_cat ?_ | with_reducible refine r_of ?_ | with_reducible refine r_eqL ?_ | with_reducible refine r_pop ?_ | with_reducible refine s_asgR ?_ | with_reducible refine s_setR ?_ | with_reducible refine s_retR ?_ | with_reducible refine s_iteR ?_ | with_reducible refine s_unpR ?_ | with_reducible refine ss_nilR ?_ | ((with_reducible refine r_callv ?_); refine ⟨_, rfl, ?_⟩) | ((with_reducible refine r_setD ?_); refine ⟨_, _, rfl, rfl, rfl, ?_⟩) | ((with_reducible refine r_popD ?_); refine ⟨_, _, rfl, ?_⟩)) | with_reducible refine ex_bool ?_ | with_reducible refine ex_eq ?_ | with_reducible refine ex_lt ?_ | with_reducible refine ex_le ?_ | with_reducible refine ex_gt ?_ | with_reducible refine ex_add ?_ | with_reducible refine ex_sub ?_ | ((with_reducible refine ex_mod ?_ ?_); (· first | assumption | decide)) | ((with_reducible refine ex_mulR ?_ ?_); · decide) | ((with_reducible refine ex_mulL ?_ ?_); · decide) | ((with_reducible refine ex_pow ?_ ?_ ?_); (· decide); (· first | omega | decide)) | ((with_reducible refine ex_fdiv ?_ ?_ ?_); (· first | assumption | decide); (· first | assumption | decide)) | ((with_reducible refine ex_get ?_); refine ⟨_, rfl, ?_⟩; (try dsimp only)) | ((with_reducible refine ex_len ?_ ?_); (· exact Nat.le_of_ble_eq_true rfl)) | ((with_reducible refine ex_plain ?_); refine ⟨_, rfl, Nat.le_of_ble_eq_true rfl, ?_⟩; (try dsimp only)))
  refine r_lc ?_
  refine wp_eq (a := .fix [.p (.tuple [.str "number", .int n])]) (S := S7 o0 o1 o2 o3 o4 o5 h) (by kernel_rfl) ?_
  refine ⟨1, rfl, by decide, ?_⟩
  refine lc_S ⟨_, rfl, wpC ?_⟩
  refine wp_eq (a := .p (.bool true)) (S := S7 o0 o1 o2 o3 o4 o5 h) ?_ ?_
  · exact part_num 4 n (.ref 6) _ h1 h2
  · refine lc_Z rfl ?_
    exact ⟨_, rfl, _, rfl, rfl, rfl⟩
theorem isrow (o0 o1 o2 o3 o4 o5 : MO) (h : Int) {row : PyData} (r : RowOk row) : calK fs 9 20 [.p row, .ref 6] (S7 o0 o1 o2 o3 o4 o5 h) = .val (.p (.bool true)) (S7 o0 o1 o2 o3 o4 o5 h) := by
  cases r with
  | one w hw =>
    simp only [List.mem_cons, List.not_mem_nil, or_false] at hw
    rcases hw with rfl | rfl | rfl | rfl | rfl | rfl | rfl | rfl | rfl | rfl | rfl | rfl <;> kernel_rfl
  | num n h1 h2 => exact isrow_num o0 o1 o2 o3 o4 o5 h n h1 h2
  | box w n hw hn =>
    simp only [List.mem_cons, List.not_mem_nil, or_false] at hw
    rcases (by omega : n = 0 ∨ n = 1 ∨ n = 2 ∨ n = 3 ∨ n = 4 ∨ n = 5 ∨ n = 6 ∨ n = 7) with rfl | rfl | rfl | rfl | rfl | rfl | rfl | rfl <;> rcases hw with rfl | rfl <;> kernel_rfl
  | unit w hw =>
    simp only [List.mem_cons, List.not_mem_nil, or_false] at hw
    rcases hw with rfl | rfl <;> kernel_rfl
  | way w hw =>
    simp only [List.mem_cons, List.not_mem_nil, or_false] at hw
    rcases hw with rfl | rfl | rfl | rfl <;> kernel_rfl
  | entry w hw =>
    simp only [List.mem_cons, List.not_mem_nil, or_false] at hw
    rcases hw with rfl | rfl <;> kernel_rfl
end Ir.K72
set_option Elab.async false
set_option linter.all false
set_option maxRecDepth 100000
set_option maxHeartbeats 4000001
namespace Ir.K72
open PySem PySem.W
def way1 (rows : List PyData) (h : Int) : PyData := .tuple [.str "go", .tuple [], .str "num", .tuple rows, .tuple [.tuple [.int 0, .int h]], .tuple []]
def unit1 (rows : List PyData) (h : Int) : PyData := .tuple [.str "kind", .str "Own", .str "", .tuple [], .tuple [], .tuple [way1 rows h]]
theorem tuple_ok (k : Nat) (ds : List PyData) (lo hi : Int) (S : Sto) : calK fs (k + 1) 10 [.p (.tuple ds), .p (.int lo), .p (.int hi)] S = .val (.p (.bool (decide (lo ≤ (ds.length : Int)) && decide ((ds.length : Int) ≤ hi)))) S := by
  refine wp_val ?_
  show wp (callF (calK fs k) ⟨3, 3, b10⟩ _ S) _ _
  refine call_wp rfl ?_
  unfold b10
  (with_reducible refine ss_consR ?_); repeat (first | (first | ((with_reducible refine r_var ?_); refine ⟨_, rfl, ?_⟩) | with_reducible refine r_cst ?_ | with_reducible refine r_bin ?_ | with_reducible refine r_cmp ?_ | with_reducible refine r_chain ?_ | with_reducible refine r_and ?_ | with_reducible refine r_or ?_ | with_reducible refine r_not ?_ | with_reducible refine r_idx ?_ | with_reducible refine r_idxL ?_ | with_reducible refine r_slice ?_ | with_reducible refine r_len ?_ | with_reducible refine r_isi ?_ | with_reducible refine r_toInt ?_ | with_reducible refine r_all ?_ | with_reducible refine r_tupOf ?_ | with_reducible refine r_wget ?_ | with_reducible refine r_dictOf ?_ | with_reducible refine r_lenset ?_ | with_reducible refine r_call ?_ | with_reducible refine r_tup ?_ | with_reducible refine r_nil ?_ | with_reducible refine r_cons ?_ | with_reducible refine r_disp ?_ | with_reducible refine r_lst ?_ | with_reducible refine r_cat ?_ | with_reducible refine r_of ?_ | with_reducible refine r_eqL ?_ | with_reducible refine r_pop ?_ | with_reducible refine s_asgR ?_ | with_reducible refine s_setR ?_ | with_reducible refine s_retR ?_ | with_reducible refine s_iteR ?_ | with_reducible refine s_unpR ?_ | with_reducible refine ss_nilR ?_ | ((with_reducible refine r_callv ?_); refine ⟨_, rfl, ?_⟩) | ((with_reducible refine r_setD ?_); refine ⟨_, _, rfl, rfl, rfl, ?_⟩) | ((with_reducible refine r_popD ?_); refine ⟨_, _, rfl, ?_⟩)) | with_reducible refine ex_bool ?_ | with_reducible refine ex_eq ?_ | with_reducible refine ex_lt ?_ | with_reducible refine ex_le ?_ | with_reducible refine ex_gt ?_ | with_reducible refine ex_add ?_ | with_reducible refine ex_sub ?_ | ((with_reducible refine ex_mod ?_ ?_); (· first | assumption | decide)) | ((with_reducible refine ex_mulR ?_ ?_); · decide) | ((with_reducible refine ex_mulL ?_ ?_); · decide) | ((with_reducible refine ex_pow ?_ ?_ ?_); (· decide); (· first | omega | decide)) | ((with_reducible refine ex_fdiv ?_ ?_ ?_); (· first | assumption | decide); (· first | assumption | decide)) | ((with_reducible refine ex_get ?_); refine ⟨_, rfl, ?_⟩; (try dsimp only)) | ((with_reducible refine ex_len ?_ ?_); (· exact Nat.le_of_ble_eq_true rfl)) | ((with_reducible refine ex_plain ?_); refine ⟨_, rfl, Nat.le_of_ble_eq_true rfl, ?_⟩; (try dsimp only)))
  refine ⟨true, rfl, ?_⟩
  repeat (first | (first | ((with_reducible refine r_var ?_); refine ⟨_, rfl, ?_⟩) | with_reducible refine r_cst ?_ | with_reducible refine r_bin ?_ | with_reducible refine r_cmp ?_ | with_reducible refine r_chain ?_ | with_reducible refine r_and ?_ | with_reducible refine r_or ?_ | with_reducible refine r_not ?_ | with_reducible refine r_idx ?_ | with_reducible refine r_idxL ?_ | with_reducible refine r_slice ?_ | with_reducible refine r_len ?_ | with_reducible refine r_isi ?_ | with_reducible refine r_toInt ?_ | with_reducible refine r_all ?_ | with_reducible refine r_tupOf ?_ | with_reducible refine r_wget ?_ | with_reducible refine r_dictOf ?_ | with_reducible refine r_lenset ?_ | with_reducible refine r_call ?_ | with_reducible refine r_tup ?_ | with_reducible refine r_nil ?_ | with_reducible refine r_cons ?_ | with_reducible refine r_disp ?_ | with_reducible refine r_lst ?_ | with_reducible refine r_cat ?_ | with_reducible refine r_of ?_ | with_reducible refine r_eqL ?_ | with_reducible refine r_pop ?_ | with_reducible refine s_asgR ?_ | with_reducible refine s_setR ?_ | with_reducible refine s_retR ?_ | with_reducible refine s_iteR ?_ | with_reducible refine s_unpR ?_ | with_reducible refine ss_nilR ?_ | ((with_reducible refine r_callv ?_); refine ⟨_, rfl, ?_⟩) | ((with_reducible refine r_setD ?_); refine ⟨_, _, rfl, rfl, rfl, ?_⟩) | ((with_reducible refine r_popD ?_); refine ⟨_, _, rfl, ?_⟩)) | with_reducible refine ex_bool ?_ | with_reducible refine ex_eq ?_ | with_reducible refine ex_lt ?_ | with_reducible refine ex_le ?_ | with_reducible refine ex_gt ?_ | with_reducible refine ex_add ?_ | with_reducible refine ex_sub ?_ | ((with_reducible refine ex_mod ?_ ?_); (· first | assumption | decide)) | ((with_reducible refine ex_mulR ?_ ?_); · decide) | ((with_reducible refine ex_mulL ?_ ?_); · decide) | ((with_reducible refine ex_pow ?_ ?_ ?_); (· decide); (· first | omega | decide)) | ((with_reducible refine ex_fdiv ?_ ?_ ?_); (· first | assumption | decide); (· first | assumption | decide)) | ((with_reducible refine ex_get ?_); refine ⟨_, rfl, ?_⟩; (try dsimp only)) | ((with_reducible refine ex_len ?_ ?_); (· exact Nat.le_of_ble_eq_true rfl)) | ((with_reducible refine ex_plain ?_); refine ⟨_, rfl, Nat.le_of_ble_eq_true rfl, ?_⟩; (try dsimp only)))
  refine ifT ?_
  repeat (first | (first | ((with_reducible refine r_var ?_); refine ⟨_, rfl, ?_⟩) | with_reducible refine r_cst ?_ | with_reducible refine r_bin ?_ | with_reducible refine r_cmp ?_ | with_reducible refine r_chain ?_ | with_reducible refine r_and ?_ | with_reducible refine r_or ?_ | with_reducible refine r_not ?_ | with_reducible refine r_idx ?_ | with_reducible refine r_idxL ?_ | with_reducible refine r_slice ?_ | with_reducible refine r_len ?_ | with_reducible refine r_isi ?_ | with_reducible refine r_toInt ?_ | with_reducible refine r_all ?_ | with_reducible refine r_tupOf ?_ | with_reducible refine r_wget ?_ | with_reducible refine r_dictOf ?_ | with_reducible refine r_lenset ?_ | with_reducible refine r_call ?_ | with_reducible refine r_tup ?_ | with_reducible refine r_nil ?_ | with_reducible refine r_cons ?_ | with_reducible refine r_disp ?_ | with_reducible refine r_lst ?_ | with_reducible refine r_cat ?_ | with_reducible refine r_of ?_ | with_reducible refine r_eqL ?_ | with_reducible refine r_pop ?_ | with_reducible refine s_asgR ?_ | with_reducible refine s_setR ?_ | with_reducible refine s_retR ?_ | with_reducible refine s_iteR ?_ | with_reducible refine s_unpR ?_ | with_reducible refine ss_nilR ?_ | ((with_reducible refine r_callv ?_); refine ⟨_, rfl, ?_⟩) | ((with_reducible refine r_setD ?_); refine ⟨_, _, rfl, rfl, rfl, ?_⟩) | ((with_reducible refine r_popD ?_); refine ⟨_, _, rfl, ?_⟩)) | with_reducible refine ex_bool ?_ | with_reducible refine ex_eq ?_ | with_reducible refine ex_lt ?_ | with_reducible refine ex_le ?_ | with_reducible refine ex_gt ?_ | with_reducible refine ex_add ?_ | with_reducible refine ex_sub ?_ | ((with_reducible refine ex_mod ?_ ?_); (· first | assumption | decide)) | ((with_reducible refine ex_mulR ?_ ?_); · decide) | ((with_reducible refine ex_mulL ?_ ?_); · decide) | ((with_reducible refine ex_pow ?_ ?_ ?_); (· decide); (· first | omega | decide)) | ((with_reducible refine ex_fdiv ?_ ?_ ?_); (· first | assumption | decide); (· first | assumption | decide)) | ((with_reducible refine ex_get ?_); refine ⟨_, rfl, ?_⟩; (try dsimp only)) | ((with_reducible refine ex_len ?_ ?_); (· exact Nat.le_of_ble_eq_true rfl)) | ((with_reducible refine ex_plain ?_); refine ⟨_, rfl, Nat.le_of_ble_eq_true rfl, ?_⟩; (try dsimp only)))
  refine ⟨_, rfl, ?_⟩
  repeat (first | (first | ((with_reducible refine r_var ?_); refine ⟨_, rfl, ?_⟩) | with_reducible refine r_cst ?_ | with_reducible refine r_bin ?_ | with_reducible refine r_cmp ?_ | with_reducible refine r_chain ?_ | with_reducible refine r_and ?_ | with_reducible refine r_or ?_ | with_reducible refine r_not ?_ | with_reducible refine r_idx ?_ | with_reducible refine r_idxL ?_ | with_reducible refine r_slice ?_ | with_reducible refine r_len ?_ | with_reducible refine r_isi ?_ | with_reducible refine r_toInt ?_ | with_reducible refine r_all ?_ | with_reducible refine r_tupOf ?_ | with_reducible refine r_wget ?_ | with_reducible refine r_dictOf ?_ | with_reducible refine r_lenset ?_ | with_reducible refine r_call ?_ | with_reducible refine r_tup ?_ | with_reducible refine r_nil ?_ | with_reducible refine r_cons ?_ | with_reducible refine r_disp ?_ | with_reducible refine r_lst ?_ | with_reducible refine r_cat ?_ | with_reducible refine r_of ?_ | with_reducible refine r_eqL ?_ | with_reducible refine r_pop ?_ | with_reducible refine s_asgR ?_ | with_reducible refine s_setR ?_ | with_reducible refine s_retR ?_ | with_reducible refine s_iteR ?_ | with_reducible refine s_unpR ?_ | with_reducible refine ss_nilR ?_ | ((with_reducible refine r_callv ?_); refine ⟨_, rfl, ?_⟩) | ((with_reducible refine r_setD ?_); refine ⟨_, _, rfl, rfl, rfl, ?_⟩) | ((with_reducible refine r_popD ?_); refine ⟨_, _, rfl, ?_⟩)) | with_reducible refine ex_bool ?_ | with_reducible refine ex_eq ?_ | with_reducible refine ex_lt ?_ | with_reducible refine ex_le ?_ | with_reducible refine ex_gt ?_ | with_reducible refine ex_add ?_ | with_reducible refine ex_sub ?_ | ((with_reducible refine ex_mod ?_ ?_); (· first | assumption | decide)) | ((with_reducible refine ex_mulR ?_ ?_); · decide) | ((with_reducible refine ex_mulL ?_ ?_); · decide) | ((with_reducible refine ex_pow ?_ ?_ ?_); (· decide); (· first | omega | decide)) | ((with_reducible refine ex_fdiv ?_ ?_ ?_); (· first | assumption | decide); (· first | assumption | decide)) | ((with_reducible refine ex_get ?_); refine ⟨_, rfl, ?_⟩; (try dsimp only)) | ((with_reducible refine ex_len ?_ ?_); (· exact Nat.le_of_ble_eq_true rfl)) | ((with_reducible refine ex_plain ?_); refine ⟨_, rfl, Nat.le_of_ble_eq_true rfl, ?_⟩; (try dsimp only)))
  refine ifB (fun h => ?_) (fun h => ?_)
  · repeat (first | (first | ((with_reducible refine r_var ?_); refine ⟨_, rfl, ?_⟩) | with_reducible refine r_cst ?_ | with_reducible refine r_bin ?_ | with_reducible refine r_cmp ?_ | with_reducible refine r_chain ?_ | with_reducible refine r_and ?_ | with_reducible refine r_or ?_ | with_reducible refine r_not ?_ | with_reducible refine r_idx ?_ | with_reducible refine r_idxL ?_ | with_reducible refine r_slice ?_ | with_reducible refine r_len ?_ | with_reducible refine r_isi ?_ | with_reducible refine r_toInt ?_ | with_reducible refine r_all ?_ | with_reducible refine r_tupOf ?_ | with_reducible refine r_wget ?_ | with_reducible refine r_dictOf ?_ | with_reducible refine r_lenset ?_ | with_reducible refine r_call ?_ | with_reducible refine r_tup ?_ | with_reducible refine r_nil ?_ | with_reducible refine r_cons ?_ | with_reducible refine r_disp ?_ | with_reducible refine r_lst ?_ | with_reducible refine r_cat ?_ | with_reducible refine r_of ?_ | with_reducible refine r_eqL ?_ | with_reducible refine r_pop ?_ | with_reducible refine s_asgR ?_ | with_reducible refine s_setR ?_ | with_reducible refine s_retR ?_ | with_reducible refine s_iteR ?_ | with_reducible refine s_unpR ?_ | with_reducible refine ss_nilR ?_ | ((with_reducible refine r_callv ?_); refine ⟨_, rfl, ?_⟩) | ((with_reducible refine r_setD ?_); refine ⟨_, _, rfl, rfl, rfl, ?_⟩) | ((with_reducible refine r_popD ?_); refine ⟨_, _, rfl, ?_⟩)) | with_reducible refine ex_bool ?_ | with_reducible refine ex_eq ?_ | with_reducible refine ex_lt ?_ | with_reducible refine ex_le ?_ | with_reducible refine ex_gt ?_ | with_reducible refine ex_add ?_ | with_reducible refine ex_sub ?_ | ((with_reducible refine ex_mod ?_ ?_); (· first | assumption | decide)) | ((with_reducible refine ex_mulR ?_ ?_); · decide) | ((with_reducible refine ex_mulL ?_ ?_); · decide) | ((with_reducible refine ex_pow ?_ ?_ ?_); (· decide); (· first | omega | decide)) | ((with_reducible refine ex_fdiv ?_ ?_ ?_); (· first | assumption | decide); (· first | assumption | decide)) | ((with_reducible refine ex_get ?_); refine ⟨_, rfl, ?_⟩; (try dsimp only)) | ((with_reducible refine ex_len ?_ ?_); (· exact Nat.le_of_ble_eq_true rfl)) | ((with_reducible refine ex_plain ?_); refine ⟨_, rfl, Nat.le_of_ble_eq_true rfl, ?_⟩; (try dsimp only)))
    exact ⟨_, rfl, by rw [h]; rfl, List.take_length⟩
  · exact ⟨_, rfl, by rw [h]; rfl, List.take_length⟩
theorem bools_all : ∀ {ds es : List D}, Paired (fun _ e => e = D.p (.bool true)) ds es → ∃ bs, boolsOf es = some bs ∧ bs.all id = true
  | _, _, .nil => ⟨[], rfl, rfl⟩
  | _, _, .cons h r => by
    obtain ⟨bs, e1, e2⟩ := bools_all r
    subst h
    refine ⟨true :: bs, ?_, ?_⟩
    · unfold boolsOf
      rw [e1]
      rfl
    · rw [List.all_cons, e2]
      rfl
abbrev w0 (rows : List PyData) (h : Int) : Sl := [some (.p (way1 rows h)), none, none, none, none, none, none]
abbrev w1 (rows : List PyData) (h : Int) : Sl := [some (.p (way1 rows h)), some (.p (.tuple rows)), some (.p (.tuple [.tuple [.int 0, .int h]])), some (.p (.tuple [])), none, none, none]
abbrev w2 (rows : List PyData) (h : Int) : Sl := [some (.p (way1 rows h)), some (.p (.tuple rows)), some (.p (.tuple [.tuple [.int 0, .int h]])), some (.p (.tuple [])), some (.ref 6), none, none]

theorem way_true (o0 o1 o2 o3 o4 o5 : MO) (rows : List PyData) (hr : ∀ r ∈ rows, RowOk r) (hl : rows.length = 40) : calK fs 10 16 [.p (way1 rows 8)] [o0, o1, o2, o3, o4, o5] = .val (.p (.bool true)) [o0, o1, o2, o3, o4, o5] := by
  refine wp_val ?_
  show wp (callF (calK fs 9) ⟨1, 7, b16⟩ _ _) _ _
  refine call_wp rfl ?_
  unfold b16
  (with_reducible refine ss_consR ?_)
  refine wp_eq (a := (.next, w0 rows 8)) (S := [o0, o1, o2, o3, o4, o5]) (by kernel_rfl) ?_
  dsimp only
  (with_reducible refine ss_consR ?_)
  refine wp_eq (a := (.next, w1 rows 8)) (S := [o0, o1, o2, o3, o4, o5]) (by kernel_rfl) ?_
  dsimp only
  (with_reducible refine ss_consR ?_)
  repeat (first | (first | ((with_reducible refine r_var ?_); refine ⟨_, rfl, ?_⟩) | with_reducible refine r_cst ?_ | with_reducible refine r_bin ?_ | with_reducible refine r_cmp ?_ | with_reducible refine r_chain ?_ | with_reducible refine r_and ?_ | with_reducible refine r_or ?_ | with_reducible refine r_not ?_ | with_reducible refine r_idx ?_ | with_reducible refine r_idxL ?_ | with_reducible refine r_slice ?_ | with_reducible refine r_len ?_ | with_reducible refine r_isi ?_ | with_reducible refine r_toInt ?_ | with_reducible refine r_all ?_ | with_reducible refine r_tupOf ?_ | with_reducible refine r_wget ?_ | with_reducible refine r_dictOf ?_ | with_reducible refine r_lenset ?_ | with_reducible refine r_call ?_ | with_reducible refine r_tup ?_ | with_reducible refine r_nil ?_ | with_reducible refine r_cons ?_ | with_reducible refine r_disp ?_ | with_reducible refine r_lst ?_ | with_reducible refine r_cat ?_ | with_reducible refine r_of ?_ | with_reducible refine r_eqL ?_ | with_reducible refine r_pop ?_ | with_reducible refine s_asgR ?_ | with_reducible refine s_setR ?_ | with_reducible refine s_retR ?_ | with_reducible refine s_iteR ?_ | with_reducible refine s_unpR ?_ | with_reducible refine ss_nilR ?_ | ((with_reducible refine r_callv ?_); refine ⟨_, rfl, ?_⟩) | ((with_reducible refine r_setD ?_); refine ⟨_, _, rfl, rfl, rfl, ?_⟩) | ((with_reducible refine r_popD ?_); refine ⟨_, _, rfl, ?_⟩)) | with_reducible refine ex_bool ?_ | with_reducible refine ex_eq ?_ | with_reducible refine ex_lt ?_ | with_reducible refine ex_le ?_ | with_reducible refine ex_gt ?_ | with_reducible refine ex_add ?_ | with_reducible refine ex_sub ?_ | ((with_reducible refine ex_mod ?_ ?_); (· first | assumption | decide)) | ((with_reducible refine ex_mulR ?_ ?_); · decide) | ((with_reducible refine ex_mulL ?_ ?_); · decide) | ((with_reducible refine ex_pow ?_ ?_ ?_); (· decide); (· first | omega | decide)) | ((with_reducible refine ex_fdiv ?_ ?_ ?_); (· first | assumption | decide); (· first | assumption | decide)) | ((with_reducible refine ex_get ?_); refine ⟨_, rfl, ?_⟩; (try dsimp only)) | ((with_reducible refine ex_len ?_ ?_); (· exact Nat.le_of_ble_eq_true rfl)) | ((with_reducible refine ex_plain ?_); refine ⟨_, rfl, Nat.le_of_ble_eq_true rfl, ?_⟩; (try dsimp only)))
  refine wp_eq (tuple_ok 8 rows 1 40 _) ?_
  rw [hl]
  refine ⟨true, by kernel_rfl, ?_⟩
  repeat (first | (first | ((with_reducible refine r_var ?_); refine ⟨_, rfl, ?_⟩) | with_reducible refine r_cst ?_ | with_reducible refine r_bin ?_ | with_reducible refine r_cmp ?_ | with_reducible refine r_chain ?_ | with_reducible refine r_and ?_ | with_reducible refine r_or ?_ | with_reducible refine r_not ?_ | with_reducible refine r_idx ?_ | with_reducible refine r_idxL ?_ | with_reducible refine r_slice ?_ | with_reducible refine r_len ?_ | with_reducible refine r_isi ?_ | with_reducible refine r_toInt ?_ | with_reducible refine r_all ?_ | with_reducible refine r_tupOf ?_ | with_reducible refine r_wget ?_ | with_reducible refine r_dictOf ?_ | with_reducible refine r_lenset ?_ | with_reducible refine r_call ?_ | with_reducible refine r_tup ?_ | with_reducible refine r_nil ?_ | with_reducible refine r_cons ?_ | with_reducible refine r_disp ?_ | with_reducible refine r_lst ?_ | with_reducible refine r_cat ?_ | with_reducible refine r_of ?_ | with_reducible refine r_eqL ?_ | with_reducible refine r_pop ?_ | with_reducible refine s_asgR ?_ | with_reducible refine s_setR ?_ | with_reducible refine s_retR ?_ | with_reducible refine s_iteR ?_ | with_reducible refine s_unpR ?_ | with_reducible refine ss_nilR ?_ | ((with_reducible refine r_callv ?_); refine ⟨_, rfl, ?_⟩) | ((with_reducible refine r_setD ?_); refine ⟨_, _, rfl, rfl, rfl, ?_⟩) | ((with_reducible refine r_popD ?_); refine ⟨_, _, rfl, ?_⟩)) | with_reducible refine ex_bool ?_ | with_reducible refine ex_eq ?_ | with_reducible refine ex_lt ?_ | with_reducible refine ex_le ?_ | with_reducible refine ex_gt ?_ | with_reducible refine ex_add ?_ | with_reducible refine ex_sub ?_ | ((with_reducible refine ex_mod ?_ ?_); (· first | assumption | decide)) | ((with_reducible refine ex_mulR ?_ ?_); · decide) | ((with_reducible refine ex_mulL ?_ ?_); · decide) | ((with_reducible refine ex_pow ?_ ?_ ?_); (· decide); (· first | omega | decide)) | ((with_reducible refine ex_fdiv ?_ ?_ ?_); (· first | assumption | decide); (· first | assumption | decide)) | ((with_reducible refine ex_get ?_); refine ⟨_, rfl, ?_⟩; (try dsimp only)) | ((with_reducible refine ex_len ?_ ?_); (· exact Nat.le_of_ble_eq_true rfl)) | ((with_reducible refine ex_plain ?_); refine ⟨_, rfl, Nat.le_of_ble_eq_true rfl, ?_⟩; (try dsimp only)))
  refine ifF ?_
  repeat (first | (first | ((with_reducible refine r_var ?_); refine ⟨_, rfl, ?_⟩) | with_reducible refine r_cst ?_ | with_reducible refine r_bin ?_ | with_reducible refine r_cmp ?_ | with_reducible refine r_chain ?_ | with_reducible refine r_and ?_ | with_reducible refine r_or ?_ | with_reducible refine r_not ?_ | with_reducible refine r_idx ?_ | with_reducible refine r_idxL ?_ | with_reducible refine r_slice ?_ | with_reducible refine r_len ?_ | with_reducible refine r_isi ?_ | with_reducible refine r_toInt ?_ | with_reducible refine r_all ?_ | with_reducible refine r_tupOf ?_ | with_reducible refine r_wget ?_ | with_reducible refine r_dictOf ?_ | with_reducible refine r_lenset ?_ | with_reducible refine r_call ?_ | with_reducible refine r_tup ?_ | with_reducible refine r_nil ?_ | with_reducible refine r_cons ?_ | with_reducible refine r_disp ?_ | with_reducible refine r_lst ?_ | with_reducible refine r_cat ?_ | with_reducible refine r_of ?_ | with_reducible refine r_eqL ?_ | with_reducible refine r_pop ?_ | with_reducible refine s_asgR ?_ | with_reducible refine s_setR ?_ | with_reducible refine s_retR ?_ | with_reducible refine s_iteR ?_ | with_reducible refine s_unpR ?_ | with_reducible refine ss_nilR ?_ | ((with_reducible refine r_callv ?_); refine ⟨_, rfl, ?_⟩) | ((with_reducible refine r_setD ?_); refine ⟨_, _, rfl, rfl, rfl, ?_⟩) | ((with_reducible refine r_popD ?_); refine ⟨_, _, rfl, ?_⟩)) | with_reducible refine ex_bool ?_ | with_reducible refine ex_eq ?_ | with_reducible refine ex_lt ?_ | with_reducible refine ex_le ?_ | with_reducible refine ex_gt ?_ | with_reducible refine ex_add ?_ | with_reducible refine ex_sub ?_ | ((with_reducible refine ex_mod ?_ ?_); (· first | assumption | decide)) | ((with_reducible refine ex_mulR ?_ ?_); · decide) | ((with_reducible refine ex_mulL ?_ ?_); · decide) | ((with_reducible refine ex_pow ?_ ?_ ?_); (· decide); (· first | omega | decide)) | ((with_reducible refine ex_fdiv ?_ ?_ ?_); (· first | assumption | decide); (· first | assumption | decide)) | ((with_reducible refine ex_get ?_); refine ⟨_, rfl, ?_⟩; (try dsimp only)) | ((with_reducible refine ex_len ?_ ?_); (· exact Nat.le_of_ble_eq_true rfl)) | ((with_reducible refine ex_plain ?_); refine ⟨_, rfl, Nat.le_of_ble_eq_true rfl, ?_⟩; (try dsimp only)))
  refine ⟨_, rfl, ?_⟩
  rw [hl]
  repeat (first | (first | ((with_reducible refine r_var ?_); refine ⟨_, rfl, ?_⟩) | with_reducible refine r_cst ?_ | with_reducible refine r_bin ?_ | with_reducible refine r_cmp ?_ | with_reducible refine r_chain ?_ | with_reducible refine r_and ?_ | with_reducible refine r_or ?_ | with_reducible refine r_not ?_ | with_reducible refine r_idx ?_ | with_reducible refine r_idxL ?_ | with_reducible refine r_slice ?_ | with_reducible refine r_len ?_ | with_reducible refine r_isi ?_ | with_reducible refine r_toInt ?_ | with_reducible refine r_all ?_ | with_reducible refine r_tupOf ?_ | with_reducible refine r_wget ?_ | with_reducible refine r_dictOf ?_ | with_reducible refine r_lenset ?_ | with_reducible refine r_call ?_ | with_reducible refine r_tup ?_ | with_reducible refine r_nil ?_ | with_reducible refine r_cons ?_ | with_reducible refine r_disp ?_ | with_reducible refine r_lst ?_ | with_reducible refine r_cat ?_ | with_reducible refine r_of ?_ | with_reducible refine r_eqL ?_ | with_reducible refine r_pop ?_ | with_reducible refine s_asgR ?_ | with_reducible refine s_setR ?_ | with_reducible refine s_retR ?_ | with_reducible refine s_iteR ?_ | with_reducible refine s_unpR ?_ | with_reducible refine ss_nilR ?_ | ((with_reducible refine r_callv ?_); refine ⟨_, rfl, ?_⟩) | ((with_reducible refine r_setD ?_); refine ⟨_, _, rfl, rfl, rfl, ?_⟩) | ((with_reducible refine r_popD ?_); refine ⟨_, _, rfl, ?_⟩)) | with_reducible refine ex_bool ?_ | with_reducible refine ex_eq ?_ | with_reducible refine ex_lt ?_ | with_reducible refine ex_le ?_ | with_reducible refine ex_gt ?_ | with_reducible refine ex_add ?_ | with_reducible refine ex_sub ?_ | ((with_reducible refine ex_mod ?_ ?_); (· first | assumption | decide)) | ((with_reducible refine ex_mulR ?_ ?_); · decide) | ((with_reducible refine ex_mulL ?_ ?_); · decide) | ((with_reducible refine ex_pow ?_ ?_ ?_); (· decide); (· first | omega | decide)) | ((with_reducible refine ex_fdiv ?_ ?_ ?_); (· first | assumption | decide); (· first | assumption | decide)) | ((with_reducible refine ex_get ?_); refine ⟨_, rfl, ?_⟩; (try dsimp only)) | ((with_reducible refine ex_len ?_ ?_); (· exact Nat.le_of_ble_eq_true rfl)) | ((with_reducible refine ex_plain ?_); refine ⟨_, rfl, Nat.le_of_ble_eq_true rfl, ?_⟩; (try dsimp only)))
  refine wp_eq (a := .p (.bool true)) (S := [o0, o1, o2, o3, o4, o5]) (by kernel_rfl) ?_
  refine ⟨true, rfl, ?_⟩
  refine ⟨_, rfl, ?_⟩
  refine ifF ?_
  repeat (first | (first | ((with_reducible refine r_var ?_); refine ⟨_, rfl, ?_⟩) | with_reducible refine r_cst ?_ | with_reducible refine r_bin ?_ | with_reducible refine r_cmp ?_ | with_reducible refine r_chain ?_ | with_reducible refine r_and ?_ | with_reducible refine r_or ?_ | with_reducible refine r_not ?_ | with_reducible refine r_idx ?_ | with_reducible refine r_idxL ?_ | with_reducible refine r_slice ?_ | with_reducible refine r_len ?_ | with_reducible refine r_isi ?_ | with_reducible refine r_toInt ?_ | with_reducible refine r_all ?_ | with_reducible refine r_tupOf ?_ | with_reducible refine r_wget ?_ | with_reducible refine r_dictOf ?_ | with_reducible refine r_lenset ?_ | with_reducible refine r_call ?_ | with_reducible refine r_tup ?_ | with_reducible refine r_nil ?_ | with_reducible refine r_cons ?_ | with_reducible refine r_disp ?_ | with_reducible refine r_lst ?_ | with_reducible refine r_cat ?_ | with_reducible refine r_of ?_ | with_reducible refine r_eqL ?_ | with_reducible refine r_pop ?_ | with_reducible refine s_asgR ?_ | with_reducible refine s_setR ?_ | with_reducible refine s_retR ?_ | with_reducible refine s_iteR ?_ | with_reducible refine s_unpR ?_ | with_reducible refine ss_nilR ?_ | ((with_reducible refine r_callv ?_); refine ⟨_, rfl, ?_⟩) | ((with_reducible refine r_setD ?_); refine ⟨_, _, rfl, rfl, rfl, ?_⟩) | ((with_reducible refine r_popD ?_); refine ⟨_, _, rfl, ?_⟩)) | with_reducible refine ex_bool ?_ | with_reducible refine ex_eq ?_ | with_reducible refine ex_lt ?_ | with_reducible refine ex_le ?_ | with_reducible refine ex_gt ?_ | with_reducible refine ex_add ?_ | with_reducible refine ex_sub ?_ | ((with_reducible refine ex_mod ?_ ?_); (· first | assumption | decide)) | ((with_reducible refine ex_mulR ?_ ?_); · decide) | ((with_reducible refine ex_mulL ?_ ?_); · decide) | ((with_reducible refine ex_pow ?_ ?_ ?_); (· decide); (· first | omega | decide)) | ((with_reducible refine ex_fdiv ?_ ?_ ?_); (· first | assumption | decide); (· first | assumption | decide)) | ((with_reducible refine ex_get ?_); refine ⟨_, rfl, ?_⟩; (try dsimp only)) | ((with_reducible refine ex_len ?_ ?_); (· exact Nat.le_of_ble_eq_true rfl)) | ((with_reducible refine ex_plain ?_); refine ⟨_, rfl, Nat.le_of_ble_eq_true rfl, ?_⟩; (try dsimp only)))
  (with_reducible refine ss_consR ?_)
  refine wp_eq (a := (.next, w2 rows 8)) (S := S7 o0 o1 o2 o3 o4 o5 8) (by kernel_rfl) ?_
  dsimp only
  (with_reducible refine ss_consR ?_)
  repeat (first | (first | ((with_reducible refine r_var ?_); refine ⟨_, rfl, ?_⟩) | with_reducible refine r_cst ?_ | with_reducible refine r_bin ?_ | with_reducible refine r_cmp ?_ | with_reducible refine r_chain ?_ | with_reducible refine r_and ?_ | with_reducible refine r_or ?_ | with_reducible refine r_not ?_ | with_reducible refine r_idx ?_ | with_reducible refine r_idxL ?_ | with_reducible refine r_slice ?_ | with_reducible refine r_len ?_ | with_reducible refine r_isi ?_ | with_reducible refine r_toInt ?_ | with_reducible refine r_all ?_ | with_reducible refine r_tupOf ?_ | with_reducible refine r_wget ?_ | with_reducible refine r_dictOf ?_ | with_reducible refine r_lenset ?_ | with_reducible refine r_call ?_ | with_reducible refine r_tup ?_ | with_reducible refine r_nil ?_ | with_reducible refine r_cons ?_ | with_reducible refine r_disp ?_ | with_reducible refine r_lst ?_ | with_reducible refine r_cat ?_ | with_reducible refine r_of ?_ | with_reducible refine r_eqL ?_ | with_reducible refine r_pop ?_ | with_reducible refine s_asgR ?_ | with_reducible refine s_setR ?_ | with_reducible refine s_retR ?_ | with_reducible refine s_iteR ?_ | with_reducible refine s_unpR ?_ | with_reducible refine ss_nilR ?_ | ((with_reducible refine r_callv ?_); refine ⟨_, rfl, ?_⟩) | ((with_reducible refine r_setD ?_); refine ⟨_, _, rfl, rfl, rfl, ?_⟩) | ((with_reducible refine r_popD ?_); refine ⟨_, _, rfl, ?_⟩)) | with_reducible refine ex_bool ?_ | with_reducible refine ex_eq ?_ | with_reducible refine ex_lt ?_ | with_reducible refine ex_le ?_ | with_reducible refine ex_gt ?_ | with_reducible refine ex_add ?_ | with_reducible refine ex_sub ?_ | ((with_reducible refine ex_mod ?_ ?_); (· first | assumption | decide)) | ((with_reducible refine ex_mulR ?_ ?_); · decide) | ((with_reducible refine ex_mulL ?_ ?_); · decide) | ((with_reducible refine ex_pow ?_ ?_ ?_); (· decide); (· first | omega | decide)) | ((with_reducible refine ex_fdiv ?_ ?_ ?_); (· first | assumption | decide); (· first | assumption | decide)) | ((with_reducible refine ex_get ?_); refine ⟨_, rfl, ?_⟩; (try dsimp only)) | ((with_reducible refine ex_len ?_ ?_); (· exact Nat.le_of_ble_eq_true rfl)) | ((with_reducible refine ex_plain ?_); refine ⟨_, rfl, Nat.le_of_ble_eq_true rfl, ?_⟩; (try dsimp only)))
  refine r_lc ?_
  refine wp_eq (a := .fix (rows.map .p)) (S := S7 o0 o1 o2 o3 o4 o5 8) (by kernel_rfl) ?_
  refine ⟨rows.length, by show some (rows.map D.p).length = _; rw [List.length_map], by omega, ?_⟩
  obtain ⟨es, S', e1, e2, e3⟩ := lc_inv (ds := rows.map .p) (body := fun d => M.calm (match tgt [5] true d (wipeD (w2 rows 8) [5]) with
        | some ρ' => evE (calK fs 9) (.call 20 (.cons (.var 5) (.cons (.var 4) .nil))) ρ'
        | none => M.bad)) (fun _ S => S = S7 o0 o1 o2 o3 o4 o5 8) (fun _ e => e = .p (.bool true)) (fun i d S hd hS => by
      subst hS
      obtain ⟨r, hr1, rfl⟩ := map_at hd
      refine ⟨_, _, ?_, rfl, rfl⟩
      refine wp_val (wpC ?_)
      show wp (evE (calK fs 9) (.call 20 (.cons (.var 5) (.cons (.var 4) .nil))) [some (.p (way1 rows 8)), some (.p (.tuple rows)), some (.p (.tuple [.tuple [.int 0, .int 8]])), some (.p (.tuple [])), some (.ref 6), some (.p r), none] _) _ _
      repeat (first | (first | ((with_reducible refine r_var ?_); refine ⟨_, rfl, ?_⟩) | with_reducible refine r_cst ?_ | with_reducible refine r_bin ?_ | with_reducible refine r_cmp ?_ | with_reducible refine r_chain ?_ | with_reducible refine r_and ?_ | with_reducible refine r_or ?_ | with_reducible refine r_not ?_ | with_reducible refine r_idx ?_ | with_reducible refine r_idxL ?_ | with_reducible refine r_slice ?_ | with_reducible refine r_len ?_ | with_reducible refine r_isi ?_ | with_reducible refine r_toInt ?_ | with_reducible refine r_all ?_ | with_reducible refine r_tupOf ?_ | with_reducible refine r_wget ?_ | with_reducible refine r_dictOf ?_ | with_reducible refine r_lenset ?_ | with_reducible refine r_call ?_ | with_reducible refine r_tup ?_ | with_reducible refine r_nil ?_ | with_reducible refine r_cons ?_ | with_reducible refine r_disp ?_ | with_reducible refine r_lst ?_ | with_reducible refine r_cat ?_ | with_reducible refine r_of ?_ | with_reducible refine r_eqL ?_ | with_reducible refine r_pop ?_ | with_reducible refine s_asgR ?_ | with_reducible refine s_setR ?_ | with_reducible refine s_retR ?_ | with_reducible refine s_iteR ?_ | with_reducible refine s_unpR ?_ | with_reducible refine ss_nilR ?_ | ((with_reducible refine r_callv ?_); refine ⟨_, rfl, ?_⟩) | ((with_reducible refine r_setD ?_); refine ⟨_, _, rfl, rfl, rfl, ?_⟩) | ((with_reducible refine r_popD ?_); refine ⟨_, _, rfl, ?_⟩)) | with_reducible refine ex_bool ?_ | with_reducible refine ex_eq ?_ | with_reducible refine ex_lt ?_ | with_reducible refine ex_le ?_ | with_reducible refine ex_gt ?_ | with_reducible refine ex_add ?_ | with_reducible refine ex_sub ?_ | ((with_reducible refine ex_mod ?_ ?_); (· first | assumption | decide)) | ((with_reducible refine ex_mulR ?_ ?_); · decide) | ((with_reducible refine ex_mulL ?_ ?_); · decide) | ((with_reducible refine ex_pow ?_ ?_ ?_); (· decide); (· first | omega | decide)) | ((with_reducible refine ex_fdiv ?_ ?_ ?_); (· first | assumption | decide); (· first | assumption | decide)) | ((with_reducible refine ex_get ?_); refine ⟨_, rfl, ?_⟩; (try dsimp only)) | ((with_reducible refine ex_len ?_ ?_); (· exact Nat.le_of_ble_eq_true rfl)) | ((with_reducible refine ex_plain ?_); refine ⟨_, rfl, Nat.le_of_ble_eq_true rfl, ?_⟩; (try dsimp only)))
      refine wp_eq (isrow o0 o1 o2 o3 o4 o5 8 (hr r (List.mem_of_getElem? hr1))) ?_
      exact ⟨rfl, rfl⟩) rows.length 0 [] _ (by rw [List.length_map]; omega) rfl
  subst e3
  refine wp_eq e1 ?_
  obtain ⟨bs, b1, b2⟩ := bools_all e2
  refine ⟨bs, b1, ?_⟩
  rw [b2]
  repeat (first | (first | ((with_reducible refine r_var ?_); refine ⟨_, rfl, ?_⟩) | with_reducible refine r_cst ?_ | with_reducible refine r_bin ?_ | with_reducible refine r_cmp ?_ | with_reducible refine r_chain ?_ | with_reducible refine r_and ?_ | with_reducible refine r_or ?_ | with_reducible refine r_not ?_ | with_reducible refine r_idx ?_ | with_reducible refine r_idxL ?_ | with_reducible refine r_slice ?_ | with_reducible refine r_len ?_ | with_reducible refine r_isi ?_ | with_reducible refine r_toInt ?_ | with_reducible refine r_all ?_ | with_reducible refine r_tupOf ?_ | with_reducible refine r_wget ?_ | with_reducible refine r_dictOf ?_ | with_reducible refine r_lenset ?_ | with_reducible refine r_call ?_ | with_reducible refine r_tup ?_ | with_reducible refine r_nil ?_ | with_reducible refine r_cons ?_ | with_reducible refine r_disp ?_ | with_reducible refine r_lst ?_ | with_reducible refine r_cat ?_ | with_reducible refine r_of ?_ | with_reducible refine r_eqL ?_ | with_reducible refine r_pop ?_ | with_reducible refine s_asgR ?_ | with_reducible refine s_setR ?_ | with_reducible refine s_retR ?_ | with_reducible refine s_iteR ?_ | with_reducible refine s_unpR ?_ | with_reducible refine ss_nilR ?_ | ((with_reducible refine r_callv ?_); refine ⟨_, rfl, ?_⟩) | ((with_reducible refine r_setD ?_); refine ⟨_, _, rfl, rfl, rfl, ?_⟩) | ((with_reducible refine r_popD ?_); refine ⟨_, _, rfl, ?_⟩)) | with_reducible refine ex_bool ?_ | with_reducible refine ex_eq ?_ | with_reducible refine ex_lt ?_ | with_reducible refine ex_le ?_ | with_reducible refine ex_gt ?_ | with_reducible refine ex_add ?_ | with_reducible refine ex_sub ?_ | ((with_reducible refine ex_mod ?_ ?_); (· first | assumption | decide)) | ((with_reducible refine ex_mulR ?_ ?_); · decide) | ((with_reducible refine ex_mulL ?_ ?_); · decide) | ((with_reducible refine ex_pow ?_ ?_ ?_); (· decide); (· first | omega | decide)) | ((with_reducible refine ex_fdiv ?_ ?_ ?_); (· first | assumption | decide); (· first | assumption | decide)) | ((with_reducible refine ex_get ?_); refine ⟨_, rfl, ?_⟩; (try dsimp only)) | ((with_reducible refine ex_len ?_ ?_); (· exact Nat.le_of_ble_eq_true rfl)) | ((with_reducible refine ex_plain ?_); refine ⟨_, rfl, Nat.le_of_ble_eq_true rfl, ?_⟩; (try dsimp only)))
  refine ifT ?_
  refine wp_eq (a := .p (.bool true)) (S := S7 o0 o1 o2 o3 o4 o5 8) (by kernel_rfl) ?_
  exact ⟨_, rfl, rfl, rfl⟩
theorem way_nine (o0 o1 o2 o3 o4 o5 : MO) (rows : List PyData) (hl : rows.length = 23) : calK fs 10 16 [.p (way1 rows 9)] [o0, o1, o2, o3, o4, o5] = .val (.p (.bool false)) [o0, o1, o2, o3, o4, o5] := by
  refine wp_val ?_
  show wp (callF (calK fs 9) ⟨1, 7, b16⟩ _ _) _ _
  refine call_wp rfl ?_
  unfold b16
  (with_reducible refine ss_consR ?_)
  refine wp_eq (a := (.next, w0 rows 9)) (S := [o0, o1, o2, o3, o4, o5]) (by kernel_rfl) ?_
  dsimp only
  (with_reducible refine ss_consR ?_)
  refine wp_eq (a := (.next, w1 rows 9)) (S := [o0, o1, o2, o3, o4, o5]) (by kernel_rfl) ?_
  dsimp only
  (with_reducible refine ss_consR ?_)
  repeat (first | (first | ((with_reducible refine r_var ?_); refine ⟨_, rfl, ?_⟩) | with_reducible refine r_cst ?_ | with_reducible refine r_bin ?_ | with_reducible refine r_cmp ?_ | with_reducible refine r_chain ?_ | with_reducible refine r_and ?_ | with_reducible refine r_or ?_ | with_reducible refine r_not ?_ | with_reducible refine r_idx ?_ | with_reducible refine r_idxL ?_ | with_reducible refine r_slice ?_ | with_reducible refine r_len ?_ | with_reducible refine r_isi ?_ | with_reducible refine r_toInt ?_ | with_reducible refine r_all ?_ | with_reducible refine r_tupOf ?_ | with_reducible refine r_wget ?_ | with_reducible refine r_dictOf ?_ | with_reducible refine r_lenset ?_ | with_reducible refine r_call ?_ | with_reducible refine r_tup ?_ | with_reducible refine r_nil ?_ | with_reducible refine r_cons ?_ | with_reducible refine r_disp ?_ | with_reducible refine r_lst ?_ | with_reducible refine r_cat ?_ | with_reducible refine r_of ?_ | with_reducible refine r_eqL ?_ | with_reducible refine r_pop ?_ | with_reducible refine s_asgR ?_ | with_reducible refine s_setR ?_ | with_reducible refine s_retR ?_ | with_reducible refine s_iteR ?_ | with_reducible refine s_unpR ?_ | with_reducible refine ss_nilR ?_ | ((with_reducible refine r_callv ?_); refine ⟨_, rfl, ?_⟩) | ((with_reducible refine r_setD ?_); refine ⟨_, _, rfl, rfl, rfl, ?_⟩) | ((with_reducible refine r_popD ?_); refine ⟨_, _, rfl, ?_⟩)) | with_reducible refine ex_bool ?_ | with_reducible refine ex_eq ?_ | with_reducible refine ex_lt ?_ | with_reducible refine ex_le ?_ | with_reducible refine ex_gt ?_ | with_reducible refine ex_add ?_ | with_reducible refine ex_sub ?_ | ((with_reducible refine ex_mod ?_ ?_); (· first | assumption | decide)) | ((with_reducible refine ex_mulR ?_ ?_); · decide) | ((with_reducible refine ex_mulL ?_ ?_); · decide) | ((with_reducible refine ex_pow ?_ ?_ ?_); (· decide); (· first | omega | decide)) | ((with_reducible refine ex_fdiv ?_ ?_ ?_); (· first | assumption | decide); (· first | assumption | decide)) | ((with_reducible refine ex_get ?_); refine ⟨_, rfl, ?_⟩; (try dsimp only)) | ((with_reducible refine ex_len ?_ ?_); (· exact Nat.le_of_ble_eq_true rfl)) | ((with_reducible refine ex_plain ?_); refine ⟨_, rfl, Nat.le_of_ble_eq_true rfl, ?_⟩; (try dsimp only)))
  refine wp_eq (tuple_ok 8 rows 1 40 _) ?_
  rw [hl]
  refine ⟨true, by kernel_rfl, ?_⟩
  repeat (first | (first | ((with_reducible refine r_var ?_); refine ⟨_, rfl, ?_⟩) | with_reducible refine r_cst ?_ | with_reducible refine r_bin ?_ | with_reducible refine r_cmp ?_ | with_reducible refine r_chain ?_ | with_reducible refine r_and ?_ | with_reducible refine r_or ?_ | with_reducible refine r_not ?_ | with_reducible refine r_idx ?_ | with_reducible refine r_idxL ?_ | with_reducible refine r_slice ?_ | with_reducible refine r_len ?_ | with_reducible refine r_isi ?_ | with_reducible refine r_toInt ?_ | with_reducible refine r_all ?_ | with_reducible refine r_tupOf ?_ | with_reducible refine r_wget ?_ | with_reducible refine r_dictOf ?_ | with_reducible refine r_lenset ?_ | with_reducible refine r_call ?_ | with_reducible refine r_tup ?_ | with_reducible refine r_nil ?_ | with_reducible refine r_cons ?_ | with_reducible refine r_disp ?_ | with_reducible refine r_lst ?_ | with_reducible refine r_cat ?_ | with_reducible refine r_of ?_ | with_reducible refine r_eqL ?_ | with_reducible refine r_pop ?_ | with_reducible refine s_asgR ?_ | with_reducible refine s_setR ?_ | with_reducible refine s_retR ?_ | with_reducible refine s_iteR ?_ | with_reducible refine s_unpR ?_ | with_reducible refine ss_nilR ?_ | ((with_reducible refine r_callv ?_); refine ⟨_, rfl, ?_⟩) | ((with_reducible refine r_setD ?_); refine ⟨_, _, rfl, rfl, rfl, ?_⟩) | ((with_reducible refine r_popD ?_); refine ⟨_, _, rfl, ?_⟩)) | with_reducible refine ex_bool ?_ | with_reducible refine ex_eq ?_ | with_reducible refine ex_lt ?_ | with_reducible refine ex_le ?_ | with_reducible refine ex_gt ?_ | with_reducible refine ex_add ?_ | with_reducible refine ex_sub ?_ | ((with_reducible refine ex_mod ?_ ?_); (· first | assumption | decide)) | ((with_reducible refine ex_mulR ?_ ?_); · decide) | ((with_reducible refine ex_mulL ?_ ?_); · decide) | ((with_reducible refine ex_pow ?_ ?_ ?_); (· decide); (· first | omega | decide)) | ((with_reducible refine ex_fdiv ?_ ?_ ?_); (· first | assumption | decide); (· first | assumption | decide)) | ((with_reducible refine ex_get ?_); refine ⟨_, rfl, ?_⟩; (try dsimp only)) | ((with_reducible refine ex_len ?_ ?_); (· exact Nat.le_of_ble_eq_true rfl)) | ((with_reducible refine ex_plain ?_); refine ⟨_, rfl, Nat.le_of_ble_eq_true rfl, ?_⟩; (try dsimp only)))
  refine ifF ?_
  repeat (first | (first | ((with_reducible refine r_var ?_); refine ⟨_, rfl, ?_⟩) | with_reducible refine r_cst ?_ | with_reducible refine r_bin ?_ | with_reducible refine r_cmp ?_ | with_reducible refine r_chain ?_ | with_reducible refine r_and ?_ | with_reducible refine r_or ?_ | with_reducible refine r_not ?_ | with_reducible refine r_idx ?_ | with_reducible refine r_idxL ?_ | with_reducible refine r_slice ?_ | with_reducible refine r_len ?_ | with_reducible refine r_isi ?_ | with_reducible refine r_toInt ?_ | with_reducible refine r_all ?_ | with_reducible refine r_tupOf ?_ | with_reducible refine r_wget ?_ | with_reducible refine r_dictOf ?_ | with_reducible refine r_lenset ?_ | with_reducible refine r_call ?_ | with_reducible refine r_tup ?_ | with_reducible refine r_nil ?_ | with_reducible refine r_cons ?_ | with_reducible refine r_disp ?_ | with_reducible refine r_lst ?_ | with_reducible refine r_cat ?_ | with_reducible refine r_of ?_ | with_reducible refine r_eqL ?_ | with_reducible refine r_pop ?_ | with_reducible refine s_asgR ?_ | with_reducible refine s_setR ?_ | with_reducible refine s_retR ?_ | with_reducible refine s_iteR ?_ | with_reducible refine s_unpR ?_ | with_reducible refine ss_nilR ?_ | ((with_reducible refine r_callv ?_); refine ⟨_, rfl, ?_⟩) | ((with_reducible refine r_setD ?_); refine ⟨_, _, rfl, rfl, rfl, ?_⟩) | ((with_reducible refine r_popD ?_); refine ⟨_, _, rfl, ?_⟩)) | with_reducible refine ex_bool ?_ | with_reducible refine ex_eq ?_ | with_reducible refine ex_lt ?_ | with_reducible refine ex_le ?_ | with_reducible refine ex_gt ?_ | with_reducible refine ex_add ?_ | with_reducible refine ex_sub ?_ | ((with_reducible refine ex_mod ?_ ?_); (· first | assumption | decide)) | ((with_reducible refine ex_mulR ?_ ?_); · decide) | ((with_reducible refine ex_mulL ?_ ?_); · decide) | ((with_reducible refine ex_pow ?_ ?_ ?_); (· decide); (· first | omega | decide)) | ((with_reducible refine ex_fdiv ?_ ?_ ?_); (· first | assumption | decide); (· first | assumption | decide)) | ((with_reducible refine ex_get ?_); refine ⟨_, rfl, ?_⟩; (try dsimp only)) | ((with_reducible refine ex_len ?_ ?_); (· exact Nat.le_of_ble_eq_true rfl)) | ((with_reducible refine ex_plain ?_); refine ⟨_, rfl, Nat.le_of_ble_eq_true rfl, ?_⟩; (try dsimp only)))
  refine ⟨_, rfl, ?_⟩
  rw [hl]
  repeat (first | (first | ((with_reducible refine r_var ?_); refine ⟨_, rfl, ?_⟩) | with_reducible refine r_cst ?_ | with_reducible refine r_bin ?_ | with_reducible refine r_cmp ?_ | with_reducible refine r_chain ?_ | with_reducible refine r_and ?_ | with_reducible refine r_or ?_ | with_reducible refine r_not ?_ | with_reducible refine r_idx ?_ | with_reducible refine r_idxL ?_ | with_reducible refine r_slice ?_ | with_reducible refine r_len ?_ | with_reducible refine r_isi ?_ | with_reducible refine r_toInt ?_ | with_reducible refine r_all ?_ | with_reducible refine r_tupOf ?_ | with_reducible refine r_wget ?_ | with_reducible refine r_dictOf ?_ | with_reducible refine r_lenset ?_ | with_reducible refine r_call ?_ | with_reducible refine r_tup ?_ | with_reducible refine r_nil ?_ | with_reducible refine r_cons ?_ | with_reducible refine r_disp ?_ | with_reducible refine r_lst ?_ | with_reducible refine r_cat ?_ | with_reducible refine r_of ?_ | with_reducible refine r_eqL ?_ | with_reducible refine r_pop ?_ | with_reducible refine s_asgR ?_ | with_reducible refine s_setR ?_ | with_reducible refine s_retR ?_ | with_reducible refine s_iteR ?_ | with_reducible refine s_unpR ?_ | with_reducible refine ss_nilR ?_ | ((with_reducible refine r_callv ?_); refine ⟨_, rfl, ?_⟩) | ((with_reducible refine r_setD ?_); refine ⟨_, _, rfl, rfl, rfl, ?_⟩) | ((with_reducible refine r_popD ?_); refine ⟨_, _, rfl, ?_⟩)) | with_reducible refine ex_bool ?_ | with_reducible refine ex_eq ?_ | with_reducible refine ex_lt ?_ | with_reducible refine ex_le ?_ | with_reducible refine ex_gt ?_ | with_reducible refine ex_add ?_ | with_reducible refine ex_sub ?_ | ((with_reducible refine ex_mod ?_ ?_); (· first | assumption | decide)) | ((with_reducible refine ex_mulR ?_ ?_); · decide) | ((with_reducible refine ex_mulL ?_ ?_); · decide) | ((with_reducible refine ex_pow ?_ ?_ ?_); (· decide); (· first | omega | decide)) | ((with_reducible refine ex_fdiv ?_ ?_ ?_); (· first | assumption | decide); (· first | assumption | decide)) | ((with_reducible refine ex_get ?_); refine ⟨_, rfl, ?_⟩; (try dsimp only)) | ((with_reducible refine ex_len ?_ ?_); (· exact Nat.le_of_ble_eq_true rfl)) | ((with_reducible refine ex_plain ?_); refine ⟨_, rfl, Nat.le_of_ble_eq_true rfl, ?_⟩; (try dsimp only)))
  refine wp_eq (a := .p (.bool false)) (S := [o0, o1, o2, o3, o4, o5]) (by kernel_rfl) ?_
  refine ⟨false, rfl, ?_⟩
  refine ⟨_, rfl, ?_⟩
  refine ifT ?_
  (with_reducible refine ss_consR ?_); repeat (first | (first | ((with_reducible refine r_var ?_); refine ⟨_, rfl, ?_⟩) | with_reducible refine r_cst ?_ | with_reducible refine r_bin ?_ | with_reducible refine r_cmp ?_ | with_reducible refine r_chain ?_ | with_reducible refine r_and ?_ | with_reducible refine r_or ?_ | with_reducible refine r_not ?_ | with_reducible refine r_idx ?_ | with_reducible refine r_idxL ?_ | with_reducible refine r_slice ?_ | with_reducible refine r_len ?_ | with_reducible refine r_isi ?_ | with_reducible refine r_toInt ?_ | with_reducible refine r_all ?_ | with_reducible refine r_tupOf ?_ | with_reducible refine r_wget ?_ | with_reducible refine r_dictOf ?_ | with_reducible refine r_lenset ?_ | with_reducible refine r_call ?_ | with_reducible refine r_tup ?_ | with_reducible refine r_nil ?_ | with_reducible refine r_cons ?_ | with_reducible refine r_disp ?_ | with_reducible refine r_lst ?_ | with_reducible refine r_cat ?_ | with_reducible refine r_of ?_ | with_reducible refine r_eqL ?_ | with_reducible refine r_pop ?_ | with_reducible refine s_asgR ?_ | with_reducible refine s_setR ?_ | with_reducible refine s_retR ?_ | with_reducible refine s_iteR ?_ | with_reducible refine s_unpR ?_ | with_reducible refine ss_nilR ?_ | ((with_reducible refine r_callv ?_); refine ⟨_, rfl, ?_⟩) | ((with_reducible refine r_setD ?_); refine ⟨_, _, rfl, rfl, rfl, ?_⟩) | ((with_reducible refine r_popD ?_); refine ⟨_, _, rfl, ?_⟩)) | with_reducible refine ex_bool ?_ | with_reducible refine ex_eq ?_ | with_reducible refine ex_lt ?_ | with_reducible refine ex_le ?_ | with_reducible refine ex_gt ?_ | with_reducible refine ex_add ?_ | with_reducible refine ex_sub ?_ | ((with_reducible refine ex_mod ?_ ?_); (· first | assumption | decide)) | ((with_reducible refine ex_mulR ?_ ?_); · decide) | ((with_reducible refine ex_mulL ?_ ?_); · decide) | ((with_reducible refine ex_pow ?_ ?_ ?_); (· decide); (· first | omega | decide)) | ((with_reducible refine ex_fdiv ?_ ?_ ?_); (· first | assumption | decide); (· first | assumption | decide)) | ((with_reducible refine ex_get ?_); refine ⟨_, rfl, ?_⟩; (try dsimp only)) | ((with_reducible refine ex_len ?_ ?_); (· exact Nat.le_of_ble_eq_true rfl)) | ((with_reducible refine ex_plain ?_); refine ⟨_, rfl, Nat.le_of_ble_eq_true rfl, ?_⟩; (try dsimp only)))
  exact ⟨_, rfl, rfl, rfl⟩
theorem way_more (o0 o1 o2 o3 o4 o5 o6 o7 o8 : MO) (rows : List PyData) (h : Int) (hl : rows.length = 41) : calK fs 10 16 [.p (way1 rows h)] [o0, o1, o2, o3, o4, o5, o6, o7, o8] = .val (.p (.bool false)) [o0, o1, o2, o3, o4, o5, o6, o7, o8] := by
  refine wp_val ?_
  show wp (callF (calK fs 9) ⟨1, 7, b16⟩ _ _) _ _
  refine call_wp rfl ?_
  unfold b16
  (with_reducible refine ss_consR ?_)
  refine wp_eq (a := (.next, w0 rows h)) (S := [o0, o1, o2, o3, o4, o5, o6, o7, o8]) (by kernel_rfl) ?_
  dsimp only
  (with_reducible refine ss_consR ?_)
  refine wp_eq (a := (.next, w1 rows h)) (S := [o0, o1, o2, o3, o4, o5, o6, o7, o8]) (by kernel_rfl) ?_
  dsimp only
  (with_reducible refine ss_consR ?_)
  repeat (first | (first | ((with_reducible refine r_var ?_); refine ⟨_, rfl, ?_⟩) | with_reducible refine r_cst ?_ | with_reducible refine r_bin ?_ | with_reducible refine r_cmp ?_ | with_reducible refine r_chain ?_ | with_reducible refine r_and ?_ | with_reducible refine r_or ?_ | with_reducible refine r_not ?_ | with_reducible refine r_idx ?_ | with_reducible refine r_idxL ?_ | with_reducible refine r_slice ?_ | with_reducible refine r_len ?_ | with_reducible refine r_isi ?_ | with_reducible refine r_toInt ?_ | with_reducible refine r_all ?_ | with_reducible refine r_tupOf ?_ | with_reducible refine r_wget ?_ | with_reducible refine r_dictOf ?_ | with_reducible refine r_lenset ?_ | with_reducible refine r_call ?_ | with_reducible refine r_tup ?_ | with_reducible refine r_nil ?_ | with_reducible refine r_cons ?_ | with_reducible refine r_disp ?_ | with_reducible refine r_lst ?_ | with_reducible refine r_cat ?_ | with_reducible refine r_of ?_ | with_reducible refine r_eqL ?_ | with_reducible refine r_pop ?_ | with_reducible refine s_asgR ?_ | with_reducible refine s_setR ?_ | with_reducible refine s_retR ?_ | with_reducible refine s_iteR ?_ | with_reducible refine s_unpR ?_ | with_reducible refine ss_nilR ?_ | ((with_reducible refine r_callv ?_); refine ⟨_, rfl, ?_⟩) | ((with_reducible refine r_setD ?_); refine ⟨_, _, rfl, rfl, rfl, ?_⟩) | ((with_reducible refine r_popD ?_); refine ⟨_, _, rfl, ?_⟩)) | with_reducible refine ex_bool ?_ | with_reducible refine ex_eq ?_ | with_reducible refine ex_lt ?_ | with_reducible refine ex_le ?_ | with_reducible refine ex_gt ?_ | with_reducible refine ex_add ?_ | with_reducible refine ex_sub ?_ | ((with_reducible refine ex_mod ?_ ?_); (· first | assumption | decide)) | ((with_reducible refine ex_mulR ?_ ?_); · decide) | ((with_reducible refine ex_mulL ?_ ?_); · decide) | ((with_reducible refine ex_pow ?_ ?_ ?_); (· decide); (· first | omega | decide)) | ((with_reducible refine ex_fdiv ?_ ?_ ?_); (· first | assumption | decide); (· first | assumption | decide)) | ((with_reducible refine ex_get ?_); refine ⟨_, rfl, ?_⟩; (try dsimp only)) | ((with_reducible refine ex_len ?_ ?_); (· exact Nat.le_of_ble_eq_true rfl)) | ((with_reducible refine ex_plain ?_); refine ⟨_, rfl, Nat.le_of_ble_eq_true rfl, ?_⟩; (try dsimp only)))
  refine wp_eq (tuple_ok 8 rows 1 40 _) ?_
  rw [hl]
  refine ⟨false, by kernel_rfl, ?_⟩
  repeat (first | (first | ((with_reducible refine r_var ?_); refine ⟨_, rfl, ?_⟩) | with_reducible refine r_cst ?_ | with_reducible refine r_bin ?_ | with_reducible refine r_cmp ?_ | with_reducible refine r_chain ?_ | with_reducible refine r_and ?_ | with_reducible refine r_or ?_ | with_reducible refine r_not ?_ | with_reducible refine r_idx ?_ | with_reducible refine r_idxL ?_ | with_reducible refine r_slice ?_ | with_reducible refine r_len ?_ | with_reducible refine r_isi ?_ | with_reducible refine r_toInt ?_ | with_reducible refine r_all ?_ | with_reducible refine r_tupOf ?_ | with_reducible refine r_wget ?_ | with_reducible refine r_dictOf ?_ | with_reducible refine r_lenset ?_ | with_reducible refine r_call ?_ | with_reducible refine r_tup ?_ | with_reducible refine r_nil ?_ | with_reducible refine r_cons ?_ | with_reducible refine r_disp ?_ | with_reducible refine r_lst ?_ | with_reducible refine r_cat ?_ | with_reducible refine r_of ?_ | with_reducible refine r_eqL ?_ | with_reducible refine r_pop ?_ | with_reducible refine s_asgR ?_ | with_reducible refine s_setR ?_ | with_reducible refine s_retR ?_ | with_reducible refine s_iteR ?_ | with_reducible refine s_unpR ?_ | with_reducible refine ss_nilR ?_ | ((with_reducible refine r_callv ?_); refine ⟨_, rfl, ?_⟩) | ((with_reducible refine r_setD ?_); refine ⟨_, _, rfl, rfl, rfl, ?_⟩) | ((with_reducible refine r_popD ?_); refine ⟨_, _, rfl, ?_⟩)) | with_reducible refine ex_bool ?_ | with_reducible refine ex_eq ?_ | with_reducible refine ex_lt ?_ | with_reducible refine ex_le ?_ | with_reducible refine ex_gt ?_ | with_reducible refine ex_add ?_ | with_reducible refine ex_sub ?_ | ((with_reducible refine ex_mod ?_ ?_); (· first | assumption | decide)) | ((with_reducible refine ex_mulR ?_ ?_); · decide) | ((with_reducible refine ex_mulL ?_ ?_); · decide) | ((with_reducible refine ex_pow ?_ ?_ ?_); (· decide); (· first | omega | decide)) | ((with_reducible refine ex_fdiv ?_ ?_ ?_); (· first | assumption | decide); (· first | assumption | decide)) | ((with_reducible refine ex_get ?_); refine ⟨_, rfl, ?_⟩; (try dsimp only)) | ((with_reducible refine ex_len ?_ ?_); (· exact Nat.le_of_ble_eq_true rfl)) | ((with_reducible refine ex_plain ?_); refine ⟨_, rfl, Nat.le_of_ble_eq_true rfl, ?_⟩; (try dsimp only)))
  refine ifT ?_
  repeat (first | (first | ((with_reducible refine r_var ?_); refine ⟨_, rfl, ?_⟩) | with_reducible refine r_cst ?_ | with_reducible refine r_bin ?_ | with_reducible refine r_cmp ?_ | with_reducible refine r_chain ?_ | with_reducible refine r_and ?_ | with_reducible refine r_or ?_ | with_reducible refine r_not ?_ | with_reducible refine r_idx ?_ | with_reducible refine r_idxL ?_ | with_reducible refine r_slice ?_ | with_reducible refine r_len ?_ | with_reducible refine r_isi ?_ | with_reducible refine r_toInt ?_ | with_reducible refine r_all ?_ | with_reducible refine r_tupOf ?_ | with_reducible refine r_wget ?_ | with_reducible refine r_dictOf ?_ | with_reducible refine r_lenset ?_ | with_reducible refine r_call ?_ | with_reducible refine r_tup ?_ | with_reducible refine r_nil ?_ | with_reducible refine r_cons ?_ | with_reducible refine r_disp ?_ | with_reducible refine r_lst ?_ | with_reducible refine r_cat ?_ | with_reducible refine r_of ?_ | with_reducible refine r_eqL ?_ | with_reducible refine r_pop ?_ | with_reducible refine s_asgR ?_ | with_reducible refine s_setR ?_ | with_reducible refine s_retR ?_ | with_reducible refine s_iteR ?_ | with_reducible refine s_unpR ?_ | with_reducible refine ss_nilR ?_ | ((with_reducible refine r_callv ?_); refine ⟨_, rfl, ?_⟩) | ((with_reducible refine r_setD ?_); refine ⟨_, _, rfl, rfl, rfl, ?_⟩) | ((with_reducible refine r_popD ?_); refine ⟨_, _, rfl, ?_⟩)) | with_reducible refine ex_bool ?_ | with_reducible refine ex_eq ?_ | with_reducible refine ex_lt ?_ | with_reducible refine ex_le ?_ | with_reducible refine ex_gt ?_ | with_reducible refine ex_add ?_ | with_reducible refine ex_sub ?_ | ((with_reducible refine ex_mod ?_ ?_); (· first | assumption | decide)) | ((with_reducible refine ex_mulR ?_ ?_); · decide) | ((with_reducible refine ex_mulL ?_ ?_); · decide) | ((with_reducible refine ex_pow ?_ ?_ ?_); (· decide); (· first | omega | decide)) | ((with_reducible refine ex_fdiv ?_ ?_ ?_); (· first | assumption | decide); (· first | assumption | decide)) | ((with_reducible refine ex_get ?_); refine ⟨_, rfl, ?_⟩; (try dsimp only)) | ((with_reducible refine ex_len ?_ ?_); (· exact Nat.le_of_ble_eq_true rfl)) | ((with_reducible refine ex_plain ?_); refine ⟨_, rfl, Nat.le_of_ble_eq_true rfl, ?_⟩; (try dsimp only)))
  refine ifT ?_
  (with_reducible refine ss_consR ?_); repeat (first | (first | ((with_reducible refine r_var ?_); refine ⟨_, rfl, ?_⟩) | with_reducible refine r_cst ?_ | with_reducible refine r_bin ?_ | with_reducible refine r_cmp ?_ | with_reducible refine r_chain ?_ | with_reducible refine r_and ?_ | with_reducible refine r_or ?_ | with_reducible refine r_not ?_ | with_reducible refine r_idx ?_ | with_reducible refine r_idxL ?_ | with_reducible refine r_slice ?_ | with_reducible refine r_len ?_ | with_reducible refine r_isi ?_ | with_reducible refine r_toInt ?_ | with_reducible refine r_all ?_ | with_reducible refine r_tupOf ?_ | with_reducible refine r_wget ?_ | with_reducible refine r_dictOf ?_ | with_reducible refine r_lenset ?_ | with_reducible refine r_call ?_ | with_reducible refine r_tup ?_ | with_reducible refine r_nil ?_ | with_reducible refine r_cons ?_ | with_reducible refine r_disp ?_ | with_reducible refine r_lst ?_ | with_reducible refine r_cat ?_ | with_reducible refine r_of ?_ | with_reducible refine r_eqL ?_ | with_reducible refine r_pop ?_ | with_reducible refine s_asgR ?_ | with_reducible refine s_setR ?_ | with_reducible refine s_retR ?_ | with_reducible refine s_iteR ?_ | with_reducible refine s_unpR ?_ | with_reducible refine ss_nilR ?_ | ((with_reducible refine r_callv ?_); refine ⟨_, rfl, ?_⟩) | ((with_reducible refine r_setD ?_); refine ⟨_, _, rfl, rfl, rfl, ?_⟩) | ((with_reducible refine r_popD ?_); refine ⟨_, _, rfl, ?_⟩)) | with_reducible refine ex_bool ?_ | with_reducible refine ex_eq ?_ | with_reducible refine ex_lt ?_ | with_reducible refine ex_le ?_ | with_reducible refine ex_gt ?_ | with_reducible refine ex_add ?_ | with_reducible refine ex_sub ?_ | ((with_reducible refine ex_mod ?_ ?_); (· first | assumption | decide)) | ((with_reducible refine ex_mulR ?_ ?_); · decide) | ((with_reducible refine ex_mulL ?_ ?_); · decide) | ((with_reducible refine ex_pow ?_ ?_ ?_); (· decide); (· first | omega | decide)) | ((with_reducible refine ex_fdiv ?_ ?_ ?_); (· first | assumption | decide); (· first | assumption | decide)) | ((with_reducible refine ex_get ?_); refine ⟨_, rfl, ?_⟩; (try dsimp only)) | ((with_reducible refine ex_len ?_ ?_); (· exact Nat.le_of_ble_eq_true rfl)) | ((with_reducible refine ex_plain ?_); refine ⟨_, rfl, Nat.le_of_ble_eq_true rfl, ?_⟩; (try dsimp only)))
  exact ⟨_, rfl, rfl, rfl⟩

theorem all6 (o0 o1 o2 o3 o4 o5 : MO) (rows : List PyData) (h : Int) (b : Bool) (hw : calK fs 10 16 [.p (way1 rows h)] [o0, o1, o2, o3, o4, o5] = .val (.p (.bool b)) [o0, o1, o2, o3, o4, o5]) : calK fs 11 11 [.p (.tuple [way1 rows h]), .p (.int 0), .p (.int 8), .fn 16] [o0, o1, o2, o3, o4, o5] = .val (.p (.bool b)) [o0, o1, o2, o3, o4, o5] := by
  refine wp_val ?_
  show wp (callF (calK fs 10) ⟨4, 5, b11⟩ _ _) _ _
  refine call_wp rfl ?_
  unfold b11
  (with_reducible refine ss_consR ?_); repeat (first | (first | ((with_reducible refine r_var ?_); refine ⟨_, rfl, ?_⟩) | with_reducible refine r_cst ?_ | with_reducible refine r_bin ?_ | with_reducible refine r_cmp ?_ | with_reducible refine r_chain ?_ | with_reducible refine r_and ?_ | with_reducible refine r_or ?_ | with_reducible refine r_not ?_ | with_reducible refine r_idx ?_ | with_reducible refine r_idxL ?_ | with_reducible refine r_slice ?_ | with_reducible refine r_len ?_ | with_reducible refine r_isi ?_ | with_reducible refine r_toInt ?_ | with_reducible refine r_all ?_ | with_reducible refine r_tupOf ?_ | with_reducible refine r_wget ?_ | with_reducible refine r_dictOf ?_ | with_reducible refine r_lenset ?_ | with_reducible refine r_call ?_ | with_reducible refine r_tup ?_ | with_reducible refine r_nil ?_ | with_reducible refine r_cons ?_ | with_reducible refine r_disp ?_ | with_reducible refine r_lst ?_ | with_reducible refine r_cat ?_ | with_reducible refine r_of ?_ | with_reducible refine r_eqL ?_ | with_reducible refine r_pop ?_ | with_reducible refine s_asgR ?_ | with_reducible refine s_setR ?_ | with_reducible refine s_retR ?_ | with_reducible refine s_iteR ?_ | with_reducible refine s_unpR ?_ | with_reducible refine ss_nilR ?_ | ((with_reducible refine r_callv ?_); refine ⟨_, rfl, ?_⟩) | ((with_reducible refine r_setD ?_); refine ⟨_, _, rfl, rfl, rfl, ?_⟩) | ((with_reducible refine r_popD ?_); refine ⟨_, _, rfl, ?_⟩)) | with_reducible refine ex_bool ?_ | with_reducible refine ex_eq ?_ | with_reducible refine ex_lt ?_ | with_reducible refine ex_le ?_ | with_reducible refine ex_gt ?_ | with_reducible refine ex_add ?_ | with_reducible refine ex_sub ?_ | ((with_reducible refine ex_mod ?_ ?_); (· first | assumption | decide)) | ((with_reducible refine ex_mulR ?_ ?_); · decide) | ((with_reducible refine ex_mulL ?_ ?_); · decide) | ((with_reducible refine ex_pow ?_ ?_ ?_); (· decide); (· first | omega | decide)) | ((with_reducible refine ex_fdiv ?_ ?_ ?_); (· first | assumption | decide); (· first | assumption | decide)) | ((with_reducible refine ex_get ?_); refine ⟨_, rfl, ?_⟩; (try dsimp only)) | ((with_reducible refine ex_len ?_ ?_); (· exact Nat.le_of_ble_eq_true rfl)) | ((with_reducible refine ex_plain ?_); refine ⟨_, rfl, Nat.le_of_ble_eq_true rfl, ?_⟩; (try dsimp only)))
  refine wp_eq (tuple_ok 9 _ 0 8 _) ?_
  repeat (first | (first | ((with_reducible refine r_var ?_); refine ⟨_, rfl, ?_⟩) | with_reducible refine r_cst ?_ | with_reducible refine r_bin ?_ | with_reducible refine r_cmp ?_ | with_reducible refine r_chain ?_ | with_reducible refine r_and ?_ | with_reducible refine r_or ?_ | with_reducible refine r_not ?_ | with_reducible refine r_idx ?_ | with_reducible refine r_idxL ?_ | with_reducible refine r_slice ?_ | with_reducible refine r_len ?_ | with_reducible refine r_isi ?_ | with_reducible refine r_toInt ?_ | with_reducible refine r_all ?_ | with_reducible refine r_tupOf ?_ | with_reducible refine r_wget ?_ | with_reducible refine r_dictOf ?_ | with_reducible refine r_lenset ?_ | with_reducible refine r_call ?_ | with_reducible refine r_tup ?_ | with_reducible refine r_nil ?_ | with_reducible refine r_cons ?_ | with_reducible refine r_disp ?_ | with_reducible refine r_lst ?_ | with_reducible refine r_cat ?_ | with_reducible refine r_of ?_ | with_reducible refine r_eqL ?_ | with_reducible refine r_pop ?_ | with_reducible refine s_asgR ?_ | with_reducible refine s_setR ?_ | with_reducible refine s_retR ?_ | with_reducible refine s_iteR ?_ | with_reducible refine s_unpR ?_ | with_reducible refine ss_nilR ?_ | ((with_reducible refine r_callv ?_); refine ⟨_, rfl, ?_⟩) | ((with_reducible refine r_setD ?_); refine ⟨_, _, rfl, rfl, rfl, ?_⟩) | ((with_reducible refine r_popD ?_); refine ⟨_, _, rfl, ?_⟩)) | with_reducible refine ex_bool ?_ | with_reducible refine ex_eq ?_ | with_reducible refine ex_lt ?_ | with_reducible refine ex_le ?_ | with_reducible refine ex_gt ?_ | with_reducible refine ex_add ?_ | with_reducible refine ex_sub ?_ | ((with_reducible refine ex_mod ?_ ?_); (· first | assumption | decide)) | ((with_reducible refine ex_mulR ?_ ?_); · decide) | ((with_reducible refine ex_mulL ?_ ?_); · decide) | ((with_reducible refine ex_pow ?_ ?_ ?_); (· decide); (· first | omega | decide)) | ((with_reducible refine ex_fdiv ?_ ?_ ?_); (· first | assumption | decide); (· first | assumption | decide)) | ((with_reducible refine ex_get ?_); refine ⟨_, rfl, ?_⟩; (try dsimp only)) | ((with_reducible refine ex_len ?_ ?_); (· exact Nat.le_of_ble_eq_true rfl)) | ((with_reducible refine ex_plain ?_); refine ⟨_, rfl, Nat.le_of_ble_eq_true rfl, ?_⟩; (try dsimp only)))
  refine ifB (fun _ => ?_) (fun q => by
    have q : (decide ((0 : Int) ≤ ((1 : Nat) : Int)) && decide (((1 : Nat) : Int) ≤ 8)) = false := q
    exact absurd q (by decide))
  repeat (first | (first | ((with_reducible refine r_var ?_); refine ⟨_, rfl, ?_⟩) | with_reducible refine r_cst ?_ | with_reducible refine r_bin ?_ | with_reducible refine r_cmp ?_ | with_reducible refine r_chain ?_ | with_reducible refine r_and ?_ | with_reducible refine r_or ?_ | with_reducible refine r_not ?_ | with_reducible refine r_idx ?_ | with_reducible refine r_idxL ?_ | with_reducible refine r_slice ?_ | with_reducible refine r_len ?_ | with_reducible refine r_isi ?_ | with_reducible refine r_toInt ?_ | with_reducible refine r_all ?_ | with_reducible refine r_tupOf ?_ | with_reducible refine r_wget ?_ | with_reducible refine r_dictOf ?_ | with_reducible refine r_lenset ?_ | with_reducible refine r_call ?_ | with_reducible refine r_tup ?_ | with_reducible refine r_nil ?_ | with_reducible refine r_cons ?_ | with_reducible refine r_disp ?_ | with_reducible refine r_lst ?_ | with_reducible refine r_cat ?_ | with_reducible refine r_of ?_ | with_reducible refine r_eqL ?_ | with_reducible refine r_pop ?_ | with_reducible refine s_asgR ?_ | with_reducible refine s_setR ?_ | with_reducible refine s_retR ?_ | with_reducible refine s_iteR ?_ | with_reducible refine s_unpR ?_ | with_reducible refine ss_nilR ?_ | ((with_reducible refine r_callv ?_); refine ⟨_, rfl, ?_⟩) | ((with_reducible refine r_setD ?_); refine ⟨_, _, rfl, rfl, rfl, ?_⟩) | ((with_reducible refine r_popD ?_); refine ⟨_, _, rfl, ?_⟩)) | with_reducible refine ex_bool ?_ | with_reducible refine ex_eq ?_ | with_reducible refine ex_lt ?_ | with_reducible refine ex_le ?_ | with_reducible refine ex_gt ?_ | with_reducible refine ex_add ?_ | with_reducible refine ex_sub ?_ | ((with_reducible refine ex_mod ?_ ?_); (· first | assumption | decide)) | ((with_reducible refine ex_mulR ?_ ?_); · decide) | ((with_reducible refine ex_mulL ?_ ?_); · decide) | ((with_reducible refine ex_pow ?_ ?_ ?_); (· decide); (· first | omega | decide)) | ((with_reducible refine ex_fdiv ?_ ?_ ?_); (· first | assumption | decide); (· first | assumption | decide)) | ((with_reducible refine ex_get ?_); refine ⟨_, rfl, ?_⟩; (try dsimp only)) | ((with_reducible refine ex_len ?_ ?_); (· exact Nat.le_of_ble_eq_true rfl)) | ((with_reducible refine ex_plain ?_); refine ⟨_, rfl, Nat.le_of_ble_eq_true rfl, ?_⟩; (try dsimp only)))
  refine r_lc ?_
  refine wp_eq (a := .fix [.p (way1 rows h)]) (S := [o0, o1, o2, o3, o4, o5]) (by kernel_rfl) ?_
  refine ⟨1, rfl, by decide, ?_⟩
  refine lc_S ⟨_, rfl, wpC ?_⟩
  show wp (evE (calK fs 10) (.callv 3 (.cons (.var 4) .nil)) [some (.p (.tuple [way1 rows h])), some (.p (.int 0)), some (.p (.int 8)), some (.fn 16), some (.p (way1 rows h))] _) _ _
  repeat (first | (first | ((with_reducible refine r_var ?_); refine ⟨_, rfl, ?_⟩) | with_reducible refine r_cst ?_ | with_reducible refine r_bin ?_ | with_reducible refine r_cmp ?_ | with_reducible refine r_chain ?_ | with_reducible refine r_and ?_ | with_reducible refine r_or ?_ | with_reducible refine r_not ?_ | with_reducible refine r_idx ?_ | with_reducible refine r_idxL ?_ | with_reducible refine r_slice ?_ | with_reducible refine r_len ?_ | with_reducible refine r_isi ?_ | with_reducible refine r_toInt ?_ | with_reducible refine r_all ?_ | with_reducible refine r_tupOf ?_ | with_reducible refine r_wget ?_ | with_reducible refine r_dictOf ?_ | with_reducible refine r_lenset ?_ | with_reducible refine r_call ?_ | with_reducible refine r_tup ?_ | with_reducible refine r_nil ?_ | with_reducible refine r_cons ?_ | with_reducible refine r_disp ?_ | with_reducible refine r_lst ?_ | with_reducible refine r_cat ?_ | with_reducible refine r_of ?_ | with_reducible refine r_eqL ?_ | with_reducible refine r_pop ?_ | with_reducible refine s_asgR ?_ | with_reducible refine s_setR ?_ | with_reducible refine s_retR ?_ | with_reducible refine s_iteR ?_ | with_reducible refine s_unpR ?_ | with_reducible refine ss_nilR ?_ | ((with_reducible refine r_callv ?_); refine ⟨_, rfl, ?_⟩) | ((with_reducible refine r_setD ?_); refine ⟨_, _, rfl, rfl, rfl, ?_⟩) | ((with_reducible refine r_popD ?_); refine ⟨_, _, rfl, ?_⟩)) | with_reducible refine ex_bool ?_ | with_reducible refine ex_eq ?_ | with_reducible refine ex_lt ?_ | with_reducible refine ex_le ?_ | with_reducible refine ex_gt ?_ | with_reducible refine ex_add ?_ | with_reducible refine ex_sub ?_ | ((with_reducible refine ex_mod ?_ ?_); (· first | assumption | decide)) | ((with_reducible refine ex_mulR ?_ ?_); · decide) | ((with_reducible refine ex_mulL ?_ ?_); · decide) | ((with_reducible refine ex_pow ?_ ?_ ?_); (· decide); (· first | omega | decide)) | ((with_reducible refine ex_fdiv ?_ ?_ ?_); (· first | assumption | decide); (· first | assumption | decide)) | ((with_reducible refine ex_get ?_); refine ⟨_, rfl, ?_⟩; (try dsimp only)) | ((with_reducible refine ex_len ?_ ?_); (· exact Nat.le_of_ble_eq_true rfl)) | ((with_reducible refine ex_plain ?_); refine ⟨_, rfl, Nat.le_of_ble_eq_true rfl, ?_⟩; (try dsimp only)))
  refine wp_eq hw ?_
  refine lc_Z rfl ?_
  refine ⟨[b], rfl, ?_⟩
  exact ⟨_, rfl, by cases b <;> rfl, rfl⟩
theorem named6 (o0 o1 o2 o3 o4 o5 : MO) (rows : List PyData) (h : Int) (b : Bool) (hw : calK fs 10 16 [.p (way1 rows h)] [o0, o1, o2, o3, o4, o5] = .val (.p (.bool b)) [o0, o1, o2, o3, o4, o5]) : calK fs 12 12 [.p (.tuple [way1 rows h]), .p (.int 0), .p (.int 8), .fn 16] [o0, o1, o2, o3, o4, o5] = .val (.p (.bool b)) [o0, o1, o2, o3, o4, o5] := by
  refine wp_val ?_
  show wp (callF (calK fs 11) ⟨4, 5, b12⟩ _ _) _ _
  refine call_wp rfl ?_
  unfold b12
  (with_reducible refine ss_consR ?_); repeat (first | (first | ((with_reducible refine r_var ?_); refine ⟨_, rfl, ?_⟩) | with_reducible refine r_cst ?_ | with_reducible refine r_bin ?_ | with_reducible refine r_cmp ?_ | with_reducible refine r_chain ?_ | with_reducible refine r_and ?_ | with_reducible refine r_or ?_ | with_reducible refine r_not ?_ | with_reducible refine r_idx ?_ | with_reducible refine r_idxL ?_ | with_reducible refine r_slice ?_ | with_reducible refine r_len ?_ | with_reducible refine r_isi ?_ | with_reducible refine r_toInt ?_ | with_reducible refine r_all ?_ | with_reducible refine r_tupOf ?_ | with_reducible refine r_wget ?_ | with_reducible refine r_dictOf ?_ | with_reducible refine r_lenset ?_ | with_reducible refine r_call ?_ | with_reducible refine r_tup ?_ | with_reducible refine r_nil ?_ | with_reducible refine r_cons ?_ | with_reducible refine r_disp ?_ | with_reducible refine r_lst ?_ | with_reducible refine r_cat ?_ | with_reducible refine r_of ?_ | with_reducible refine r_eqL ?_ | with_reducible refine r_pop ?_ | with_reducible refine s_asgR ?_ | with_reducible refine s_setR ?_ | with_reducible refine s_retR ?_ | with_reducible refine s_iteR ?_ | with_reducible refine s_unpR ?_ | with_reducible refine ss_nilR ?_ | ((with_reducible refine r_callv ?_); refine ⟨_, rfl, ?_⟩) | ((with_reducible refine r_setD ?_); refine ⟨_, _, rfl, rfl, rfl, ?_⟩) | ((with_reducible refine r_popD ?_); refine ⟨_, _, rfl, ?_⟩)) | with_reducible refine ex_bool ?_ | with_reducible refine ex_eq ?_ | with_reducible refine ex_lt ?_ | with_reducible refine ex_le ?_ | with_reducible refine ex_gt ?_ | with_reducible refine ex_add ?_ | with_reducible refine ex_sub ?_ | ((with_reducible refine ex_mod ?_ ?_); (· first | assumption | decide)) | ((with_reducible refine ex_mulR ?_ ?_); · decide) | ((with_reducible refine ex_mulL ?_ ?_); · decide) | ((with_reducible refine ex_pow ?_ ?_ ?_); (· decide); (· first | omega | decide)) | ((with_reducible refine ex_fdiv ?_ ?_ ?_); (· first | assumption | decide); (· first | assumption | decide)) | ((with_reducible refine ex_get ?_); refine ⟨_, rfl, ?_⟩; (try dsimp only)) | ((with_reducible refine ex_len ?_ ?_); (· exact Nat.le_of_ble_eq_true rfl)) | ((with_reducible refine ex_plain ?_); refine ⟨_, rfl, Nat.le_of_ble_eq_true rfl, ?_⟩; (try dsimp only)))
  refine wp_eq (all6 o0 o1 o2 o3 o4 o5 rows h b hw) ?_
  repeat (first | (first | ((with_reducible refine r_var ?_); refine ⟨_, rfl, ?_⟩) | with_reducible refine r_cst ?_ | with_reducible refine r_bin ?_ | with_reducible refine r_cmp ?_ | with_reducible refine r_chain ?_ | with_reducible refine r_and ?_ | with_reducible refine r_or ?_ | with_reducible refine r_not ?_ | with_reducible refine r_idx ?_ | with_reducible refine r_idxL ?_ | with_reducible refine r_slice ?_ | with_reducible refine r_len ?_ | with_reducible refine r_isi ?_ | with_reducible refine r_toInt ?_ | with_reducible refine r_all ?_ | with_reducible refine r_tupOf ?_ | with_reducible refine r_wget ?_ | with_reducible refine r_dictOf ?_ | with_reducible refine r_lenset ?_ | with_reducible refine r_call ?_ | with_reducible refine r_tup ?_ | with_reducible refine r_nil ?_ | with_reducible refine r_cons ?_ | with_reducible refine r_disp ?_ | with_reducible refine r_lst ?_ | with_reducible refine r_cat ?_ | with_reducible refine r_of ?_ | with_reducible refine r_eqL ?_ | with_reducible refine r_pop ?_ | with_reducible refine s_asgR ?_ | with_reducible refine s_setR ?_ | with_reducible refine s_retR ?_ | with_reducible refine s_iteR ?_ | with_reducible refine s_unpR ?_ | with_reducible refine ss_nilR ?_ | ((with_reducible refine r_callv ?_); refine ⟨_, rfl, ?_⟩) | ((with_reducible refine r_setD ?_); refine ⟨_, _, rfl, rfl, rfl, ?_⟩) | ((with_reducible refine r_popD ?_); refine ⟨_, _, rfl, ?_⟩)) | with_reducible refine ex_bool ?_ | with_reducible refine ex_eq ?_ | with_reducible refine ex_lt ?_ | with_reducible refine ex_le ?_ | with_reducible refine ex_gt ?_ | with_reducible refine ex_add ?_ | with_reducible refine ex_sub ?_ | ((with_reducible refine ex_mod ?_ ?_); (· first | assumption | decide)) | ((with_reducible refine ex_mulR ?_ ?_); · decide) | ((with_reducible refine ex_mulL ?_ ?_); · decide) | ((with_reducible refine ex_pow ?_ ?_ ?_); (· decide); (· first | omega | decide)) | ((with_reducible refine ex_fdiv ?_ ?_ ?_); (· first | assumption | decide); (· first | assumption | decide)) | ((with_reducible refine ex_get ?_); refine ⟨_, rfl, ?_⟩; (try dsimp only)) | ((with_reducible refine ex_len ?_ ?_); (· exact Nat.le_of_ble_eq_true rfl)) | ((with_reducible refine ex_plain ?_); refine ⟨_, rfl, Nat.le_of_ble_eq_true rfl, ?_⟩; (try dsimp only)))
  refine ifB (fun e => ?_) (fun e => ?_)
  · subst e
    refine wp_eq (a := .p (.bool true)) (S := [o0, o1, o2, o3, o4, o5]) (by kernel_rfl) ?_
    exact ⟨_, rfl, rfl, rfl⟩
  · subst e
    exact ⟨_, rfl, rfl, rfl⟩
theorem kind6 (o0 o1 o2 o3 o4 o5 : MO) (rows : List PyData) (h : Int) (b : Bool) (hw : calK fs 10 16 [.p (way1 rows h)] [o0, o1, o2, o3, o4, o5] = .val (.p (.bool b)) [o0, o1, o2, o3, o4, o5]) : calK fs 13 8 [.p (unit1 rows h)] [o0, o1, o2, o3, o4, o5] = .val (.p (.bool b)) [o0, o1, o2, o3, o4, o5] := by
  refine wp_val ?_
  show wp (callF (calK fs 12) ⟨1, 7, b8⟩ _ _) _ _
  refine call_wp rfl ?_
  unfold b8
  (with_reducible refine ss_consR ?_)
  refine wp_eq (a := (.next, [some (.p (unit1 rows h)), none, none, none, none, none, none])) (S := [o0, o1, o2, o3, o4, o5]) (by kernel_rfl) ?_
  dsimp only
  (with_reducible refine ss_consR ?_)
  refine wp_eq (a := (.next, [some (.p (unit1 rows h)), some (.p (.str "kind")), some (.p (.str "Own")), some (.p (.str "")), some (.p (.tuple [])), some (.p (.tuple [])), some (.p (.tuple [way1 rows h]))])) (S := [o0, o1, o2, o3, o4, o5]) (by kernel_rfl) ?_
  dsimp only
  (with_reducible refine ss_consR ?_)
  refine s_retR ?_
  refine r_and ?_
  refine wp_eq (a := .p (.bool true)) (S := [o0, o1, o2, o3, o4, o5]) (by kernel_rfl) ⟨true, rfl, ifT ?_⟩
  refine r_and ?_
  refine wp_eq (a := .p (.bool true)) (S := [o0, o1, o2, o3, o4, o5]) (by kernel_rfl) ⟨true, rfl, ifT ?_⟩
  refine r_and ?_
  refine wp_eq (a := .p (.bool true)) (S := [o0, o1, o2, o3, o4, o5]) (by kernel_rfl) ⟨true, rfl, ifT ?_⟩
  refine r_and ?_
  refine wp_eq (a := .p (.bool true)) (S := [o0, o1, o2, o3, o4, o5]) (by kernel_rfl) ⟨true, rfl, ifT ?_⟩
  repeat (first | (first | ((with_reducible refine r_var ?_); refine ⟨_, rfl, ?_⟩) | with_reducible refine r_cst ?_ | with_reducible refine r_bin ?_ | with_reducible refine r_cmp ?_ | with_reducible refine r_chain ?_ | with_reducible refine r_and ?_ | with_reducible refine r_or ?_ | with_reducible refine r_not ?_ | with_reducible refine r_idx ?_ | with_reducible refine r_idxL ?_ | with_reducible refine r_slice ?_ | with_reducible refine r_len ?_ | with_reducible refine r_isi ?_ | with_reducible refine r_toInt ?_ | with_reducible refine r_all ?_ | with_reducible refine r_tupOf ?_ | with_reducible refine r_wget ?_ | with_reducible refine r_dictOf ?_ | with_reducible refine r_lenset ?_ | with_reducible refine r_call ?_ | with_reducible refine r_tup ?_ | with_reducible refine r_nil ?_ | with_reducible refine r_cons ?_ | with_reducible refine r_disp ?_ | with_reducible refine r_lst ?_ | with_reducible refine r_cat ?_ | with_reducible refine r_of ?_ | with_reducible refine r_eqL ?_ | with_reducible refine r_pop ?_ | with_reducible refine s_asgR ?_ | with_reducible refine s_setR ?_ | with_reducible refine s_retR ?_ | with_reducible refine s_iteR ?_ | with_reducible refine s_unpR ?_ | with_reducible refine ss_nilR ?_ | ((with_reducible refine r_callv ?_); refine ⟨_, rfl, ?_⟩) | ((with_reducible refine r_setD ?_); refine ⟨_, _, rfl, rfl, rfl, ?_⟩) | ((with_reducible refine r_popD ?_); refine ⟨_, _, rfl, ?_⟩)) | with_reducible refine ex_bool ?_ | with_reducible refine ex_eq ?_ | with_reducible refine ex_lt ?_ | with_reducible refine ex_le ?_ | with_reducible refine ex_gt ?_ | with_reducible refine ex_add ?_ | with_reducible refine ex_sub ?_ | ((with_reducible refine ex_mod ?_ ?_); (· first | assumption | decide)) | ((with_reducible refine ex_mulR ?_ ?_); · decide) | ((with_reducible refine ex_mulL ?_ ?_); · decide) | ((with_reducible refine ex_pow ?_ ?_ ?_); (· decide); (· first | omega | decide)) | ((with_reducible refine ex_fdiv ?_ ?_ ?_); (· first | assumption | decide); (· first | assumption | decide)) | ((with_reducible refine ex_get ?_); refine ⟨_, rfl, ?_⟩; (try dsimp only)) | ((with_reducible refine ex_len ?_ ?_); (· exact Nat.le_of_ble_eq_true rfl)) | ((with_reducible refine ex_plain ?_); refine ⟨_, rfl, Nat.le_of_ble_eq_true rfl, ?_⟩; (try dsimp only)))
  refine wp_eq (named6 o0 o1 o2 o3 o4 o5 rows h b hw) ?_
  exact ⟨_, rfl, rfl, rfl⟩
theorem unit6 (o0 o1 o2 o3 o4 o5 : MO) (rows : List PyData) (h : Int) (b : Bool) (hw : calK fs 10 16 [.p (way1 rows h)] [o0, o1, o2, o3, o4, o5] = .val (.p (.bool b)) [o0, o1, o2, o3, o4, o5]) : calK fs 14 7 [.p (unit1 rows h)] [o0, o1, o2, o3, o4, o5] = .val (.p (.bool b)) [o0, o1, o2, o3, o4, o5] := by
  refine wp_val ?_
  show wp (callF (calK fs 13) ⟨1, 1, b7⟩ _ _) _ _
  refine call_wp rfl ?_
  unfold b7
  (with_reducible refine ss_consR ?_); repeat (first | (first | ((with_reducible refine r_var ?_); refine ⟨_, rfl, ?_⟩) | with_reducible refine r_cst ?_ | with_reducible refine r_bin ?_ | with_reducible refine r_cmp ?_ | with_reducible refine r_chain ?_ | with_reducible refine r_and ?_ | with_reducible refine r_or ?_ | with_reducible refine r_not ?_ | with_reducible refine r_idx ?_ | with_reducible refine r_idxL ?_ | with_reducible refine r_slice ?_ | with_reducible refine r_len ?_ | with_reducible refine r_isi ?_ | with_reducible refine r_toInt ?_ | with_reducible refine r_all ?_ | with_reducible refine r_tupOf ?_ | with_reducible refine r_wget ?_ | with_reducible refine r_dictOf ?_ | with_reducible refine r_lenset ?_ | with_reducible refine r_call ?_ | with_reducible refine r_tup ?_ | with_reducible refine r_nil ?_ | with_reducible refine r_cons ?_ | with_reducible refine r_disp ?_ | with_reducible refine r_lst ?_ | with_reducible refine r_cat ?_ | with_reducible refine r_of ?_ | with_reducible refine r_eqL ?_ | with_reducible refine r_pop ?_ | with_reducible refine s_asgR ?_ | with_reducible refine s_setR ?_ | with_reducible refine s_retR ?_ | with_reducible refine s_iteR ?_ | with_reducible refine s_unpR ?_ | with_reducible refine ss_nilR ?_ | ((with_reducible refine r_callv ?_); refine ⟨_, rfl, ?_⟩) | ((with_reducible refine r_setD ?_); refine ⟨_, _, rfl, rfl, rfl, ?_⟩) | ((with_reducible refine r_popD ?_); refine ⟨_, _, rfl, ?_⟩)) | with_reducible refine ex_bool ?_ | with_reducible refine ex_eq ?_ | with_reducible refine ex_lt ?_ | with_reducible refine ex_le ?_ | with_reducible refine ex_gt ?_ | with_reducible refine ex_add ?_ | with_reducible refine ex_sub ?_ | ((with_reducible refine ex_mod ?_ ?_); (· first | assumption | decide)) | ((with_reducible refine ex_mulR ?_ ?_); · decide) | ((with_reducible refine ex_mulL ?_ ?_); · decide) | ((with_reducible refine ex_pow ?_ ?_ ?_); (· decide); (· first | omega | decide)) | ((with_reducible refine ex_fdiv ?_ ?_ ?_); (· first | assumption | decide); (· first | assumption | decide)) | ((with_reducible refine ex_get ?_); refine ⟨_, rfl, ?_⟩; (try dsimp only)) | ((with_reducible refine ex_len ?_ ?_); (· exact Nat.le_of_ble_eq_true rfl)) | ((with_reducible refine ex_plain ?_); refine ⟨_, rfl, Nat.le_of_ble_eq_true rfl, ?_⟩; (try dsimp only)))
  refine wp_eq (kind6 o0 o1 o2 o3 o4 o5 rows h b hw) ?_
  repeat (first | (first | ((with_reducible refine r_var ?_); refine ⟨_, rfl, ?_⟩) | with_reducible refine r_cst ?_ | with_reducible refine r_bin ?_ | with_reducible refine r_cmp ?_ | with_reducible refine r_chain ?_ | with_reducible refine r_and ?_ | with_reducible refine r_or ?_ | with_reducible refine r_not ?_ | with_reducible refine r_idx ?_ | with_reducible refine r_idxL ?_ | with_reducible refine r_slice ?_ | with_reducible refine r_len ?_ | with_reducible refine r_isi ?_ | with_reducible refine r_toInt ?_ | with_reducible refine r_all ?_ | with_reducible refine r_tupOf ?_ | with_reducible refine r_wget ?_ | with_reducible refine r_dictOf ?_ | with_reducible refine r_lenset ?_ | with_reducible refine r_call ?_ | with_reducible refine r_tup ?_ | with_reducible refine r_nil ?_ | with_reducible refine r_cons ?_ | with_reducible refine r_disp ?_ | with_reducible refine r_lst ?_ | with_reducible refine r_cat ?_ | with_reducible refine r_of ?_ | with_reducible refine r_eqL ?_ | with_reducible refine r_pop ?_ | with_reducible refine s_asgR ?_ | with_reducible refine s_setR ?_ | with_reducible refine s_retR ?_ | with_reducible refine s_iteR ?_ | with_reducible refine s_unpR ?_ | with_reducible refine ss_nilR ?_ | ((with_reducible refine r_callv ?_); refine ⟨_, rfl, ?_⟩) | ((with_reducible refine r_setD ?_); refine ⟨_, _, rfl, rfl, rfl, ?_⟩) | ((with_reducible refine r_popD ?_); refine ⟨_, _, rfl, ?_⟩)) | with_reducible refine ex_bool ?_ | with_reducible refine ex_eq ?_ | with_reducible refine ex_lt ?_ | with_reducible refine ex_le ?_ | with_reducible refine ex_gt ?_ | with_reducible refine ex_add ?_ | with_reducible refine ex_sub ?_ | ((with_reducible refine ex_mod ?_ ?_); (· first | assumption | decide)) | ((with_reducible refine ex_mulR ?_ ?_); · decide) | ((with_reducible refine ex_mulL ?_ ?_); · decide) | ((with_reducible refine ex_pow ?_ ?_ ?_); (· decide); (· first | omega | decide)) | ((with_reducible refine ex_fdiv ?_ ?_ ?_); (· first | assumption | decide); (· first | assumption | decide)) | ((with_reducible refine ex_get ?_); refine ⟨_, rfl, ?_⟩; (try dsimp only)) | ((with_reducible refine ex_len ?_ ?_); (· exact Nat.le_of_ble_eq_true rfl)) | ((with_reducible refine ex_plain ?_); refine ⟨_, rfl, Nat.le_of_ble_eq_true rfl, ?_⟩; (try dsimp only)))
  refine ifB (fun e => ?_) (fun e => ?_)
  · subst e
    exact ⟨_, rfl, rfl, rfl⟩
  · subst e
    repeat (first | (first | ((with_reducible refine r_var ?_); refine ⟨_, rfl, ?_⟩) | with_reducible refine r_cst ?_ | with_reducible refine r_bin ?_ | with_reducible refine r_cmp ?_ | with_reducible refine r_chain ?_ | with_reducible refine r_and ?_ | with_reducible refine r_or ?_ | with_reducible refine r_not ?_ | with_reducible refine r_idx ?_ | with_reducible refine r_idxL ?_ | with_reducible refine r_slice ?_ | with_reducible refine r_len ?_ | with_reducible refine r_isi ?_ | with_reducible refine r_toInt ?_ | with_reducible refine r_all ?_ | with_reducible refine r_tupOf ?_ | with_reducible refine r_wget ?_ | with_reducible refine r_dictOf ?_ | with_reducible refine r_lenset ?_ | with_reducible refine r_call ?_ | with_reducible refine r_tup ?_ | with_reducible refine r_nil ?_ | with_reducible refine r_cons ?_ | with_reducible refine r_disp ?_ | with_reducible refine r_lst ?_ | with_reducible refine r_cat ?_ | with_reducible refine r_of ?_ | with_reducible refine r_eqL ?_ | with_reducible refine r_pop ?_ | with_reducible refine s_asgR ?_ | with_reducible refine s_setR ?_ | with_reducible refine s_retR ?_ | with_reducible refine s_iteR ?_ | with_reducible refine s_unpR ?_ | with_reducible refine ss_nilR ?_ | ((with_reducible refine r_callv ?_); refine ⟨_, rfl, ?_⟩) | ((with_reducible refine r_setD ?_); refine ⟨_, _, rfl, rfl, rfl, ?_⟩) | ((with_reducible refine r_popD ?_); refine ⟨_, _, rfl, ?_⟩)) | with_reducible refine ex_bool ?_ | with_reducible refine ex_eq ?_ | with_reducible refine ex_lt ?_ | with_reducible refine ex_le ?_ | with_reducible refine ex_gt ?_ | with_reducible refine ex_add ?_ | with_reducible refine ex_sub ?_ | ((with_reducible refine ex_mod ?_ ?_); (· first | assumption | decide)) | ((with_reducible refine ex_mulR ?_ ?_); · decide) | ((with_reducible refine ex_mulL ?_ ?_); · decide) | ((with_reducible refine ex_pow ?_ ?_ ?_); (· decide); (· first | omega | decide)) | ((with_reducible refine ex_fdiv ?_ ?_ ?_); (· first | assumption | decide); (· first | assumption | decide)) | ((with_reducible refine ex_get ?_); refine ⟨_, rfl, ?_⟩; (try dsimp only)) | ((with_reducible refine ex_len ?_ ?_); (· exact Nat.le_of_ble_eq_true rfl)) | ((with_reducible refine ex_plain ?_); refine ⟨_, rfl, Nat.le_of_ble_eq_true rfl, ?_⟩; (try dsimp only)))
    refine wp_eq (a := .p (.bool false)) (S := [o0, o1, o2, o3, o4, o5]) (by kernel_rfl) ?_
    exact ⟨_, rfl, rfl, rfl⟩

theorem all9 (o0 o1 o2 o3 o4 o5 o6 o7 o8 : MO) (rows : List PyData) (h : Int) (b : Bool) (hw : calK fs 10 16 [.p (way1 rows h)] [o0, o1, o2, o3, o4, o5, o6, o7, o8] = .val (.p (.bool b)) [o0, o1, o2, o3, o4, o5, o6, o7, o8]) : calK fs 11 11 [.p (.tuple [way1 rows h]), .p (.int 0), .p (.int 8), .fn 16] [o0, o1, o2, o3, o4, o5, o6, o7, o8] = .val (.p (.bool b)) [o0, o1, o2, o3, o4, o5, o6, o7, o8] := by
  refine wp_val ?_
  show wp (callF (calK fs 10) ⟨4, 5, b11⟩ _ _) _ _
  refine call_wp rfl ?_
  unfold b11
  (with_reducible refine ss_consR ?_); repeat (first | (first | ((with_reducible refine r_var ?_); refine ⟨_, rfl, ?_⟩) | with_reducible refine r_cst ?_ | with_reducible refine r_bin ?_ | with_reducible refine r_cmp ?_ | with_reducible refine r_chain ?_ | with_reducible refine r_and ?_ | with_reducible refine r_or ?_ | with_reducible refine r_not ?_ | with_reducible refine r_idx ?_ | with_reducible refine r_idxL ?_ | with_reducible refine r_slice ?_ | with_reducible refine r_len ?_ | with_reducible refine r_isi ?_ | with_reducible refine r_toInt ?_ | with_reducible refine r_all ?_ | with_reducible refine r_tupOf ?_ | with_reducible refine r_wget ?_ | with_reducible refine r_dictOf ?_ | with_reducible refine r_lenset ?_ | with_reducible refine r_call ?_ | with_reducible refine r_tup ?_ | with_reducible refine r_nil ?_ | with_reducible refine r_cons ?_ | with_reducible refine r_disp ?_ | with_reducible refine r_lst ?_ | with_reducible refine r_cat ?_ | with_reducible refine r_of ?_ | with_reducible refine r_eqL ?_ | with_reducible refine r_pop ?_ | with_reducible refine s_asgR ?_ | with_reducible refine s_setR ?_ | with_reducible refine s_retR ?_ | with_reducible refine s_iteR ?_ | with_reducible refine s_unpR ?_ | with_reducible refine ss_nilR ?_ | ((with_reducible refine r_callv ?_); refine ⟨_, rfl, ?_⟩) | ((with_reducible refine r_setD ?_); refine ⟨_, _, rfl, rfl, rfl, ?_⟩) | ((with_reducible refine r_popD ?_); refine ⟨_, _, rfl, ?_⟩)) | with_reducible refine ex_bool ?_ | with_reducible refine ex_eq ?_ | with_reducible refine ex_lt ?_ | with_reducible refine ex_le ?_ | with_reducible refine ex_gt ?_ | with_reducible refine ex_add ?_ | with_reducible refine ex_sub ?_ | ((with_reducible refine ex_mod ?_ ?_); (· first | assumption | decide)) | ((with_reducible refine ex_mulR ?_ ?_); · decide) | ((with_reducible refine ex_mulL ?_ ?_); · decide) | ((with_reducible refine ex_pow ?_ ?_ ?_); (· decide); (· first | omega | decide)) | ((with_reducible refine ex_fdiv ?_ ?_ ?_); (· first | assumption | decide); (· first | assumption | decide)) | ((with_reducible refine ex_get ?_); refine ⟨_, rfl, ?_⟩; (try dsimp only)) | ((with_reducible refine ex_len ?_ ?_); (· exact Nat.le_of_ble_eq_true rfl)) | ((with_reducible refine ex_plain ?_); refine ⟨_, rfl, Nat.le_of_ble_eq_true rfl, ?_⟩; (try dsimp only)))
  refine wp_eq (tuple_ok 9 _ 0 8 _) ?_
  repeat (first | (first | ((with_reducible refine r_var ?_); refine ⟨_, rfl, ?_⟩) | with_reducible refine r_cst ?_ | with_reducible refine r_bin ?_ | with_reducible refine r_cmp ?_ | with_reducible refine r_chain ?_ | with_reducible refine r_and ?_ | with_reducible refine r_or ?_ | with_reducible refine r_not ?_ | with_reducible refine r_idx ?_ | with_reducible refine r_idxL ?_ | with_reducible refine r_slice ?_ | with_reducible refine r_len ?_ | with_reducible refine r_isi ?_ | with_reducible refine r_toInt ?_ | with_reducible refine r_all ?_ | with_reducible refine r_tupOf ?_ | with_reducible refine r_wget ?_ | with_reducible refine r_dictOf ?_ | with_reducible refine r_lenset ?_ | with_reducible refine r_call ?_ | with_reducible refine r_tup ?_ | with_reducible refine r_nil ?_ | with_reducible refine r_cons ?_ | with_reducible refine r_disp ?_ | with_reducible refine r_lst ?_ | with_reducible refine r_cat ?_ | with_reducible refine r_of ?_ | with_reducible refine r_eqL ?_ | with_reducible refine r_pop ?_ | with_reducible refine s_asgR ?_ | with_reducible refine s_setR ?_ | with_reducible refine s_retR ?_ | with_reducible refine s_iteR ?_ | with_reducible refine s_unpR ?_ | with_reducible refine ss_nilR ?_ | ((with_reducible refine r_callv ?_); refine ⟨_, rfl, ?_⟩) | ((with_reducible refine r_setD ?_); refine ⟨_, _, rfl, rfl, rfl, ?_⟩) | ((with_reducible refine r_popD ?_); refine ⟨_, _, rfl, ?_⟩)) | with_reducible refine ex_bool ?_ | with_reducible refine ex_eq ?_ | with_reducible refine ex_lt ?_ | with_reducible refine ex_le ?_ | with_reducible refine ex_gt ?_ | with_reducible refine ex_add ?_ | with_reducible refine ex_sub ?_ | ((with_reducible refine ex_mod ?_ ?_); (· first | assumption | decide)) | ((with_reducible refine ex_mulR ?_ ?_); · decide) | ((with_reducible refine ex_mulL ?_ ?_); · decide) | ((with_reducible refine ex_pow ?_ ?_ ?_); (· decide); (· first | omega | decide)) | ((with_reducible refine ex_fdiv ?_ ?_ ?_); (· first | assumption | decide); (· first | assumption | decide)) | ((with_reducible refine ex_get ?_); refine ⟨_, rfl, ?_⟩; (try dsimp only)) | ((with_reducible refine ex_len ?_ ?_); (· exact Nat.le_of_ble_eq_true rfl)) | ((with_reducible refine ex_plain ?_); refine ⟨_, rfl, Nat.le_of_ble_eq_true rfl, ?_⟩; (try dsimp only)))
  refine ifB (fun _ => ?_) (fun q => by
    have q : (decide ((0 : Int) ≤ ((1 : Nat) : Int)) && decide (((1 : Nat) : Int) ≤ 8)) = false := q
    exact absurd q (by decide))
  repeat (first | (first | ((with_reducible refine r_var ?_); refine ⟨_, rfl, ?_⟩) | with_reducible refine r_cst ?_ | with_reducible refine r_bin ?_ | with_reducible refine r_cmp ?_ | with_reducible refine r_chain ?_ | with_reducible refine r_and ?_ | with_reducible refine r_or ?_ | with_reducible refine r_not ?_ | with_reducible refine r_idx ?_ | with_reducible refine r_idxL ?_ | with_reducible refine r_slice ?_ | with_reducible refine r_len ?_ | with_reducible refine r_isi ?_ | with_reducible refine r_toInt ?_ | with_reducible refine r_all ?_ | with_reducible refine r_tupOf ?_ | with_reducible refine r_wget ?_ | with_reducible refine r_dictOf ?_ | with_reducible refine r_lenset ?_ | with_reducible refine r_call ?_ | with_reducible refine r_tup ?_ | with_reducible refine r_nil ?_ | with_reducible refine r_cons ?_ | with_reducible refine r_disp ?_ | with_reducible refine r_lst ?_ | with_reducible refine r_cat ?_ | with_reducible refine r_of ?_ | with_reducible refine r_eqL ?_ | with_reducible refine r_pop ?_ | with_reducible refine s_asgR ?_ | with_reducible refine s_setR ?_ | with_reducible refine s_retR ?_ | with_reducible refine s_iteR ?_ | with_reducible refine s_unpR ?_ | with_reducible refine ss_nilR ?_ | ((with_reducible refine r_callv ?_); refine ⟨_, rfl, ?_⟩) | ((with_reducible refine r_setD ?_); refine ⟨_, _, rfl, rfl, rfl, ?_⟩) | ((with_reducible refine r_popD ?_); refine ⟨_, _, rfl, ?_⟩)) | with_reducible refine ex_bool ?_ | with_reducible refine ex_eq ?_ | with_reducible refine ex_lt ?_ | with_reducible refine ex_le ?_ | with_reducible refine ex_gt ?_ | with_reducible refine ex_add ?_ | with_reducible refine ex_sub ?_ | ((with_reducible refine ex_mod ?_ ?_); (· first | assumption | decide)) | ((with_reducible refine ex_mulR ?_ ?_); · decide) | ((with_reducible refine ex_mulL ?_ ?_); · decide) | ((with_reducible refine ex_pow ?_ ?_ ?_); (· decide); (· first | omega | decide)) | ((with_reducible refine ex_fdiv ?_ ?_ ?_); (· first | assumption | decide); (· first | assumption | decide)) | ((with_reducible refine ex_get ?_); refine ⟨_, rfl, ?_⟩; (try dsimp only)) | ((with_reducible refine ex_len ?_ ?_); (· exact Nat.le_of_ble_eq_true rfl)) | ((with_reducible refine ex_plain ?_); refine ⟨_, rfl, Nat.le_of_ble_eq_true rfl, ?_⟩; (try dsimp only)))
  refine r_lc ?_
  refine wp_eq (a := .fix [.p (way1 rows h)]) (S := [o0, o1, o2, o3, o4, o5, o6, o7, o8]) (by kernel_rfl) ?_
  refine ⟨1, rfl, by decide, ?_⟩
  refine lc_S ⟨_, rfl, wpC ?_⟩
  show wp (evE (calK fs 10) (.callv 3 (.cons (.var 4) .nil)) [some (.p (.tuple [way1 rows h])), some (.p (.int 0)), some (.p (.int 8)), some (.fn 16), some (.p (way1 rows h))] _) _ _
  repeat (first | (first | ((with_reducible refine r_var ?_); refine ⟨_, rfl, ?_⟩) | with_reducible refine r_cst ?_ | with_reducible refine r_bin ?_ | with_reducible refine r_cmp ?_ | with_reducible refine r_chain ?_ | with_reducible refine r_and ?_ | with_reducible refine r_or ?_ | with_reducible refine r_not ?_ | with_reducible refine r_idx ?_ | with_reducible refine r_idxL ?_ | with_reducible refine r_slice ?_ | with_reducible refine r_len ?_ | with_reducible refine r_isi ?_ | with_reducible refine r_toInt ?_ | with_reducible refine r_all ?_ | with_reducible refine r_tupOf ?_ | with_reducible refine r_wget ?_ | with_reducible refine r_dictOf ?_ | with_reducible refine r_lenset ?_ | with_reducible refine r_call ?_ | with_reducible refine r_tup ?_ | with_reducible refine r_nil ?_ | with_reducible refine r_cons ?_ | with_reducible refine r_disp ?_ | with_reducible refine r_lst ?_ | with_reducible refine r_cat ?_ | with_reducible refine r_of ?_ | with_reducible refine r_eqL ?_ | with_reducible refine r_pop ?_ | with_reducible refine s_asgR ?_ | with_reducible refine s_setR ?_ | with_reducible refine s_retR ?_ | with_reducible refine s_iteR ?_ | with_reducible refine s_unpR ?_ | with_reducible refine ss_nilR ?_ | ((with_reducible refine r_callv ?_); refine ⟨_, rfl, ?_⟩) | ((with_reducible refine r_setD ?_); refine ⟨_, _, rfl, rfl, rfl, ?_⟩) | ((with_reducible refine r_popD ?_); refine ⟨_, _, rfl, ?_⟩)) | with_reducible refine ex_bool ?_ | with_reducible refine ex_eq ?_ | with_reducible refine ex_lt ?_ | with_reducible refine ex_le ?_ | with_reducible refine ex_gt ?_ | with_reducible refine ex_add ?_ | with_reducible refine ex_sub ?_ | ((with_reducible refine ex_mod ?_ ?_); (· first | assumption | decide)) | ((with_reducible refine ex_mulR ?_ ?_); · decide) | ((with_reducible refine ex_mulL ?_ ?_); · decide) | ((with_reducible refine ex_pow ?_ ?_ ?_); (· decide); (· first | omega | decide)) | ((with_reducible refine ex_fdiv ?_ ?_ ?_); (· first | assumption | decide); (· first | assumption | decide)) | ((with_reducible refine ex_get ?_); refine ⟨_, rfl, ?_⟩; (try dsimp only)) | ((with_reducible refine ex_len ?_ ?_); (· exact Nat.le_of_ble_eq_true rfl)) | ((with_reducible refine ex_plain ?_); refine ⟨_, rfl, Nat.le_of_ble_eq_true rfl, ?_⟩; (try dsimp only)))
  refine wp_eq hw ?_
  refine lc_Z rfl ?_
  refine ⟨[b], rfl, ?_⟩
  exact ⟨_, rfl, by cases b <;> rfl, rfl⟩
theorem named9 (o0 o1 o2 o3 o4 o5 o6 o7 o8 : MO) (rows : List PyData) (h : Int) (b : Bool) (hw : calK fs 10 16 [.p (way1 rows h)] [o0, o1, o2, o3, o4, o5, o6, o7, o8] = .val (.p (.bool b)) [o0, o1, o2, o3, o4, o5, o6, o7, o8]) : calK fs 12 12 [.p (.tuple [way1 rows h]), .p (.int 0), .p (.int 8), .fn 16] [o0, o1, o2, o3, o4, o5, o6, o7, o8] = .val (.p (.bool b)) [o0, o1, o2, o3, o4, o5, o6, o7, o8] := by
  refine wp_val ?_
  show wp (callF (calK fs 11) ⟨4, 5, b12⟩ _ _) _ _
  refine call_wp rfl ?_
  unfold b12
  (with_reducible refine ss_consR ?_); repeat (first | (first | ((with_reducible refine r_var ?_); refine ⟨_, rfl, ?_⟩) | with_reducible refine r_cst ?_ | with_reducible refine r_bin ?_ | with_reducible refine r_cmp ?_ | with_reducible refine r_chain ?_ | with_reducible refine r_and ?_ | with_reducible refine r_or ?_ | with_reducible refine r_not ?_ | with_reducible refine r_idx ?_ | with_reducible refine r_idxL ?_ | with_reducible refine r_slice ?_ | with_reducible refine r_len ?_ | with_reducible refine r_isi ?_ | with_reducible refine r_toInt ?_ | with_reducible refine r_all ?_ | with_reducible refine r_tupOf ?_ | with_reducible refine r_wget ?_ | with_reducible refine r_dictOf ?_ | with_reducible refine r_lenset ?_ | with_reducible refine r_call ?_ | with_reducible refine r_tup ?_ | with_reducible refine r_nil ?_ | with_reducible refine r_cons ?_ | with_reducible refine r_disp ?_ | with_reducible refine r_lst ?_ | with_reducible refine r_cat ?_ | with_reducible refine r_of ?_ | with_reducible refine r_eqL ?_ | with_reducible refine r_pop ?_ | with_reducible refine s_asgR ?_ | with_reducible refine s_setR ?_ | with_reducible refine s_retR ?_ | with_reducible refine s_iteR ?_ | with_reducible refine s_unpR ?_ | with_reducible refine ss_nilR ?_ | ((with_reducible refine r_callv ?_); refine ⟨_, rfl, ?_⟩) | ((with_reducible refine r_setD ?_); refine ⟨_, _, rfl, rfl, rfl, ?_⟩) | ((with_reducible refine r_popD ?_); refine ⟨_, _, rfl, ?_⟩)) | with_reducible refine ex_bool ?_ | with_reducible refine ex_eq ?_ | with_reducible refine ex_lt ?_ | with_reducible refine ex_le ?_ | with_reducible refine ex_gt ?_ | with_reducible refine ex_add ?_ | with_reducible refine ex_sub ?_ | ((with_reducible refine ex_mod ?_ ?_); (· first | assumption | decide)) | ((with_reducible refine ex_mulR ?_ ?_); · decide) | ((with_reducible refine ex_mulL ?_ ?_); · decide) | ((with_reducible refine ex_pow ?_ ?_ ?_); (· decide); (· first | omega | decide)) | ((with_reducible refine ex_fdiv ?_ ?_ ?_); (· first | assumption | decide); (· first | assumption | decide)) | ((with_reducible refine ex_get ?_); refine ⟨_, rfl, ?_⟩; (try dsimp only)) | ((with_reducible refine ex_len ?_ ?_); (· exact Nat.le_of_ble_eq_true rfl)) | ((with_reducible refine ex_plain ?_); refine ⟨_, rfl, Nat.le_of_ble_eq_true rfl, ?_⟩; (try dsimp only)))
  refine wp_eq (all9 o0 o1 o2 o3 o4 o5 o6 o7 o8 rows h b hw) ?_
  repeat (first | (first | ((with_reducible refine r_var ?_); refine ⟨_, rfl, ?_⟩) | with_reducible refine r_cst ?_ | with_reducible refine r_bin ?_ | with_reducible refine r_cmp ?_ | with_reducible refine r_chain ?_ | with_reducible refine r_and ?_ | with_reducible refine r_or ?_ | with_reducible refine r_not ?_ | with_reducible refine r_idx ?_ | with_reducible refine r_idxL ?_ | with_reducible refine r_slice ?_ | with_reducible refine r_len ?_ | with_reducible refine r_isi ?_ | with_reducible refine r_toInt ?_ | with_reducible refine r_all ?_ | with_reducible refine r_tupOf ?_ | with_reducible refine r_wget ?_ | with_reducible refine r_dictOf ?_ | with_reducible refine r_lenset ?_ | with_reducible refine r_call ?_ | with_reducible refine r_tup ?_ | with_reducible refine r_nil ?_ | with_reducible refine r_cons ?_ | with_reducible refine r_disp ?_ | with_reducible refine r_lst ?_ | with_reducible refine r_cat ?_ | with_reducible refine r_of ?_ | with_reducible refine r_eqL ?_ | with_reducible refine r_pop ?_ | with_reducible refine s_asgR ?_ | with_reducible refine s_setR ?_ | with_reducible refine s_retR ?_ | with_reducible refine s_iteR ?_ | with_reducible refine s_unpR ?_ | with_reducible refine ss_nilR ?_ | ((with_reducible refine r_callv ?_); refine ⟨_, rfl, ?_⟩) | ((with_reducible refine r_setD ?_); refine ⟨_, _, rfl, rfl, rfl, ?_⟩) | ((with_reducible refine r_popD ?_); refine ⟨_, _, rfl, ?_⟩)) | with_reducible refine ex_bool ?_ | with_reducible refine ex_eq ?_ | with_reducible refine ex_lt ?_ | with_reducible refine ex_le ?_ | with_reducible refine ex_gt ?_ | with_reducible refine ex_add ?_ | with_reducible refine ex_sub ?_ | ((with_reducible refine ex_mod ?_ ?_); (· first | assumption | decide)) | ((with_reducible refine ex_mulR ?_ ?_); · decide) | ((with_reducible refine ex_mulL ?_ ?_); · decide) | ((with_reducible refine ex_pow ?_ ?_ ?_); (· decide); (· first | omega | decide)) | ((with_reducible refine ex_fdiv ?_ ?_ ?_); (· first | assumption | decide); (· first | assumption | decide)) | ((with_reducible refine ex_get ?_); refine ⟨_, rfl, ?_⟩; (try dsimp only)) | ((with_reducible refine ex_len ?_ ?_); (· exact Nat.le_of_ble_eq_true rfl)) | ((with_reducible refine ex_plain ?_); refine ⟨_, rfl, Nat.le_of_ble_eq_true rfl, ?_⟩; (try dsimp only)))
  refine ifB (fun e => ?_) (fun e => ?_)
  · subst e
    refine wp_eq (a := .p (.bool true)) (S := [o0, o1, o2, o3, o4, o5, o6, o7, o8]) (by kernel_rfl) ?_
    exact ⟨_, rfl, rfl, rfl⟩
  · subst e
    exact ⟨_, rfl, rfl, rfl⟩
theorem kind9 (o0 o1 o2 o3 o4 o5 o6 o7 o8 : MO) (rows : List PyData) (h : Int) (b : Bool) (hw : calK fs 10 16 [.p (way1 rows h)] [o0, o1, o2, o3, o4, o5, o6, o7, o8] = .val (.p (.bool b)) [o0, o1, o2, o3, o4, o5, o6, o7, o8]) : calK fs 13 8 [.p (unit1 rows h)] [o0, o1, o2, o3, o4, o5, o6, o7, o8] = .val (.p (.bool b)) [o0, o1, o2, o3, o4, o5, o6, o7, o8] := by
  refine wp_val ?_
  show wp (callF (calK fs 12) ⟨1, 7, b8⟩ _ _) _ _
  refine call_wp rfl ?_
  unfold b8
  (with_reducible refine ss_consR ?_)
  refine wp_eq (a := (.next, [some (.p (unit1 rows h)), none, none, none, none, none, none])) (S := [o0, o1, o2, o3, o4, o5, o6, o7, o8]) (by kernel_rfl) ?_
  dsimp only
  (with_reducible refine ss_consR ?_)
  refine wp_eq (a := (.next, [some (.p (unit1 rows h)), some (.p (.str "kind")), some (.p (.str "Own")), some (.p (.str "")), some (.p (.tuple [])), some (.p (.tuple [])), some (.p (.tuple [way1 rows h]))])) (S := [o0, o1, o2, o3, o4, o5, o6, o7, o8]) (by kernel_rfl) ?_
  dsimp only
  (with_reducible refine ss_consR ?_)
  refine s_retR ?_
  refine r_and ?_
  refine wp_eq (a := .p (.bool true)) (S := [o0, o1, o2, o3, o4, o5, o6, o7, o8]) (by kernel_rfl) ⟨true, rfl, ifT ?_⟩
  refine r_and ?_
  refine wp_eq (a := .p (.bool true)) (S := [o0, o1, o2, o3, o4, o5, o6, o7, o8]) (by kernel_rfl) ⟨true, rfl, ifT ?_⟩
  refine r_and ?_
  refine wp_eq (a := .p (.bool true)) (S := [o0, o1, o2, o3, o4, o5, o6, o7, o8]) (by kernel_rfl) ⟨true, rfl, ifT ?_⟩
  refine r_and ?_
  refine wp_eq (a := .p (.bool true)) (S := [o0, o1, o2, o3, o4, o5, o6, o7, o8]) (by kernel_rfl) ⟨true, rfl, ifT ?_⟩
  repeat (first | (first | ((with_reducible refine r_var ?_); refine ⟨_, rfl, ?_⟩) | with_reducible refine r_cst ?_ | with_reducible refine r_bin ?_ | with_reducible refine r_cmp ?_ | with_reducible refine r_chain ?_ | with_reducible refine r_and ?_ | with_reducible refine r_or ?_ | with_reducible refine r_not ?_ | with_reducible refine r_idx ?_ | with_reducible refine r_idxL ?_ | with_reducible refine r_slice ?_ | with_reducible refine r_len ?_ | with_reducible refine r_isi ?_ | with_reducible refine r_toInt ?_ | with_reducible refine r_all ?_ | with_reducible refine r_tupOf ?_ | with_reducible refine r_wget ?_ | with_reducible refine r_dictOf ?_ | with_reducible refine r_lenset ?_ | with_reducible refine r_call ?_ | with_reducible refine r_tup ?_ | with_reducible refine r_nil ?_ | with_reducible refine r_cons ?_ | with_reducible refine r_disp ?_ | with_reducible refine r_lst ?_ | with_reducible refine r_cat ?_ | with_reducible refine r_of ?_ | with_reducible refine r_eqL ?_ | with_reducible refine r_pop ?_ | with_reducible refine s_asgR ?_ | with_reducible refine s_setR ?_ | with_reducible refine s_retR ?_ | with_reducible refine s_iteR ?_ | with_reducible refine s_unpR ?_ | with_reducible refine ss_nilR ?_ | ((with_reducible refine r_callv ?_); refine ⟨_, rfl, ?_⟩) | ((with_reducible refine r_setD ?_); refine ⟨_, _, rfl, rfl, rfl, ?_⟩) | ((with_reducible refine r_popD ?_); refine ⟨_, _, rfl, ?_⟩)) | with_reducible refine ex_bool ?_ | with_reducible refine ex_eq ?_ | with_reducible refine ex_lt ?_ | with_reducible refine ex_le ?_ | with_reducible refine ex_gt ?_ | with_reducible refine ex_add ?_ | with_reducible refine ex_sub ?_ | ((with_reducible refine ex_mod ?_ ?_); (· first | assumption | decide)) | ((with_reducible refine ex_mulR ?_ ?_); · decide) | ((with_reducible refine ex_mulL ?_ ?_); · decide) | ((with_reducible refine ex_pow ?_ ?_ ?_); (· decide); (· first | omega | decide)) | ((with_reducible refine ex_fdiv ?_ ?_ ?_); (· first | assumption | decide); (· first | assumption | decide)) | ((with_reducible refine ex_get ?_); refine ⟨_, rfl, ?_⟩; (try dsimp only)) | ((with_reducible refine ex_len ?_ ?_); (· exact Nat.le_of_ble_eq_true rfl)) | ((with_reducible refine ex_plain ?_); refine ⟨_, rfl, Nat.le_of_ble_eq_true rfl, ?_⟩; (try dsimp only)))
  refine wp_eq (named9 o0 o1 o2 o3 o4 o5 o6 o7 o8 rows h b hw) ?_
  exact ⟨_, rfl, rfl, rfl⟩
theorem unit9 (o0 o1 o2 o3 o4 o5 o6 o7 o8 : MO) (rows : List PyData) (h : Int) (b : Bool) (hw : calK fs 10 16 [.p (way1 rows h)] [o0, o1, o2, o3, o4, o5, o6, o7, o8] = .val (.p (.bool b)) [o0, o1, o2, o3, o4, o5, o6, o7, o8]) : calK fs 14 7 [.p (unit1 rows h)] [o0, o1, o2, o3, o4, o5, o6, o7, o8] = .val (.p (.bool b)) [o0, o1, o2, o3, o4, o5, o6, o7, o8] := by
  refine wp_val ?_
  show wp (callF (calK fs 13) ⟨1, 1, b7⟩ _ _) _ _
  refine call_wp rfl ?_
  unfold b7
  (with_reducible refine ss_consR ?_); repeat (first | (first | ((with_reducible refine r_var ?_); refine ⟨_, rfl, ?_⟩) | with_reducible refine r_cst ?_ | with_reducible refine r_bin ?_ | with_reducible refine r_cmp ?_ | with_reducible refine r_chain ?_ | with_reducible refine r_and ?_ | with_reducible refine r_or ?_ | with_reducible refine r_not ?_ | with_reducible refine r_idx ?_ | with_reducible refine r_idxL ?_ | with_reducible refine r_slice ?_ | with_reducible refine r_len ?_ | with_reducible refine r_isi ?_ | with_reducible refine r_toInt ?_ | with_reducible refine r_all ?_ | with_reducible refine r_tupOf ?_ | with_reducible refine r_wget ?_ | with_reducible refine r_dictOf ?_ | with_reducible refine r_lenset ?_ | with_reducible refine r_call ?_ | with_reducible refine r_tup ?_ | with_reducible refine r_nil ?_ | with_reducible refine r_cons ?_ | with_reducible refine r_disp ?_ | with_reducible refine r_lst ?_ | with_reducible refine r_cat ?_ | with_reducible refine r_of ?_ | with_reducible refine r_eqL ?_ | with_reducible refine r_pop ?_ | with_reducible refine s_asgR ?_ | with_reducible refine s_setR ?_ | with_reducible refine s_retR ?_ | with_reducible refine s_iteR ?_ | with_reducible refine s_unpR ?_ | with_reducible refine ss_nilR ?_ | ((with_reducible refine r_callv ?_); refine ⟨_, rfl, ?_⟩) | ((with_reducible refine r_setD ?_); refine ⟨_, _, rfl, rfl, rfl, ?_⟩) | ((with_reducible refine r_popD ?_); refine ⟨_, _, rfl, ?_⟩)) | with_reducible refine ex_bool ?_ | with_reducible refine ex_eq ?_ | with_reducible refine ex_lt ?_ | with_reducible refine ex_le ?_ | with_reducible refine ex_gt ?_ | with_reducible refine ex_add ?_ | with_reducible refine ex_sub ?_ | ((with_reducible refine ex_mod ?_ ?_); (· first | assumption | decide)) | ((with_reducible refine ex_mulR ?_ ?_); · decide) | ((with_reducible refine ex_mulL ?_ ?_); · decide) | ((with_reducible refine ex_pow ?_ ?_ ?_); (· decide); (· first | omega | decide)) | ((with_reducible refine ex_fdiv ?_ ?_ ?_); (· first | assumption | decide); (· first | assumption | decide)) | ((with_reducible refine ex_get ?_); refine ⟨_, rfl, ?_⟩; (try dsimp only)) | ((with_reducible refine ex_len ?_ ?_); (· exact Nat.le_of_ble_eq_true rfl)) | ((with_reducible refine ex_plain ?_); refine ⟨_, rfl, Nat.le_of_ble_eq_true rfl, ?_⟩; (try dsimp only)))
  refine wp_eq (kind9 o0 o1 o2 o3 o4 o5 o6 o7 o8 rows h b hw) ?_
  repeat (first | (first | ((with_reducible refine r_var ?_); refine ⟨_, rfl, ?_⟩) | with_reducible refine r_cst ?_ | with_reducible refine r_bin ?_ | with_reducible refine r_cmp ?_ | with_reducible refine r_chain ?_ | with_reducible refine r_and ?_ | with_reducible refine r_or ?_ | with_reducible refine r_not ?_ | with_reducible refine r_idx ?_ | with_reducible refine r_idxL ?_ | with_reducible refine r_slice ?_ | with_reducible refine r_len ?_ | with_reducible refine r_isi ?_ | with_reducible refine r_toInt ?_ | with_reducible refine r_all ?_ | with_reducible refine r_tupOf ?_ | with_reducible refine r_wget ?_ | with_reducible refine r_dictOf ?_ | with_reducible refine r_lenset ?_ | with_reducible refine r_call ?_ | with_reducible refine r_tup ?_ | with_reducible refine r_nil ?_ | with_reducible refine r_cons ?_ | with_reducible refine r_disp ?_ | with_reducible refine r_lst ?_ | with_reducible refine r_cat ?_ | with_reducible refine r_of ?_ | with_reducible refine r_eqL ?_ | with_reducible refine r_pop ?_ | with_reducible refine s_asgR ?_ | with_reducible refine s_setR ?_ | with_reducible refine s_retR ?_ | with_reducible refine s_iteR ?_ | with_reducible refine s_unpR ?_ | with_reducible refine ss_nilR ?_ | ((with_reducible refine r_callv ?_); refine ⟨_, rfl, ?_⟩) | ((with_reducible refine r_setD ?_); refine ⟨_, _, rfl, rfl, rfl, ?_⟩) | ((with_reducible refine r_popD ?_); refine ⟨_, _, rfl, ?_⟩)) | with_reducible refine ex_bool ?_ | with_reducible refine ex_eq ?_ | with_reducible refine ex_lt ?_ | with_reducible refine ex_le ?_ | with_reducible refine ex_gt ?_ | with_reducible refine ex_add ?_ | with_reducible refine ex_sub ?_ | ((with_reducible refine ex_mod ?_ ?_); (· first | assumption | decide)) | ((with_reducible refine ex_mulR ?_ ?_); · decide) | ((with_reducible refine ex_mulL ?_ ?_); · decide) | ((with_reducible refine ex_pow ?_ ?_ ?_); (· decide); (· first | omega | decide)) | ((with_reducible refine ex_fdiv ?_ ?_ ?_); (· first | assumption | decide); (· first | assumption | decide)) | ((with_reducible refine ex_get ?_); refine ⟨_, rfl, ?_⟩; (try dsimp only)) | ((with_reducible refine ex_len ?_ ?_); (· exact Nat.le_of_ble_eq_true rfl)) | ((with_reducible refine ex_plain ?_); refine ⟨_, rfl, Nat.le_of_ble_eq_true rfl, ?_⟩; (try dsimp only)))
  refine ifB (fun e => ?_) (fun e => ?_)
  · subst e
    exact ⟨_, rfl, rfl, rfl⟩
  · subst e
    repeat (first | (first | ((with_reducible refine r_var ?_); refine ⟨_, rfl, ?_⟩) | with_reducible refine r_cst ?_ | with_reducible refine r_bin ?_ | with_reducible refine r_cmp ?_ | with_reducible refine r_chain ?_ | with_reducible refine r_and ?_ | with_reducible refine r_or ?_ | with_reducible refine r_not ?_ | with_reducible refine r_idx ?_ | with_reducible refine r_idxL ?_ | with_reducible refine r_slice ?_ | with_reducible refine r_len ?_ | with_reducible refine r_isi ?_ | with_reducible refine r_toInt ?_ | with_reducible refine r_all ?_ | with_reducible refine r_tupOf ?_ | with_reducible refine r_wget ?_ | with_reducible refine r_dictOf ?_ | with_reducible refine r_lenset ?_ | with_reducible refine r_call ?_ | with_reducible refine r_tup ?_ | with_reducible refine r_nil ?_ | with_reducible refine r_cons ?_ | with_reducible refine r_disp ?_ | with_reducible refine r_lst ?_ | with_reducible refine r_cat ?_ | with_reducible refine r_of ?_ | with_reducible refine r_eqL ?_ | with_reducible refine r_pop ?_ | with_reducible refine s_asgR ?_ | with_reducible refine s_setR ?_ | with_reducible refine s_retR ?_ | with_reducible refine s_iteR ?_ | with_reducible refine s_unpR ?_ | with_reducible refine ss_nilR ?_ | ((with_reducible refine r_callv ?_); refine ⟨_, rfl, ?_⟩) | ((with_reducible refine r_setD ?_); refine ⟨_, _, rfl, rfl, rfl, ?_⟩) | ((with_reducible refine r_popD ?_); refine ⟨_, _, rfl, ?_⟩)) | with_reducible refine ex_bool ?_ | with_reducible refine ex_eq ?_ | with_reducible refine ex_lt ?_ | with_reducible refine ex_le ?_ | with_reducible refine ex_gt ?_ | with_reducible refine ex_add ?_ | with_reducible refine ex_sub ?_ | ((with_reducible refine ex_mod ?_ ?_); (· first | assumption | decide)) | ((with_reducible refine ex_mulR ?_ ?_); · decide) | ((with_reducible refine ex_mulL ?_ ?_); · decide) | ((with_reducible refine ex_pow ?_ ?_ ?_); (· decide); (· first | omega | decide)) | ((with_reducible refine ex_fdiv ?_ ?_ ?_); (· first | assumption | decide); (· first | assumption | decide)) | ((with_reducible refine ex_get ?_); refine ⟨_, rfl, ?_⟩; (try dsimp only)) | ((with_reducible refine ex_len ?_ ?_); (· exact Nat.le_of_ble_eq_true rfl)) | ((with_reducible refine ex_plain ?_); refine ⟨_, rfl, Nat.le_of_ble_eq_true rfl, ?_⟩; (try dsimp only)))
    refine wp_eq (a := .p (.bool false)) (S := [o0, o1, o2, o3, o4, o5, o6, o7, o8]) (by kernel_rfl) ?_
    exact ⟨_, rfl, rfl, rfl⟩
end Ir.K72
set_option Elab.async false
set_option linter.all false
set_option maxRecDepth 100000
set_option maxHeartbeats 4000001
namespace Ir.K72
open PySem PySem.W
theorem paired_rows : ∀ {ds es : List D}, Paired (fun _ e => ∃ row, e = D.p row ∧ RowOk row) ds es → ∃ rows : List PyData, es = rows.map D.p ∧ (∀ r ∈ rows, RowOk r) ∧ rows.length = ds.length
  | _, _, .nil => ⟨[], rfl, (fun _ h => by cases h), rfl⟩
  | _, _, .cons h r => by
    obtain ⟨row, e, ok⟩ := h
    obtain ⟨rows, e1, h1, h2⟩ := paired_rows r
    subst e
    refine ⟨row :: rows, by rw [e1]; rfl, fun x hx => ?_, by simp [h2]⟩
    rcases List.mem_cons.mp hx with q | q
    · rw [q]; exact ok
    · exact h1 x q
def wordsD : List D := words.map fun w => .p (.str w)
abbrev wordsP : PyData := .tuple [.str "ask", .str "say", .str "drop", .str "twin", .str "turn", .str "plus", .str "minus", .str "times", .str "part", .str "same", .str "give", .str "throw", .str "num", .str "get", .str "put", .str "fits", .str "new", .str "read", .str "write", .str "call", .str "hail", .str "jump", .str "nought"]
theorem word_at (r : Int) (h0 : 0 ≤ r) (h1 : r < 23) (S : Sto) : ∃ w, w ∈ words ∧ getI S (.p wordsP) (.p (.int r)) = some (.p (.str w)) := by
  obtain ⟨n, rfl⟩ := Int.eq_ofNat_of_zero_le h0
  have hn : n < 23 := by omega
  have hw : n < words.length := by
    have e : words.length = 23 := by decide +kernel
    omega
  refine ⟨words[n], List.getElem_mem hw, ?_⟩
  rcases (by omega : n = 0 ∨ n = 1 ∨ n = 2 ∨ n = 3 ∨ n = 4 ∨ n = 5 ∨ n = 6 ∨ n = 7 ∨ n = 8 ∨ n = 9 ∨ n = 10 ∨ n = 11 ∨ n = 12 ∨ n = 13 ∨ n = 14 ∨ n = 15 ∨ n = 16 ∨ n = 17 ∨ n = 18 ∨ n = 19 ∨ n = 20 ∨ n = 21 ∨ n = 22) with rfl | rfl | rfl | rfl | rfl | rfl | rfl | rfl | rfl | rfl | rfl | rfl | rfl | rfl | rfl | rfl | rfl | rfl | rfl | rfl | rfl | rfl | rfl <;> kernel_rfl
theorem build_ok {S : Sto} {j : Nat} {rows : List PyData} (h : Int) (hS : S[j]? = some (.lst (rows.map .p))) : calK fs 14 24 [.ref j, .p (.int h)] S = .val (.p (unit1 rows h)) S := by
  refine wp_val ?_
  show wp (callF (calK fs 13) ⟨2, 2, b24⟩ _ _) _ _
  refine call_wp rfl ?_
  unfold b24
  (with_reducible refine ss_consR ?_); repeat (first | (first | ((with_reducible refine r_var ?_); refine ⟨_, rfl, ?_⟩) | with_reducible refine r_cst ?_ | with_reducible refine r_bin ?_ | with_reducible refine r_cmp ?_ | with_reducible refine r_chain ?_ | with_reducible refine r_and ?_ | with_reducible refine r_or ?_ | with_reducible refine r_not ?_ | with_reducible refine r_idx ?_ | with_reducible refine r_idxL ?_ | with_reducible refine r_slice ?_ | with_reducible refine r_len ?_ | with_reducible refine r_isi ?_ | with_reducible refine r_toInt ?_ | with_reducible refine r_all ?_ | with_reducible refine r_tupOf ?_ | with_reducible refine r_wget ?_ | with_reducible refine r_dictOf ?_ | with_reducible refine r_lenset ?_ | with_reducible refine r_call ?_ | with_reducible refine r_tup ?_ | with_reducible refine r_nil ?_ | with_reducible refine r_cons ?_ | with_reducible refine r_disp ?_ | with_reducible refine r_lst ?_ | with_reducible refine r_cat ?_ | with_reducible refine r_of ?_ | with_reducible refine r_eqL ?_ | with_reducible refine r_pop ?_ | with_reducible refine s_asgR ?_ | with_reducible refine s_setR ?_ | with_reducible refine s_retR ?_ | with_reducible refine s_iteR ?_ | with_reducible refine s_unpR ?_ | with_reducible refine ss_nilR ?_ | ((with_reducible refine r_callv ?_); refine ⟨_, rfl, ?_⟩) | ((with_reducible refine r_setD ?_); refine ⟨_, _, rfl, rfl, rfl, ?_⟩) | ((with_reducible refine r_popD ?_); refine ⟨_, _, rfl, ?_⟩)) | with_reducible refine ex_bool ?_ | with_reducible refine ex_eq ?_ | with_reducible refine ex_lt ?_ | with_reducible refine ex_le ?_ | with_reducible refine ex_gt ?_ | with_reducible refine ex_add ?_ | with_reducible refine ex_sub ?_ | ((with_reducible refine ex_mod ?_ ?_); (· first | assumption | decide)) | ((with_reducible refine ex_mulR ?_ ?_); · decide) | ((with_reducible refine ex_mulL ?_ ?_); · decide) | ((with_reducible refine ex_pow ?_ ?_ ?_); (· decide); (· first | omega | decide)) | ((with_reducible refine ex_fdiv ?_ ?_ ?_); (· first | assumption | decide); (· first | assumption | decide)) | ((with_reducible refine ex_get ?_); refine ⟨_, rfl, ?_⟩; (try dsimp only)) | ((with_reducible refine ex_len ?_ ?_); (· exact Nat.le_of_ble_eq_true rfl)) | ((with_reducible refine ex_plain ?_); refine ⟨_, rfl, Nat.le_of_ble_eq_true rfl, ?_⟩; (try dsimp only)))
  refine ⟨.p (.tuple rows), ?_, ?_⟩
  · unfold tupD lstAt
    simp only [hS]
    show (plainOf (rows.map D.p)).map (fun ps => D.p (.tuple ps)) = _
    rw [plain_of]
    rfl
  · repeat (first | (first | ((with_reducible refine r_var ?_); refine ⟨_, rfl, ?_⟩) | with_reducible refine r_cst ?_ | with_reducible refine r_bin ?_ | with_reducible refine r_cmp ?_ | with_reducible refine r_chain ?_ | with_reducible refine r_and ?_ | with_reducible refine r_or ?_ | with_reducible refine r_not ?_ | with_reducible refine r_idx ?_ | with_reducible refine r_idxL ?_ | with_reducible refine r_slice ?_ | with_reducible refine r_len ?_ | with_reducible refine r_isi ?_ | with_reducible refine r_toInt ?_ | with_reducible refine r_all ?_ | with_reducible refine r_tupOf ?_ | with_reducible refine r_wget ?_ | with_reducible refine r_dictOf ?_ | with_reducible refine r_lenset ?_ | with_reducible refine r_call ?_ | with_reducible refine r_tup ?_ | with_reducible refine r_nil ?_ | with_reducible refine r_cons ?_ | with_reducible refine r_disp ?_ | with_reducible refine r_lst ?_ | with_reducible refine r_cat ?_ | with_reducible refine r_of ?_ | with_reducible refine r_eqL ?_ | with_reducible refine r_pop ?_ | with_reducible refine s_asgR ?_ | with_reducible refine s_setR ?_ | with_reducible refine s_retR ?_ | with_reducible refine s_iteR ?_ | with_reducible refine s_unpR ?_ | with_reducible refine ss_nilR ?_ | ((with_reducible refine r_callv ?_); refine ⟨_, rfl, ?_⟩) | ((with_reducible refine r_setD ?_); refine ⟨_, _, rfl, rfl, rfl, ?_⟩) | ((with_reducible refine r_popD ?_); refine ⟨_, _, rfl, ?_⟩)) | with_reducible refine ex_bool ?_ | with_reducible refine ex_eq ?_ | with_reducible refine ex_lt ?_ | with_reducible refine ex_le ?_ | with_reducible refine ex_gt ?_ | with_reducible refine ex_add ?_ | with_reducible refine ex_sub ?_ | ((with_reducible refine ex_mod ?_ ?_); (· first | assumption | decide)) | ((with_reducible refine ex_mulR ?_ ?_); · decide) | ((with_reducible refine ex_mulL ?_ ?_); · decide) | ((with_reducible refine ex_pow ?_ ?_ ?_); (· decide); (· first | omega | decide)) | ((with_reducible refine ex_fdiv ?_ ?_ ?_); (· first | assumption | decide); (· first | assumption | decide)) | ((with_reducible refine ex_get ?_); refine ⟨_, rfl, ?_⟩; (try dsimp only)) | ((with_reducible refine ex_len ?_ ?_); (· exact Nat.le_of_ble_eq_true rfl)) | ((with_reducible refine ex_plain ?_); refine ⟨_, rfl, Nat.le_of_ble_eq_true rfl, ?_⟩; (try dsimp only)))
    exact ⟨_, rfl, rfl, List.take_length⟩
theorem cat_ok {S : Sto} {i j : Nat} {xs ys : List PyData} (hi : S[i]? = some (.lst (xs.map .p))) (hj : S[j]? = some (.lst (ys.map .p))) (hl : xs.length + ys.length ≤ 100000) : catD S (.ref i) (.ref j) = some ((xs ++ ys).map .p) := by
  unfold catD lstAt
  simp only [hi, hj]
  show (if (xs.map D.p).length + (ys.map D.p).length ≤ 100000 then some (xs.map D.p ++ ys.map D.p) else none) = _
  rw [if_pos (by rw [List.length_map, List.length_map]; exact hl), List.map_append]
theorem r_rng {cal : Nat → List D → M D} {ρ : Sl} {S : Sto} {e : E} {okI : Src → Sto → Prop} {ex : Ex → Sto → Prop} (h : wp (evE cal e ρ S) (fun x S1 => ∃ z, srcRng x = some z ∧ okI z S1) ex) : wp (evI cal (.rng e) ρ S) okI ex :=
  wpB (wp_mono h (fun x S1 ⟨z, e, k⟩ => wpO e k) fun _ _ z => z)
abbrev told : MO := .lst [.p (.int 1000000000000), .p (.int 8), .p (.int 8), .p (.int 40), .p (.int 16), .p (.int 30), .p (.int 200), .p (.int 400)]
abbrev sc (ns : List Int) : D := .p (.list (ns.map .int))
abbrev tx1 : Str := "ask say drop twin turn plus minus times part same give throw num get put fits new"
abbrev tx : Str := tx1 ++ (" read write call hail jump nought" : Str)
abbrev l2 (ns : List Int) : Sl := [some (sc ns), some (.ref 1), some (.ref 2), none, none, none, none, none, none]
abbrev l3 (ns : List Int) (z : Str) : Sl := [some (sc ns), some (.ref 1), some (.ref 2), some (.p (.str z)), none, none, none, none, none]
abbrev l4 (ns : List Int) (z : Str) : Sl := [some (sc ns), some (.ref 1), some (.ref 2), some (.p (.str z)), some (.ref 3), none, none, none, none]
abbrev l5 (ns : List Int) (z : Str) : Sl := [some (sc ns), some (.ref 1), some (.ref 2), some (.p (.str z)), some (.ref 3), some (.ref 4), none, none, none]
/-- the statement at a place of a body -/
def stAt : Nat → Ss → Option St
  | _, .nil => none
  | 0, .cons s _ => some s
  | n + 1, .cons _ r => stAt n r
def dropS : Nat → Ss → Ss
  | 0, s => s
  | _, .nil => .nil
  | n + 1, .cons _ r => dropS n r
def okL (c : Ctl × Sl) (_ : Sto) : Prop := c.1 = .ret (.p (.bool true))
/-- from the units on -/
theorem law_end (ns : List Int) (z : Str) (A B : MO) (rows more : List PyData) (h1 : ∀ r ∈ rows, RowOk r) (h2 : ∀ r ∈ more, RowOk r) (e1 : rows.length = 23) (e2 : more.length = 17) :
    Ok (wp (exSs (calK fs 14) (dropS 8 b25) (l5 ns z) [A, B, told, .lst (rows.map .p), .lst (more.map .p)]) okL (fun _ _ => False)) := by
  refine ⟨?_⟩
  have hrm : ∀ r ∈ rows ++ more, RowOk r := fun r hr => (List.mem_append.mp hr).elim (h1 r) (h2 r)
  have hl40 : (rows ++ more).length = 40 := by rw [List.length_append, e1, e2]
  unfold b25
  dsimp only [dropS]
  (with_reducible refine ss_consR ?_)
  repeat (first | (first | ((with_reducible refine r_var ?_); refine ⟨_, rfl, ?_⟩) | with_reducible refine r_cst ?_ | with_reducible refine r_bin ?_ | with_reducible refine r_cmp ?_ | with_reducible refine r_chain ?_ | with_reducible refine r_and ?_ | with_reducible refine r_or ?_ | with_reducible refine r_not ?_ | with_reducible refine r_idx ?_ | with_reducible refine r_idxL ?_ | with_reducible refine r_slice ?_ | with_reducible refine r_len ?_ | with_reducible refine r_isi ?_ | with_reducible refine r_toInt ?_ | with_reducible refine r_all ?_ | with_reducible refine r_tupOf ?_ | with_reducible refine r_wget ?_ | with_reducible refine r_dictOf ?_ | with_reducible refine r_lenset ?_ | with_reducible refine r_call ?_ | with_reducible refine r_tup ?_ | with_reducible refine r_nil ?_ | with_reducible refine r_cons ?_ | with_reducible refine r_disp ?_ | with_reducible refine r_lst ?_ | with_reducible refine r_cat ?_ | with_reducible refine r_of ?_ | with_reducible refine r_eqL ?_ | with_reducible refine r_pop ?_ | with_reducible refine s_asgR ?_ | with_reducible refine s_setR ?_ | with_reducible refine s_retR ?_ | with_reducible refine s_iteR ?_ | with_reducible refine s_unpR ?_ | with_reducible refine ss_nilR ?_ | ((with_reducible refine r_callv ?_); refine ⟨_, rfl, ?_⟩) | ((with_reducible refine r_setD ?_); refine ⟨_, _, rfl, rfl, rfl, ?_⟩) | ((with_reducible refine r_popD ?_); refine ⟨_, _, rfl, ?_⟩)) | with_reducible refine ex_bool ?_ | with_reducible refine ex_eq ?_ | with_reducible refine ex_lt ?_ | with_reducible refine ex_le ?_ | with_reducible refine ex_gt ?_ | with_reducible refine ex_add ?_ | with_reducible refine ex_sub ?_ | ((with_reducible refine ex_mod ?_ ?_); (· first | assumption | decide)) | ((with_reducible refine ex_mulR ?_ ?_); · decide) | ((with_reducible refine ex_mulL ?_ ?_); · decide) | ((with_reducible refine ex_pow ?_ ?_ ?_); (· decide); (· first | omega | decide)) | ((with_reducible refine ex_fdiv ?_ ?_ ?_); (· first | assumption | decide); (· first | assumption | decide)) | ((with_reducible refine ex_get ?_); refine ⟨_, rfl, ?_⟩; (try dsimp only)) | ((with_reducible refine ex_len ?_ ?_); (· exact Nat.le_of_ble_eq_true rfl)) | ((with_reducible refine ex_plain ?_); refine ⟨_, rfl, Nat.le_of_ble_eq_true rfl, ?_⟩; (try dsimp only)))
  refine ⟨_, cat_ok (xs := rows) (ys := more) rfl rfl (by omega), ?_⟩
  refine wp_eq (show alloc (.lst ((rows ++ more).map D.p)) ([A, B, told, .lst (rows.map D.p), .lst (more.map D.p)] : Sto) = .val (.ref 5) [A, B, told, .lst (rows.map D.p), .lst (more.map D.p), .lst ((rows ++ more).map D.p)] from alloc_plain _ _) ?_
  repeat (first | (first | ((with_reducible refine r_var ?_); refine ⟨_, rfl, ?_⟩) | with_reducible refine r_cst ?_ | with_reducible refine r_bin ?_ | with_reducible refine r_cmp ?_ | with_reducible refine r_chain ?_ | with_reducible refine r_and ?_ | with_reducible refine r_or ?_ | with_reducible refine r_not ?_ | with_reducible refine r_idx ?_ | with_reducible refine r_idxL ?_ | with_reducible refine r_slice ?_ | with_reducible refine r_len ?_ | with_reducible refine r_isi ?_ | with_reducible refine r_toInt ?_ | with_reducible refine r_all ?_ | with_reducible refine r_tupOf ?_ | with_reducible refine r_wget ?_ | with_reducible refine r_dictOf ?_ | with_reducible refine r_lenset ?_ | with_reducible refine r_call ?_ | with_reducible refine r_tup ?_ | with_reducible refine r_nil ?_ | with_reducible refine r_cons ?_ | with_reducible refine r_disp ?_ | with_reducible refine r_lst ?_ | with_reducible refine r_cat ?_ | with_reducible refine r_of ?_ | with_reducible refine r_eqL ?_ | with_reducible refine r_pop ?_ | with_reducible refine s_asgR ?_ | with_reducible refine s_setR ?_ | with_reducible refine s_retR ?_ | with_reducible refine s_iteR ?_ | with_reducible refine s_unpR ?_ | with_reducible refine ss_nilR ?_ | ((with_reducible refine r_callv ?_); refine ⟨_, rfl, ?_⟩) | ((with_reducible refine r_setD ?_); refine ⟨_, _, rfl, rfl, rfl, ?_⟩) | ((with_reducible refine r_popD ?_); refine ⟨_, _, rfl, ?_⟩)) | with_reducible refine ex_bool ?_ | with_reducible refine ex_eq ?_ | with_reducible refine ex_lt ?_ | with_reducible refine ex_le ?_ | with_reducible refine ex_gt ?_ | with_reducible refine ex_add ?_ | with_reducible refine ex_sub ?_ | ((with_reducible refine ex_mod ?_ ?_); (· first | assumption | decide)) | ((with_reducible refine ex_mulR ?_ ?_); · decide) | ((with_reducible refine ex_mulL ?_ ?_); · decide) | ((with_reducible refine ex_pow ?_ ?_ ?_); (· decide); (· first | omega | decide)) | ((with_reducible refine ex_fdiv ?_ ?_ ?_); (· first | assumption | decide); (· first | assumption | decide)) | ((with_reducible refine ex_get ?_); refine ⟨_, rfl, ?_⟩; (try dsimp only)) | ((with_reducible refine ex_len ?_ ?_); (· exact Nat.le_of_ble_eq_true rfl)) | ((with_reducible refine ex_plain ?_); refine ⟨_, rfl, Nat.le_of_ble_eq_true rfl, ?_⟩; (try dsimp only)))
  refine wp_eq (build_ok (rows := rows ++ more) 8 rfl) ?_
  repeat (first | (first | ((with_reducible refine r_var ?_); refine ⟨_, rfl, ?_⟩) | with_reducible refine r_cst ?_ | with_reducible refine r_bin ?_ | with_reducible refine r_cmp ?_ | with_reducible refine r_chain ?_ | with_reducible refine r_and ?_ | with_reducible refine r_or ?_ | with_reducible refine r_not ?_ | with_reducible refine r_idx ?_ | with_reducible refine r_idxL ?_ | with_reducible refine r_slice ?_ | with_reducible refine r_len ?_ | with_reducible refine r_isi ?_ | with_reducible refine r_toInt ?_ | with_reducible refine r_all ?_ | with_reducible refine r_tupOf ?_ | with_reducible refine r_wget ?_ | with_reducible refine r_dictOf ?_ | with_reducible refine r_lenset ?_ | with_reducible refine r_call ?_ | with_reducible refine r_tup ?_ | with_reducible refine r_nil ?_ | with_reducible refine r_cons ?_ | with_reducible refine r_disp ?_ | with_reducible refine r_lst ?_ | with_reducible refine r_cat ?_ | with_reducible refine r_of ?_ | with_reducible refine r_eqL ?_ | with_reducible refine r_pop ?_ | with_reducible refine s_asgR ?_ | with_reducible refine s_setR ?_ | with_reducible refine s_retR ?_ | with_reducible refine s_iteR ?_ | with_reducible refine s_unpR ?_ | with_reducible refine ss_nilR ?_ | ((with_reducible refine r_callv ?_); refine ⟨_, rfl, ?_⟩) | ((with_reducible refine r_setD ?_); refine ⟨_, _, rfl, rfl, rfl, ?_⟩) | ((with_reducible refine r_popD ?_); refine ⟨_, _, rfl, ?_⟩)) | with_reducible refine ex_bool ?_ | with_reducible refine ex_eq ?_ | with_reducible refine ex_lt ?_ | with_reducible refine ex_le ?_ | with_reducible refine ex_gt ?_ | with_reducible refine ex_add ?_ | with_reducible refine ex_sub ?_ | ((with_reducible refine ex_mod ?_ ?_); (· first | assumption | decide)) | ((with_reducible refine ex_mulR ?_ ?_); · decide) | ((with_reducible refine ex_mulL ?_ ?_); · decide) | ((with_reducible refine ex_pow ?_ ?_ ?_); (· decide); (· first | omega | decide)) | ((with_reducible refine ex_fdiv ?_ ?_ ?_); (· first | assumption | decide); (· first | assumption | decide)) | ((with_reducible refine ex_get ?_); refine ⟨_, rfl, ?_⟩; (try dsimp only)) | ((with_reducible refine ex_len ?_ ?_); (· exact Nat.le_of_ble_eq_true rfl)) | ((with_reducible refine ex_plain ?_); refine ⟨_, rfl, Nat.le_of_ble_eq_true rfl, ?_⟩; (try dsimp only)))
  refine wp_eq (unit6 A B told (.lst (rows.map D.p)) (.lst (more.map D.p)) (.lst ((rows ++ more).map D.p)) (rows ++ more) 8 true (way_true _ _ _ _ _ _ _ hrm hl40)) ?_
  repeat (first | (first | ((with_reducible refine r_var ?_); refine ⟨_, rfl, ?_⟩) | with_reducible refine r_cst ?_ | with_reducible refine r_bin ?_ | with_reducible refine r_cmp ?_ | with_reducible refine r_chain ?_ | with_reducible refine r_and ?_ | with_reducible refine r_or ?_ | with_reducible refine r_not ?_ | with_reducible refine r_idx ?_ | with_reducible refine r_idxL ?_ | with_reducible refine r_slice ?_ | with_reducible refine r_len ?_ | with_reducible refine r_isi ?_ | with_reducible refine r_toInt ?_ | with_reducible refine r_all ?_ | with_reducible refine r_tupOf ?_ | with_reducible refine r_wget ?_ | with_reducible refine r_dictOf ?_ | with_reducible refine r_lenset ?_ | with_reducible refine r_call ?_ | with_reducible refine r_tup ?_ | with_reducible refine r_nil ?_ | with_reducible refine r_cons ?_ | with_reducible refine r_disp ?_ | with_reducible refine r_lst ?_ | with_reducible refine r_cat ?_ | with_reducible refine r_of ?_ | with_reducible refine r_eqL ?_ | with_reducible refine r_pop ?_ | with_reducible refine s_asgR ?_ | with_reducible refine s_setR ?_ | with_reducible refine s_retR ?_ | with_reducible refine s_iteR ?_ | with_reducible refine s_unpR ?_ | with_reducible refine ss_nilR ?_ | ((with_reducible refine r_callv ?_); refine ⟨_, rfl, ?_⟩) | ((with_reducible refine r_setD ?_); refine ⟨_, _, rfl, rfl, rfl, ?_⟩) | ((with_reducible refine r_popD ?_); refine ⟨_, _, rfl, ?_⟩)) | with_reducible refine ex_bool ?_ | with_reducible refine ex_eq ?_ | with_reducible refine ex_lt ?_ | with_reducible refine ex_le ?_ | with_reducible refine ex_gt ?_ | with_reducible refine ex_add ?_ | with_reducible refine ex_sub ?_ | ((with_reducible refine ex_mod ?_ ?_); (· first | assumption | decide)) | ((with_reducible refine ex_mulR ?_ ?_); · decide) | ((with_reducible refine ex_mulL ?_ ?_); · decide) | ((with_reducible refine ex_pow ?_ ?_ ?_); (· decide); (· first | omega | decide)) | ((with_reducible refine ex_fdiv ?_ ?_ ?_); (· first | assumption | decide); (· first | assumption | decide)) | ((with_reducible refine ex_get ?_); refine ⟨_, rfl, ?_⟩; (try dsimp only)) | ((with_reducible refine ex_len ?_ ?_); (· exact Nat.le_of_ble_eq_true rfl)) | ((with_reducible refine ex_plain ?_); refine ⟨_, rfl, Nat.le_of_ble_eq_true rfl, ?_⟩; (try dsimp only)))
  refine ⟨false, rfl, ?_⟩
  refine ⟨false, rfl, ?_⟩
  refine ifF ?_
  repeat (first | (first | ((with_reducible refine r_var ?_); refine ⟨_, rfl, ?_⟩) | with_reducible refine r_cst ?_ | with_reducible refine r_bin ?_ | with_reducible refine r_cmp ?_ | with_reducible refine r_chain ?_ | with_reducible refine r_and ?_ | with_reducible refine r_or ?_ | with_reducible refine r_not ?_ | with_reducible refine r_idx ?_ | with_reducible refine r_idxL ?_ | with_reducible refine r_slice ?_ | with_reducible refine r_len ?_ | with_reducible refine r_isi ?_ | with_reducible refine r_toInt ?_ | with_reducible refine r_all ?_ | with_reducible refine r_tupOf ?_ | with_reducible refine r_wget ?_ | with_reducible refine r_dictOf ?_ | with_reducible refine r_lenset ?_ | with_reducible refine r_call ?_ | with_reducible refine r_tup ?_ | with_reducible refine r_nil ?_ | with_reducible refine r_cons ?_ | with_reducible refine r_disp ?_ | with_reducible refine r_lst ?_ | with_reducible refine r_cat ?_ | with_reducible refine r_of ?_ | with_reducible refine r_eqL ?_ | with_reducible refine r_pop ?_ | with_reducible refine s_asgR ?_ | with_reducible refine s_setR ?_ | with_reducible refine s_retR ?_ | with_reducible refine s_iteR ?_ | with_reducible refine s_unpR ?_ | with_reducible refine ss_nilR ?_ | ((with_reducible refine r_callv ?_); refine ⟨_, rfl, ?_⟩) | ((with_reducible refine r_setD ?_); refine ⟨_, _, rfl, rfl, rfl, ?_⟩) | ((with_reducible refine r_popD ?_); refine ⟨_, _, rfl, ?_⟩)) | with_reducible refine ex_bool ?_ | with_reducible refine ex_eq ?_ | with_reducible refine ex_lt ?_ | with_reducible refine ex_le ?_ | with_reducible refine ex_gt ?_ | with_reducible refine ex_add ?_ | with_reducible refine ex_sub ?_ | ((with_reducible refine ex_mod ?_ ?_); (· first | assumption | decide)) | ((with_reducible refine ex_mulR ?_ ?_); · decide) | ((with_reducible refine ex_mulL ?_ ?_); · decide) | ((with_reducible refine ex_pow ?_ ?_ ?_); (· decide); (· first | omega | decide)) | ((with_reducible refine ex_fdiv ?_ ?_ ?_); (· first | assumption | decide); (· first | assumption | decide)) | ((with_reducible refine ex_get ?_); refine ⟨_, rfl, ?_⟩; (try dsimp only)) | ((with_reducible refine ex_len ?_ ?_); (· exact Nat.le_of_ble_eq_true rfl)) | ((with_reducible refine ex_plain ?_); refine ⟨_, rfl, Nat.le_of_ble_eq_true rfl, ?_⟩; (try dsimp only)))
  refine wp_eq (build_ok (rows := rows) (8 + 1) rfl) ?_
  repeat (first | (first | ((with_reducible refine r_var ?_); refine ⟨_, rfl, ?_⟩) | with_reducible refine r_cst ?_ | with_reducible refine r_bin ?_ | with_reducible refine r_cmp ?_ | with_reducible refine r_chain ?_ | with_reducible refine r_and ?_ | with_reducible refine r_or ?_ | with_reducible refine r_not ?_ | with_reducible refine r_idx ?_ | with_reducible refine r_idxL ?_ | with_reducible refine r_slice ?_ | with_reducible refine r_len ?_ | with_reducible refine r_isi ?_ | with_reducible refine r_toInt ?_ | with_reducible refine r_all ?_ | with_reducible refine r_tupOf ?_ | with_reducible refine r_wget ?_ | with_reducible refine r_dictOf ?_ | with_reducible refine r_lenset ?_ | with_reducible refine r_call ?_ | with_reducible refine r_tup ?_ | with_reducible refine r_nil ?_ | with_reducible refine r_cons ?_ | with_reducible refine r_disp ?_ | with_reducible refine r_lst ?_ | with_reducible refine r_cat ?_ | with_reducible refine r_of ?_ | with_reducible refine r_eqL ?_ | with_reducible refine r_pop ?_ | with_reducible refine s_asgR ?_ | with_reducible refine s_setR ?_ | with_reducible refine s_retR ?_ | with_reducible refine s_iteR ?_ | with_reducible refine s_unpR ?_ | with_reducible refine ss_nilR ?_ | ((with_reducible refine r_callv ?_); refine ⟨_, rfl, ?_⟩) | ((with_reducible refine r_setD ?_); refine ⟨_, _, rfl, rfl, rfl, ?_⟩) | ((with_reducible refine r_popD ?_); refine ⟨_, _, rfl, ?_⟩)) | with_reducible refine ex_bool ?_ | with_reducible refine ex_eq ?_ | with_reducible refine ex_lt ?_ | with_reducible refine ex_le ?_ | with_reducible refine ex_gt ?_ | with_reducible refine ex_add ?_ | with_reducible refine ex_sub ?_ | ((with_reducible refine ex_mod ?_ ?_); (· first | assumption | decide)) | ((with_reducible refine ex_mulR ?_ ?_); · decide) | ((with_reducible refine ex_mulL ?_ ?_); · decide) | ((with_reducible refine ex_pow ?_ ?_ ?_); (· decide); (· first | omega | decide)) | ((with_reducible refine ex_fdiv ?_ ?_ ?_); (· first | assumption | decide); (· first | assumption | decide)) | ((with_reducible refine ex_get ?_); refine ⟨_, rfl, ?_⟩; (try dsimp only)) | ((with_reducible refine ex_len ?_ ?_); (· exact Nat.le_of_ble_eq_true rfl)) | ((with_reducible refine ex_plain ?_); refine ⟨_, rfl, Nat.le_of_ble_eq_true rfl, ?_⟩; (try dsimp only)))
  refine wp_eq (unit6 A B told (.lst (rows.map D.p)) (.lst (more.map D.p)) (.lst ((rows ++ more).map D.p)) rows 9 false (way_nine _ _ _ _ _ _ _ e1)) ?_
  repeat (first | (first | ((with_reducible refine r_var ?_); refine ⟨_, rfl, ?_⟩) | with_reducible refine r_cst ?_ | with_reducible refine r_bin ?_ | with_reducible refine r_cmp ?_ | with_reducible refine r_chain ?_ | with_reducible refine r_and ?_ | with_reducible refine r_or ?_ | with_reducible refine r_not ?_ | with_reducible refine r_idx ?_ | with_reducible refine r_idxL ?_ | with_reducible refine r_slice ?_ | with_reducible refine r_len ?_ | with_reducible refine r_isi ?_ | with_reducible refine r_toInt ?_ | with_reducible refine r_all ?_ | with_reducible refine r_tupOf ?_ | with_reducible refine r_wget ?_ | with_reducible refine r_dictOf ?_ | with_reducible refine r_lenset ?_ | with_reducible refine r_call ?_ | with_reducible refine r_tup ?_ | with_reducible refine r_nil ?_ | with_reducible refine r_cons ?_ | with_reducible refine r_disp ?_ | with_reducible refine r_lst ?_ | with_reducible refine r_cat ?_ | with_reducible refine r_of ?_ | with_reducible refine r_eqL ?_ | with_reducible refine r_pop ?_ | with_reducible refine s_asgR ?_ | with_reducible refine s_setR ?_ | with_reducible refine s_retR ?_ | with_reducible refine s_iteR ?_ | with_reducible refine s_unpR ?_ | with_reducible refine ss_nilR ?_ | ((with_reducible refine r_callv ?_); refine ⟨_, rfl, ?_⟩) | ((with_reducible refine r_setD ?_); refine ⟨_, _, rfl, rfl, rfl, ?_⟩) | ((with_reducible refine r_popD ?_); refine ⟨_, _, rfl, ?_⟩)) | with_reducible refine ex_bool ?_ | with_reducible refine ex_eq ?_ | with_reducible refine ex_lt ?_ | with_reducible refine ex_le ?_ | with_reducible refine ex_gt ?_ | with_reducible refine ex_add ?_ | with_reducible refine ex_sub ?_ | ((with_reducible refine ex_mod ?_ ?_); (· first | assumption | decide)) | ((with_reducible refine ex_mulR ?_ ?_); · decide) | ((with_reducible refine ex_mulL ?_ ?_); · decide) | ((with_reducible refine ex_pow ?_ ?_ ?_); (· decide); (· first | omega | decide)) | ((with_reducible refine ex_fdiv ?_ ?_ ?_); (· first | assumption | decide); (· first | assumption | decide)) | ((with_reducible refine ex_get ?_); refine ⟨_, rfl, ?_⟩; (try dsimp only)) | ((with_reducible refine ex_len ?_ ?_); (· exact Nat.le_of_ble_eq_true rfl)) | ((with_reducible refine ex_plain ?_); refine ⟨_, rfl, Nat.le_of_ble_eq_true rfl, ?_⟩; (try dsimp only)))
  refine ⟨false, rfl, ?_⟩
  refine ⟨false, rfl, ?_⟩
  refine ifF ?_
  repeat (first | (first | ((with_reducible refine r_var ?_); refine ⟨_, rfl, ?_⟩) | with_reducible refine r_cst ?_ | with_reducible refine r_bin ?_ | with_reducible refine r_cmp ?_ | with_reducible refine r_chain ?_ | with_reducible refine r_and ?_ | with_reducible refine r_or ?_ | with_reducible refine r_not ?_ | with_reducible refine r_idx ?_ | with_reducible refine r_idxL ?_ | with_reducible refine r_slice ?_ | with_reducible refine r_len ?_ | with_reducible refine r_isi ?_ | with_reducible refine r_toInt ?_ | with_reducible refine r_all ?_ | with_reducible refine r_tupOf ?_ | with_reducible refine r_wget ?_ | with_reducible refine r_dictOf ?_ | with_reducible refine r_lenset ?_ | with_reducible refine r_call ?_ | with_reducible refine r_tup ?_ | with_reducible refine r_nil ?_ | with_reducible refine r_cons ?_ | with_reducible refine r_disp ?_ | with_reducible refine r_lst ?_ | with_reducible refine r_cat ?_ | with_reducible refine r_of ?_ | with_reducible refine r_eqL ?_ | with_reducible refine r_pop ?_ | with_reducible refine s_asgR ?_ | with_reducible refine s_setR ?_ | with_reducible refine s_retR ?_ | with_reducible refine s_iteR ?_ | with_reducible refine s_unpR ?_ | with_reducible refine ss_nilR ?_ | ((with_reducible refine r_callv ?_); refine ⟨_, rfl, ?_⟩) | ((with_reducible refine r_setD ?_); refine ⟨_, _, rfl, rfl, rfl, ?_⟩) | ((with_reducible refine r_popD ?_); refine ⟨_, _, rfl, ?_⟩)) | with_reducible refine ex_bool ?_ | with_reducible refine ex_eq ?_ | with_reducible refine ex_lt ?_ | with_reducible refine ex_le ?_ | with_reducible refine ex_gt ?_ | with_reducible refine ex_add ?_ | with_reducible refine ex_sub ?_ | ((with_reducible refine ex_mod ?_ ?_); (· first | assumption | decide)) | ((with_reducible refine ex_mulR ?_ ?_); · decide) | ((with_reducible refine ex_mulL ?_ ?_); · decide) | ((with_reducible refine ex_pow ?_ ?_ ?_); (· decide); (· first | omega | decide)) | ((with_reducible refine ex_fdiv ?_ ?_ ?_); (· first | assumption | decide); (· first | assumption | decide)) | ((with_reducible refine ex_get ?_); refine ⟨_, rfl, ?_⟩; (try dsimp only)) | ((with_reducible refine ex_len ?_ ?_); (· exact Nat.le_of_ble_eq_true rfl)) | ((with_reducible refine ex_plain ?_); refine ⟨_, rfl, Nat.le_of_ble_eq_true rfl, ?_⟩; (try dsimp only)))
  (with_reducible refine ss_consR ?_)
  repeat (first | (first | ((with_reducible refine r_var ?_); refine ⟨_, rfl, ?_⟩) | with_reducible refine r_cst ?_ | with_reducible refine r_bin ?_ | with_reducible refine r_cmp ?_ | with_reducible refine r_chain ?_ | with_reducible refine r_and ?_ | with_reducible refine r_or ?_ | with_reducible refine r_not ?_ | with_reducible refine r_idx ?_ | with_reducible refine r_idxL ?_ | with_reducible refine r_slice ?_ | with_reducible refine r_len ?_ | with_reducible refine r_isi ?_ | with_reducible refine r_toInt ?_ | with_reducible refine r_all ?_ | with_reducible refine r_tupOf ?_ | with_reducible refine r_wget ?_ | with_reducible refine r_dictOf ?_ | with_reducible refine r_lenset ?_ | with_reducible refine r_call ?_ | with_reducible refine r_tup ?_ | with_reducible refine r_nil ?_ | with_reducible refine r_cons ?_ | with_reducible refine r_disp ?_ | with_reducible refine r_lst ?_ | with_reducible refine r_cat ?_ | with_reducible refine r_of ?_ | with_reducible refine r_eqL ?_ | with_reducible refine r_pop ?_ | with_reducible refine s_asgR ?_ | with_reducible refine s_setR ?_ | with_reducible refine s_retR ?_ | with_reducible refine s_iteR ?_ | with_reducible refine s_unpR ?_ | with_reducible refine ss_nilR ?_ | ((with_reducible refine r_callv ?_); refine ⟨_, rfl, ?_⟩) | ((with_reducible refine r_setD ?_); refine ⟨_, _, rfl, rfl, rfl, ?_⟩) | ((with_reducible refine r_popD ?_); refine ⟨_, _, rfl, ?_⟩)) | with_reducible refine ex_bool ?_ | with_reducible refine ex_eq ?_ | with_reducible refine ex_lt ?_ | with_reducible refine ex_le ?_ | with_reducible refine ex_gt ?_ | with_reducible refine ex_add ?_ | with_reducible refine ex_sub ?_ | ((with_reducible refine ex_mod ?_ ?_); (· first | assumption | decide)) | ((with_reducible refine ex_mulR ?_ ?_); · decide) | ((with_reducible refine ex_mulL ?_ ?_); · decide) | ((with_reducible refine ex_pow ?_ ?_ ?_); (· decide); (· first | omega | decide)) | ((with_reducible refine ex_fdiv ?_ ?_ ?_); (· first | assumption | decide); (· first | assumption | decide)) | ((with_reducible refine ex_get ?_); refine ⟨_, rfl, ?_⟩; (try dsimp only)) | ((with_reducible refine ex_len ?_ ?_); (· exact Nat.le_of_ble_eq_true rfl)) | ((with_reducible refine ex_plain ?_); refine ⟨_, rfl, Nat.le_of_ble_eq_true rfl, ?_⟩; (try dsimp only)))
  refine ⟨_, cat_ok (xs := rows) (ys := more) rfl rfl (by omega), ?_⟩
  refine wp_eq (show alloc (.lst ((rows ++ more).map D.p)) ([A, B, told, .lst (rows.map D.p), .lst (more.map D.p), .lst ((rows ++ more).map D.p)] : Sto) = .val (.ref 6) [A, B, told, .lst (rows.map D.p), .lst (more.map D.p), .lst ((rows ++ more).map D.p), .lst ((rows ++ more).map D.p)] from alloc_plain _ _) ?_
  repeat (first | (first | ((with_reducible refine r_var ?_); refine ⟨_, rfl, ?_⟩) | with_reducible refine r_cst ?_ | with_reducible refine r_bin ?_ | with_reducible refine r_cmp ?_ | with_reducible refine r_chain ?_ | with_reducible refine r_and ?_ | with_reducible refine r_or ?_ | with_reducible refine r_not ?_ | with_reducible refine r_idx ?_ | with_reducible refine r_idxL ?_ | with_reducible refine r_slice ?_ | with_reducible refine r_len ?_ | with_reducible refine r_isi ?_ | with_reducible refine r_toInt ?_ | with_reducible refine r_all ?_ | with_reducible refine r_tupOf ?_ | with_reducible refine r_wget ?_ | with_reducible refine r_dictOf ?_ | with_reducible refine r_lenset ?_ | with_reducible refine r_call ?_ | with_reducible refine r_tup ?_ | with_reducible refine r_nil ?_ | with_reducible refine r_cons ?_ | with_reducible refine r_disp ?_ | with_reducible refine r_lst ?_ | with_reducible refine r_cat ?_ | with_reducible refine r_of ?_ | with_reducible refine r_eqL ?_ | with_reducible refine r_pop ?_ | with_reducible refine s_asgR ?_ | with_reducible refine s_setR ?_ | with_reducible refine s_retR ?_ | with_reducible refine s_iteR ?_ | with_reducible refine s_unpR ?_ | with_reducible refine ss_nilR ?_ | ((with_reducible refine r_callv ?_); refine ⟨_, rfl, ?_⟩) | ((with_reducible refine r_setD ?_); refine ⟨_, _, rfl, rfl, rfl, ?_⟩) | ((with_reducible refine r_popD ?_); refine ⟨_, _, rfl, ?_⟩)) | with_reducible refine ex_bool ?_ | with_reducible refine ex_eq ?_ | with_reducible refine ex_lt ?_ | with_reducible refine ex_le ?_ | with_reducible refine ex_gt ?_ | with_reducible refine ex_add ?_ | with_reducible refine ex_sub ?_ | ((with_reducible refine ex_mod ?_ ?_); (· first | assumption | decide)) | ((with_reducible refine ex_mulR ?_ ?_); · decide) | ((with_reducible refine ex_mulL ?_ ?_); · decide) | ((with_reducible refine ex_pow ?_ ?_ ?_); (· decide); (· first | omega | decide)) | ((with_reducible refine ex_fdiv ?_ ?_ ?_); (· first | assumption | decide); (· first | assumption | decide)) | ((with_reducible refine ex_get ?_); refine ⟨_, rfl, ?_⟩; (try dsimp only)) | ((with_reducible refine ex_len ?_ ?_); (· exact Nat.le_of_ble_eq_true rfl)) | ((with_reducible refine ex_plain ?_); refine ⟨_, rfl, Nat.le_of_ble_eq_true rfl, ?_⟩; (try dsimp only)))
  refine wp_eq (show alloc (.lst ([PyData.tuple [.str "ask"]].map D.p)) ([A, B, told, .lst (rows.map D.p), .lst (more.map D.p), .lst ((rows ++ more).map D.p), .lst ((rows ++ more).map D.p)] : Sto) = .val (.ref 7) [A, B, told, .lst (rows.map D.p), .lst (more.map D.p), .lst ((rows ++ more).map D.p), .lst ((rows ++ more).map D.p), .lst [.p (.tuple [.str "ask"])]] from alloc_plain _ _) ?_
  refine ⟨_, cat_ok (xs := rows ++ more) (ys := [.tuple [.str "ask"]]) rfl rfl (by rw [hl40]; decide), ?_⟩
  refine wp_eq (show alloc (.lst (((rows ++ more) ++ [PyData.tuple [.str "ask"]]).map D.p)) ([A, B, told, .lst (rows.map D.p), .lst (more.map D.p), .lst ((rows ++ more).map D.p), .lst ((rows ++ more).map D.p), .lst [.p (.tuple [.str "ask"])]] : Sto) = .val (.ref 8) [A, B, told, .lst (rows.map D.p), .lst (more.map D.p), .lst ((rows ++ more).map D.p), .lst ((rows ++ more).map D.p), .lst [.p (.tuple [.str "ask"])], .lst (((rows ++ more) ++ [PyData.tuple [.str "ask"]]).map D.p)] from alloc_plain _ _) ?_
  repeat (first | (first | ((with_reducible refine r_var ?_); refine ⟨_, rfl, ?_⟩) | with_reducible refine r_cst ?_ | with_reducible refine r_bin ?_ | with_reducible refine r_cmp ?_ | with_reducible refine r_chain ?_ | with_reducible refine r_and ?_ | with_reducible refine r_or ?_ | with_reducible refine r_not ?_ | with_reducible refine r_idx ?_ | with_reducible refine r_idxL ?_ | with_reducible refine r_slice ?_ | with_reducible refine r_len ?_ | with_reducible refine r_isi ?_ | with_reducible refine r_toInt ?_ | with_reducible refine r_all ?_ | with_reducible refine r_tupOf ?_ | with_reducible refine r_wget ?_ | with_reducible refine r_dictOf ?_ | with_reducible refine r_lenset ?_ | with_reducible refine r_call ?_ | with_reducible refine r_tup ?_ | with_reducible refine r_nil ?_ | with_reducible refine r_cons ?_ | with_reducible refine r_disp ?_ | with_reducible refine r_lst ?_ | with_reducible refine r_cat ?_ | with_reducible refine r_of ?_ | with_reducible refine r_eqL ?_ | with_reducible refine r_pop ?_ | with_reducible refine s_asgR ?_ | with_reducible refine s_setR ?_ | with_reducible refine s_retR ?_ | with_reducible refine s_iteR ?_ | with_reducible refine s_unpR ?_ | with_reducible refine ss_nilR ?_ | ((with_reducible refine r_callv ?_); refine ⟨_, rfl, ?_⟩) | ((with_reducible refine r_setD ?_); refine ⟨_, _, rfl, rfl, rfl, ?_⟩) | ((with_reducible refine r_popD ?_); refine ⟨_, _, rfl, ?_⟩)) | with_reducible refine ex_bool ?_ | with_reducible refine ex_eq ?_ | with_reducible refine ex_lt ?_ | with_reducible refine ex_le ?_ | with_reducible refine ex_gt ?_ | with_reducible refine ex_add ?_ | with_reducible refine ex_sub ?_ | ((with_reducible refine ex_mod ?_ ?_); (· first | assumption | decide)) | ((with_reducible refine ex_mulR ?_ ?_); · decide) | ((with_reducible refine ex_mulL ?_ ?_); · decide) | ((with_reducible refine ex_pow ?_ ?_ ?_); (· decide); (· first | omega | decide)) | ((with_reducible refine ex_fdiv ?_ ?_ ?_); (· first | assumption | decide); (· first | assumption | decide)) | ((with_reducible refine ex_get ?_); refine ⟨_, rfl, ?_⟩; (try dsimp only)) | ((with_reducible refine ex_len ?_ ?_); (· exact Nat.le_of_ble_eq_true rfl)) | ((with_reducible refine ex_plain ?_); refine ⟨_, rfl, Nat.le_of_ble_eq_true rfl, ?_⟩; (try dsimp only)))
  refine wp_eq (build_ok (rows := (rows ++ more) ++ [.tuple [.str "ask"]]) 0 rfl) ?_
  repeat (first | (first | ((with_reducible refine r_var ?_); refine ⟨_, rfl, ?_⟩) | with_reducible refine r_cst ?_ | with_reducible refine r_bin ?_ | with_reducible refine r_cmp ?_ | with_reducible refine r_chain ?_ | with_reducible refine r_and ?_ | with_reducible refine r_or ?_ | with_reducible refine r_not ?_ | with_reducible refine r_idx ?_ | with_reducible refine r_idxL ?_ | with_reducible refine r_slice ?_ | with_reducible refine r_len ?_ | with_reducible refine r_isi ?_ | with_reducible refine r_toInt ?_ | with_reducible refine r_all ?_ | with_reducible refine r_tupOf ?_ | with_reducible refine r_wget ?_ | with_reducible refine r_dictOf ?_ | with_reducible refine r_lenset ?_ | with_reducible refine r_call ?_ | with_reducible refine r_tup ?_ | with_reducible refine r_nil ?_ | with_reducible refine r_cons ?_ | with_reducible refine r_disp ?_ | with_reducible refine r_lst ?_ | with_reducible refine r_cat ?_ | with_reducible refine r_of ?_ | with_reducible refine r_eqL ?_ | with_reducible refine r_pop ?_ | with_reducible refine s_asgR ?_ | with_reducible refine s_setR ?_ | with_reducible refine s_retR ?_ | with_reducible refine s_iteR ?_ | with_reducible refine s_unpR ?_ | with_reducible refine ss_nilR ?_ | ((with_reducible refine r_callv ?_); refine ⟨_, rfl, ?_⟩) | ((with_reducible refine r_setD ?_); refine ⟨_, _, rfl, rfl, rfl, ?_⟩) | ((with_reducible refine r_popD ?_); refine ⟨_, _, rfl, ?_⟩)) | with_reducible refine ex_bool ?_ | with_reducible refine ex_eq ?_ | with_reducible refine ex_lt ?_ | with_reducible refine ex_le ?_ | with_reducible refine ex_gt ?_ | with_reducible refine ex_add ?_ | with_reducible refine ex_sub ?_ | ((with_reducible refine ex_mod ?_ ?_); (· first | assumption | decide)) | ((with_reducible refine ex_mulR ?_ ?_); · decide) | ((with_reducible refine ex_mulL ?_ ?_); · decide) | ((with_reducible refine ex_pow ?_ ?_ ?_); (· decide); (· first | omega | decide)) | ((with_reducible refine ex_fdiv ?_ ?_ ?_); (· first | assumption | decide); (· first | assumption | decide)) | ((with_reducible refine ex_get ?_); refine ⟨_, rfl, ?_⟩; (try dsimp only)) | ((with_reducible refine ex_len ?_ ?_); (· exact Nat.le_of_ble_eq_true rfl)) | ((with_reducible refine ex_plain ?_); refine ⟨_, rfl, Nat.le_of_ble_eq_true rfl, ?_⟩; (try dsimp only)))
  have hl41 : ((rows ++ more) ++ [PyData.tuple [.str "ask"]]).length = 41 := by rw [List.length_append, hl40]; rfl
  have hU := unit9 A B told (.lst (rows.map D.p)) (.lst (more.map D.p)) (.lst ((rows ++ more).map D.p)) (.lst ((rows ++ more).map D.p)) (.lst [.p (.tuple [.str "ask"])]) (.lst (((rows ++ more) ++ [PyData.tuple [.str "ask"]]).map D.p)) ((rows ++ more) ++ [.tuple [.str "ask"]]) 0 false (way_more _ _ _ _ _ _ _ _ _ _ _ hl41)
  refine wp_eq hU ?_
  repeat (first | (first | ((with_reducible refine r_var ?_); refine ⟨_, rfl, ?_⟩) | with_reducible refine r_cst ?_ | with_reducible refine r_bin ?_ | with_reducible refine r_cmp ?_ | with_reducible refine r_chain ?_ | with_reducible refine r_and ?_ | with_reducible refine r_or ?_ | with_reducible refine r_not ?_ | with_reducible refine r_idx ?_ | with_reducible refine r_idxL ?_ | with_reducible refine r_slice ?_ | with_reducible refine r_len ?_ | with_reducible refine r_isi ?_ | with_reducible refine r_toInt ?_ | with_reducible refine r_all ?_ | with_reducible refine r_tupOf ?_ | with_reducible refine r_wget ?_ | with_reducible refine r_dictOf ?_ | with_reducible refine r_lenset ?_ | with_reducible refine r_call ?_ | with_reducible refine r_tup ?_ | with_reducible refine r_nil ?_ | with_reducible refine r_cons ?_ | with_reducible refine r_disp ?_ | with_reducible refine r_lst ?_ | with_reducible refine r_cat ?_ | with_reducible refine r_of ?_ | with_reducible refine r_eqL ?_ | with_reducible refine r_pop ?_ | with_reducible refine s_asgR ?_ | with_reducible refine s_setR ?_ | with_reducible refine s_retR ?_ | with_reducible refine s_iteR ?_ | with_reducible refine s_unpR ?_ | with_reducible refine ss_nilR ?_ | ((with_reducible refine r_callv ?_); refine ⟨_, rfl, ?_⟩) | ((with_reducible refine r_setD ?_); refine ⟨_, _, rfl, rfl, rfl, ?_⟩) | ((with_reducible refine r_popD ?_); refine ⟨_, _, rfl, ?_⟩)) | with_reducible refine ex_bool ?_ | with_reducible refine ex_eq ?_ | with_reducible refine ex_lt ?_ | with_reducible refine ex_le ?_ | with_reducible refine ex_gt ?_ | with_reducible refine ex_add ?_ | with_reducible refine ex_sub ?_ | ((with_reducible refine ex_mod ?_ ?_); (· first | assumption | decide)) | ((with_reducible refine ex_mulR ?_ ?_); · decide) | ((with_reducible refine ex_mulL ?_ ?_); · decide) | ((with_reducible refine ex_pow ?_ ?_ ?_); (· decide); (· first | omega | decide)) | ((with_reducible refine ex_fdiv ?_ ?_ ?_); (· first | assumption | decide); (· first | assumption | decide)) | ((with_reducible refine ex_get ?_); refine ⟨_, rfl, ?_⟩; (try dsimp only)) | ((with_reducible refine ex_len ?_ ?_); (· exact Nat.le_of_ble_eq_true rfl)) | ((with_reducible refine ex_plain ?_); refine ⟨_, rfl, Nat.le_of_ble_eq_true rfl, ?_⟩; (try dsimp only)))
  refine ⟨false, rfl, ?_⟩
  repeat (first | (first | ((with_reducible refine r_var ?_); refine ⟨_, rfl, ?_⟩) | with_reducible refine r_cst ?_ | with_reducible refine r_bin ?_ | with_reducible refine r_cmp ?_ | with_reducible refine r_chain ?_ | with_reducible refine r_and ?_ | with_reducible refine r_or ?_ | with_reducible refine r_not ?_ | with_reducible refine r_idx ?_ | with_reducible refine r_idxL ?_ | with_reducible refine r_slice ?_ | with_reducible refine r_len ?_ | with_reducible refine r_isi ?_ | with_reducible refine r_toInt ?_ | with_reducible refine r_all ?_ | with_reducible refine r_tupOf ?_ | with_reducible refine r_wget ?_ | with_reducible refine r_dictOf ?_ | with_reducible refine r_lenset ?_ | with_reducible refine r_call ?_ | with_reducible refine r_tup ?_ | with_reducible refine r_nil ?_ | with_reducible refine r_cons ?_ | with_reducible refine r_disp ?_ | with_reducible refine r_lst ?_ | with_reducible refine r_cat ?_ | with_reducible refine r_of ?_ | with_reducible refine r_eqL ?_ | with_reducible refine r_pop ?_ | with_reducible refine s_asgR ?_ | with_reducible refine s_setR ?_ | with_reducible refine s_retR ?_ | with_reducible refine s_iteR ?_ | with_reducible refine s_unpR ?_ | with_reducible refine ss_nilR ?_ | ((with_reducible refine r_callv ?_); refine ⟨_, rfl, ?_⟩) | ((with_reducible refine r_setD ?_); refine ⟨_, _, rfl, rfl, rfl, ?_⟩) | ((with_reducible refine r_popD ?_); refine ⟨_, _, rfl, ?_⟩)) | with_reducible refine ex_bool ?_ | with_reducible refine ex_eq ?_ | with_reducible refine ex_lt ?_ | with_reducible refine ex_le ?_ | with_reducible refine ex_gt ?_ | with_reducible refine ex_add ?_ | with_reducible refine ex_sub ?_ | ((with_reducible refine ex_mod ?_ ?_); (· first | assumption | decide)) | ((with_reducible refine ex_mulR ?_ ?_); · decide) | ((with_reducible refine ex_mulL ?_ ?_); · decide) | ((with_reducible refine ex_pow ?_ ?_ ?_); (· decide); (· first | omega | decide)) | ((with_reducible refine ex_fdiv ?_ ?_ ?_); (· first | assumption | decide); (· first | assumption | decide)) | ((with_reducible refine ex_get ?_); refine ⟨_, rfl, ?_⟩; (try dsimp only)) | ((with_reducible refine ex_len ?_ ?_); (· exact Nat.le_of_ble_eq_true rfl)) | ((with_reducible refine ex_plain ?_); refine ⟨_, rfl, Nat.le_of_ble_eq_true rfl, ?_⟩; (try dsimp only)))
  refine ifF ?_
  repeat (first | (first | ((with_reducible refine r_var ?_); refine ⟨_, rfl, ?_⟩) | with_reducible refine r_cst ?_ | with_reducible refine r_bin ?_ | with_reducible refine r_cmp ?_ | with_reducible refine r_chain ?_ | with_reducible refine r_and ?_ | with_reducible refine r_or ?_ | with_reducible refine r_not ?_ | with_reducible refine r_idx ?_ | with_reducible refine r_idxL ?_ | with_reducible refine r_slice ?_ | with_reducible refine r_len ?_ | with_reducible refine r_isi ?_ | with_reducible refine r_toInt ?_ | with_reducible refine r_all ?_ | with_reducible refine r_tupOf ?_ | with_reducible refine r_wget ?_ | with_reducible refine r_dictOf ?_ | with_reducible refine r_lenset ?_ | with_reducible refine r_call ?_ | with_reducible refine r_tup ?_ | with_reducible refine r_nil ?_ | with_reducible refine r_cons ?_ | with_reducible refine r_disp ?_ | with_reducible refine r_lst ?_ | with_reducible refine r_cat ?_ | with_reducible refine r_of ?_ | with_reducible refine r_eqL ?_ | with_reducible refine r_pop ?_ | with_reducible refine s_asgR ?_ | with_reducible refine s_setR ?_ | with_reducible refine s_retR ?_ | with_reducible refine s_iteR ?_ | with_reducible refine s_unpR ?_ | with_reducible refine ss_nilR ?_ | ((with_reducible refine r_callv ?_); refine ⟨_, rfl, ?_⟩) | ((with_reducible refine r_setD ?_); refine ⟨_, _, rfl, rfl, rfl, ?_⟩) | ((with_reducible refine r_popD ?_); refine ⟨_, _, rfl, ?_⟩)) | with_reducible refine ex_bool ?_ | with_reducible refine ex_eq ?_ | with_reducible refine ex_lt ?_ | with_reducible refine ex_le ?_ | with_reducible refine ex_gt ?_ | with_reducible refine ex_add ?_ | with_reducible refine ex_sub ?_ | ((with_reducible refine ex_mod ?_ ?_); (· first | assumption | decide)) | ((with_reducible refine ex_mulR ?_ ?_); · decide) | ((with_reducible refine ex_mulL ?_ ?_); · decide) | ((with_reducible refine ex_pow ?_ ?_ ?_); (· decide); (· first | omega | decide)) | ((with_reducible refine ex_fdiv ?_ ?_ ?_); (· first | assumption | decide); (· first | assumption | decide)) | ((with_reducible refine ex_get ?_); refine ⟨_, rfl, ?_⟩; (try dsimp only)) | ((with_reducible refine ex_len ?_ ?_); (· exact Nat.le_of_ble_eq_true rfl)) | ((with_reducible refine ex_plain ?_); refine ⟨_, rfl, Nat.le_of_ble_eq_true rfl, ?_⟩; (try dsimp only)))
  (with_reducible refine ss_consR ?_)
  refine wp_eq (a := (.next, l5 ns z)) (S := [A, B, told, .lst (rows.map D.p), .lst (more.map D.p), .lst ((rows ++ more).map D.p), .lst ((rows ++ more).map D.p), .lst [.p (.tuple [.str "ask"])], .lst (((rows ++ more) ++ [PyData.tuple [.str "ask"]]).map D.p), .lst [.p (.tuple [.str "get", .int 8])]]) (by kernel_rfl) ?_
  dsimp only
  (with_reducible refine ss_consR ?_)
  refine wp_eq (a := (.ret (.p (.bool true)), l5 ns z)) (S := [A, B, told, .lst (rows.map D.p), .lst (more.map D.p), .lst ((rows ++ more).map D.p), .lst ((rows ++ more).map D.p), .lst [.p (.tuple [.str "ask"])], .lst (((rows ++ more) ++ [PyData.tuple [.str "ask"]]).map D.p), .lst [.p (.tuple [.str "get", .int 8])], .lst [.p (.tuple [.str "num", .int 1000000000000])], .lst [.p (.tuple [.str "num", .int (-1000000000001)])]]) (by kernel_rfl) ?_
  exact rfl
end Ir.K72
set_option Elab.async false
set_option linter.all false
set_option maxRecDepth 100000
set_option maxHeartbeats 4000001
namespace Ir.K72
open PySem PySem.W
/-- the rows -/
theorem law_rows (ns : List Int) (z : Str) (S : Sto) (h : dInv 0 [told] S) : Ok (wp (exSs (calK fs 14) (dropS 6 b25) (l3 ns z) S) okL (fun _ _ => False)) := by
  refine ⟨?_⟩
  unfold b25
  dsimp only [dropS]
  (with_reducible refine ss_consR ?_)
  repeat (first | (first | ((with_reducible refine r_var ?_); refine ⟨_, rfl, ?_⟩) | with_reducible refine r_cst ?_ | with_reducible refine r_bin ?_ | with_reducible refine r_cmp ?_ | with_reducible refine r_chain ?_ | with_reducible refine r_and ?_ | with_reducible refine r_or ?_ | with_reducible refine r_not ?_ | with_reducible refine r_idx ?_ | with_reducible refine r_idxL ?_ | with_reducible refine r_slice ?_ | with_reducible refine r_len ?_ | with_reducible refine r_isi ?_ | with_reducible refine r_toInt ?_ | with_reducible refine r_all ?_ | with_reducible refine r_tupOf ?_ | with_reducible refine r_wget ?_ | with_reducible refine r_dictOf ?_ | with_reducible refine r_lenset ?_ | with_reducible refine r_call ?_ | with_reducible refine r_tup ?_ | with_reducible refine r_nil ?_ | with_reducible refine r_cons ?_ | with_reducible refine r_disp ?_ | with_reducible refine r_lst ?_ | with_reducible refine r_cat ?_ | with_reducible refine r_of ?_ | with_reducible refine r_eqL ?_ | with_reducible refine r_pop ?_ | with_reducible refine s_asgR ?_ | with_reducible refine s_setR ?_ | with_reducible refine s_retR ?_ | with_reducible refine s_iteR ?_ | with_reducible refine s_unpR ?_ | with_reducible refine ss_nilR ?_ | ((with_reducible refine r_callv ?_); refine ⟨_, rfl, ?_⟩) | ((with_reducible refine r_setD ?_); refine ⟨_, _, rfl, rfl, rfl, ?_⟩) | ((with_reducible refine r_popD ?_); refine ⟨_, _, rfl, ?_⟩)) | with_reducible refine ex_bool ?_ | with_reducible refine ex_eq ?_ | with_reducible refine ex_lt ?_ | with_reducible refine ex_le ?_ | with_reducible refine ex_gt ?_ | with_reducible refine ex_add ?_ | with_reducible refine ex_sub ?_ | ((with_reducible refine ex_mod ?_ ?_); (· first | assumption | decide)) | ((with_reducible refine ex_mulR ?_ ?_); · decide) | ((with_reducible refine ex_mulL ?_ ?_); · decide) | ((with_reducible refine ex_pow ?_ ?_ ?_); (· decide); (· first | omega | decide)) | ((with_reducible refine ex_fdiv ?_ ?_ ?_); (· first | assumption | decide); (· first | assumption | decide)) | ((with_reducible refine ex_get ?_); refine ⟨_, rfl, ?_⟩; (try dsimp only)) | ((with_reducible refine ex_len ?_ ?_); (· exact Nat.le_of_ble_eq_true rfl)) | ((with_reducible refine ex_plain ?_); refine ⟨_, rfl, Nat.le_of_ble_eq_true rfl, ?_⟩; (try dsimp only)))
  with_reducible refine r_lc ?_
  with_reducible refine wp_eq (a := .fix wordsD) (S := S) (by kernel_rfl) ?_
  refine ⟨wordsD.length, rfl, by decide +kernel, ?_⟩
  have hx := lc_inv (ds := wordsD) (body := fun d => M.calm (match tgt [7] true d (wipeD (l3 ns z) [7]) with
        | some ρ' => evE (calK fs 14) (.call 23 (.cons (.var 1) (.cons (.var 7) .nil))) ρ'
        | none => M.bad)) (fun i S => dInv (2 * i) [told] S) (fun _ e => ∃ row, e = .p row ∧ RowOk row) (fun i d S hd hS => by
      obtain ⟨w, hw, rfl⟩ := map_at hd
      have hw2 := List.mem_of_getElem? hw
      have hi : i < 23 := by
        have := (List.getElem?_eq_some_iff.mp hw).1
        have e : words.length = 23 := by decide +kernel
        omega
      have g : wp (M.calm (evE (calK fs 14) (.call 23 (.cons (.var 1) (.cons (.var 7) .nil))) [some (sc ns), some (.ref 1), some (.ref 2), some (.p (.str z)), none, none, none, some (.p (.str w)), none]) S) (fun e S' => (∃ row, e = .p row ∧ RowOk row) ∧ dInv (2 * (i + 1 : Nat)) [told] S') (fun _ _ => False) := by
        with_reducible refine wpC ?_
        repeat (first | (first | ((with_reducible refine r_var ?_); refine ⟨_, rfl, ?_⟩) | with_reducible refine r_cst ?_ | with_reducible refine r_bin ?_ | with_reducible refine r_cmp ?_ | with_reducible refine r_chain ?_ | with_reducible refine r_and ?_ | with_reducible refine r_or ?_ | with_reducible refine r_not ?_ | with_reducible refine r_idx ?_ | with_reducible refine r_idxL ?_ | with_reducible refine r_slice ?_ | with_reducible refine r_len ?_ | with_reducible refine r_isi ?_ | with_reducible refine r_toInt ?_ | with_reducible refine r_all ?_ | with_reducible refine r_tupOf ?_ | with_reducible refine r_wget ?_ | with_reducible refine r_dictOf ?_ | with_reducible refine r_lenset ?_ | with_reducible refine r_call ?_ | with_reducible refine r_tup ?_ | with_reducible refine r_nil ?_ | with_reducible refine r_cons ?_ | with_reducible refine r_disp ?_ | with_reducible refine r_lst ?_ | with_reducible refine r_cat ?_ | with_reducible refine r_of ?_ | with_reducible refine r_eqL ?_ | with_reducible refine r_pop ?_ | with_reducible refine s_asgR ?_ | with_reducible refine s_setR ?_ | with_reducible refine s_retR ?_ | with_reducible refine s_iteR ?_ | with_reducible refine s_unpR ?_ | with_reducible refine ss_nilR ?_ | ((with_reducible refine r_callv ?_); refine ⟨_, rfl, ?_⟩) | ((with_reducible refine r_setD ?_); refine ⟨_, _, rfl, rfl, rfl, ?_⟩) | ((with_reducible refine r_popD ?_); refine ⟨_, _, rfl, ?_⟩)) | with_reducible refine ex_bool ?_ | with_reducible refine ex_eq ?_ | with_reducible refine ex_lt ?_ | with_reducible refine ex_le ?_ | with_reducible refine ex_gt ?_ | with_reducible refine ex_add ?_ | with_reducible refine ex_sub ?_ | ((with_reducible refine ex_mod ?_ ?_); (· first | assumption | decide)) | ((with_reducible refine ex_mulR ?_ ?_); · decide) | ((with_reducible refine ex_mulL ?_ ?_); · decide) | ((with_reducible refine ex_pow ?_ ?_ ?_); (· decide); (· first | omega | decide)) | ((with_reducible refine ex_fdiv ?_ ?_ ?_); (· first | assumption | decide); (· first | assumption | decide)) | ((with_reducible refine ex_get ?_); refine ⟨_, rfl, ?_⟩; (try dsimp only)) | ((with_reducible refine ex_len ?_ ?_); (· exact Nat.le_of_ble_eq_true rfl)) | ((with_reducible refine ex_plain ?_); refine ⟨_, rfl, Nat.le_of_ble_eq_true rfl, ?_⟩; (try dsimp only)))
        have hd := row_ok (k := 12) hS (by omega) hw2
        with_reducible refine wp_mono hd (fun d S' q => ?_) fun _ _ z => z
        clear hd
        obtain ⟨row, e1, r, hd⟩ := q
        exact ⟨⟨row, e1, r⟩, dInv_mono hd (by omega)⟩
      have g : wp (M.calm (match tgt [7] true (D.p (.str w)) (wipeD (l3 ns z) [7]) with
        | some ρ' => evE (calK fs 14) (.call 23 (.cons (.var 1) (.cons (.var 7) .nil))) ρ'
        | none => M.bad) S) (fun e S' => (∃ row, e = .p row ∧ RowOk row) ∧ dInv (2 * (i + 1 : Nat)) [told] S') (fun _ _ => False) := g
      cases e : M.calm (match tgt [7] true (D.p (.str w)) (wipeD (l3 ns z) [7]) with
        | some ρ' => evE (calK fs 14) (.call 23 (.cons (.var 1) (.cons (.var 7) .nil))) ρ'
        | none => M.bad) S with
      | val a S' => rw [e] at g; exact ⟨a, S', rfl, g.1, g.2⟩
      | exc _ _ => rw [e] at g; exact g.elim
      | bad => rw [e] at g; exact g.elim) wordsD.length 0 [] S (by omega) (dInv_mono h (by decide))
  with_reducible refine Exists.elim hx fun es hx1 => Exists.elim hx1 fun S1 hx2 => ?_
  have q1 := hx2.1
  have q2 := hx2.2.1
  have q3 := hx2.2.2
  with_reducible refine wp_eq q1 ?_
  rw [List.drop_zero] at q2
  obtain ⟨rows, e1, h1, h2⟩ := paired_rows q2
  have hl1 : rows.length = 23 := by rw [h2]; decide +kernel
  rw [List.nil_append, e1]
  with_reducible refine wp_eq (alloc_plain _ _) ?_
  obtain ⟨ms, b, c, e, rfl, c0, c1, e0, e2⟩ := q3
  have c2 : c ≤ 46 := by
    have : (wordsD.length : Int) = 23 := by decide +kernel
    rw [this] at c1
    omega
  have h3 : dInv 46 [told, .lst (rows.map .p)] (dInts ms :: st4 b c e :: [told, .lst (rows.map .p)]) := ⟨ms, b, c, e, rfl, c0, c2, e0, e2⟩
  generalize hS3 : (dInts ms :: st4 b c e :: [told, .lst (rows.map .p)]) = S3 at h3
  have hS3' : (dInts ms :: st4 b c e :: [told]) ++ [.lst (rows.map D.p)] = S3 := hS3
  rw [hS3']
  show wp (exSs (calK fs 14) (dropS 7 b25) (l4 ns z) S3) okL (fun _ _ => False)
  unfold b25
  dsimp only [dropS]
  (with_reducible refine ss_consR ?_)
  repeat (first | (first | ((with_reducible refine r_var ?_); refine ⟨_, rfl, ?_⟩) | with_reducible refine r_cst ?_ | with_reducible refine r_bin ?_ | with_reducible refine r_cmp ?_ | with_reducible refine r_chain ?_ | with_reducible refine r_and ?_ | with_reducible refine r_or ?_ | with_reducible refine r_not ?_ | with_reducible refine r_idx ?_ | with_reducible refine r_idxL ?_ | with_reducible refine r_slice ?_ | with_reducible refine r_len ?_ | with_reducible refine r_isi ?_ | with_reducible refine r_toInt ?_ | with_reducible refine r_all ?_ | with_reducible refine r_tupOf ?_ | with_reducible refine r_wget ?_ | with_reducible refine r_dictOf ?_ | with_reducible refine r_lenset ?_ | with_reducible refine r_call ?_ | with_reducible refine r_tup ?_ | with_reducible refine r_nil ?_ | with_reducible refine r_cons ?_ | with_reducible refine r_disp ?_ | with_reducible refine r_lst ?_ | with_reducible refine r_cat ?_ | with_reducible refine r_of ?_ | with_reducible refine r_eqL ?_ | with_reducible refine r_pop ?_ | with_reducible refine s_asgR ?_ | with_reducible refine s_setR ?_ | with_reducible refine s_retR ?_ | with_reducible refine s_iteR ?_ | with_reducible refine s_unpR ?_ | with_reducible refine ss_nilR ?_ | ((with_reducible refine r_callv ?_); refine ⟨_, rfl, ?_⟩) | ((with_reducible refine r_setD ?_); refine ⟨_, _, rfl, rfl, rfl, ?_⟩) | ((with_reducible refine r_popD ?_); refine ⟨_, _, rfl, ?_⟩)) | with_reducible refine ex_bool ?_ | with_reducible refine ex_eq ?_ | with_reducible refine ex_lt ?_ | with_reducible refine ex_le ?_ | with_reducible refine ex_gt ?_ | with_reducible refine ex_add ?_ | with_reducible refine ex_sub ?_ | ((with_reducible refine ex_mod ?_ ?_); (· first | assumption | decide)) | ((with_reducible refine ex_mulR ?_ ?_); · decide) | ((with_reducible refine ex_mulL ?_ ?_); · decide) | ((with_reducible refine ex_pow ?_ ?_ ?_); (· decide); (· first | omega | decide)) | ((with_reducible refine ex_fdiv ?_ ?_ ?_); (· first | assumption | decide); (· first | assumption | decide)) | ((with_reducible refine ex_get ?_); refine ⟨_, rfl, ?_⟩; (try dsimp only)) | ((with_reducible refine ex_len ?_ ?_); (· exact Nat.le_of_ble_eq_true rfl)) | ((with_reducible refine ex_plain ?_); refine ⟨_, rfl, Nat.le_of_ble_eq_true rfl, ?_⟩; (try dsimp only)))
  with_reducible refine r_lc ?_
  with_reducible refine r_rng ?_
  repeat (first | (first | ((with_reducible refine r_var ?_); refine ⟨_, rfl, ?_⟩) | with_reducible refine r_cst ?_ | with_reducible refine r_bin ?_ | with_reducible refine r_cmp ?_ | with_reducible refine r_chain ?_ | with_reducible refine r_and ?_ | with_reducible refine r_or ?_ | with_reducible refine r_not ?_ | with_reducible refine r_idx ?_ | with_reducible refine r_idxL ?_ | with_reducible refine r_slice ?_ | with_reducible refine r_len ?_ | with_reducible refine r_isi ?_ | with_reducible refine r_toInt ?_ | with_reducible refine r_all ?_ | with_reducible refine r_tupOf ?_ | with_reducible refine r_wget ?_ | with_reducible refine r_dictOf ?_ | with_reducible refine r_lenset ?_ | with_reducible refine r_call ?_ | with_reducible refine r_tup ?_ | with_reducible refine r_nil ?_ | with_reducible refine r_cons ?_ | with_reducible refine r_disp ?_ | with_reducible refine r_lst ?_ | with_reducible refine r_cat ?_ | with_reducible refine r_of ?_ | with_reducible refine r_eqL ?_ | with_reducible refine r_pop ?_ | with_reducible refine s_asgR ?_ | with_reducible refine s_setR ?_ | with_reducible refine s_retR ?_ | with_reducible refine s_iteR ?_ | with_reducible refine s_unpR ?_ | with_reducible refine ss_nilR ?_ | ((with_reducible refine r_callv ?_); refine ⟨_, rfl, ?_⟩) | ((with_reducible refine r_setD ?_); refine ⟨_, _, rfl, rfl, rfl, ?_⟩) | ((with_reducible refine r_popD ?_); refine ⟨_, _, rfl, ?_⟩)) | with_reducible refine ex_bool ?_ | with_reducible refine ex_eq ?_ | with_reducible refine ex_lt ?_ | with_reducible refine ex_le ?_ | with_reducible refine ex_gt ?_ | with_reducible refine ex_add ?_ | with_reducible refine ex_sub ?_ | ((with_reducible refine ex_mod ?_ ?_); (· first | assumption | decide)) | ((with_reducible refine ex_mulR ?_ ?_); · decide) | ((with_reducible refine ex_mulL ?_ ?_); · decide) | ((with_reducible refine ex_pow ?_ ?_ ?_); (· decide); (· first | omega | decide)) | ((with_reducible refine ex_fdiv ?_ ?_ ?_); (· first | assumption | decide); (· first | assumption | decide)) | ((with_reducible refine ex_get ?_); refine ⟨_, rfl, ?_⟩; (try dsimp only)) | ((with_reducible refine ex_len ?_ ?_); (· exact Nat.le_of_ble_eq_true rfl)) | ((with_reducible refine ex_plain ?_); refine ⟨_, rfl, Nat.le_of_ble_eq_true rfl, ?_⟩; (try dsimp only)))
  refine ⟨23, ?_, ?_⟩
  · rw [← hS3]
    show some ((rows.map D.p).length : Int) = some 23
    rw [List.length_map, hl1]
    rfl
  repeat (first | (first | ((with_reducible refine r_var ?_); refine ⟨_, rfl, ?_⟩) | with_reducible refine r_cst ?_ | with_reducible refine r_bin ?_ | with_reducible refine r_cmp ?_ | with_reducible refine r_chain ?_ | with_reducible refine r_and ?_ | with_reducible refine r_or ?_ | with_reducible refine r_not ?_ | with_reducible refine r_idx ?_ | with_reducible refine r_idxL ?_ | with_reducible refine r_slice ?_ | with_reducible refine r_len ?_ | with_reducible refine r_isi ?_ | with_reducible refine r_toInt ?_ | with_reducible refine r_all ?_ | with_reducible refine r_tupOf ?_ | with_reducible refine r_wget ?_ | with_reducible refine r_dictOf ?_ | with_reducible refine r_lenset ?_ | with_reducible refine r_call ?_ | with_reducible refine r_tup ?_ | with_reducible refine r_nil ?_ | with_reducible refine r_cons ?_ | with_reducible refine r_disp ?_ | with_reducible refine r_lst ?_ | with_reducible refine r_cat ?_ | with_reducible refine r_of ?_ | with_reducible refine r_eqL ?_ | with_reducible refine r_pop ?_ | with_reducible refine s_asgR ?_ | with_reducible refine s_setR ?_ | with_reducible refine s_retR ?_ | with_reducible refine s_iteR ?_ | with_reducible refine s_unpR ?_ | with_reducible refine ss_nilR ?_ | ((with_reducible refine r_callv ?_); refine ⟨_, rfl, ?_⟩) | ((with_reducible refine r_setD ?_); refine ⟨_, _, rfl, rfl, rfl, ?_⟩) | ((with_reducible refine r_popD ?_); refine ⟨_, _, rfl, ?_⟩)) | with_reducible refine ex_bool ?_ | with_reducible refine ex_eq ?_ | with_reducible refine ex_lt ?_ | with_reducible refine ex_le ?_ | with_reducible refine ex_gt ?_ | with_reducible refine ex_add ?_ | with_reducible refine ex_sub ?_ | ((with_reducible refine ex_mod ?_ ?_); (· first | assumption | decide)) | ((with_reducible refine ex_mulR ?_ ?_); · decide) | ((with_reducible refine ex_mulL ?_ ?_); · decide) | ((with_reducible refine ex_pow ?_ ?_ ?_); (· decide); (· first | omega | decide)) | ((with_reducible refine ex_fdiv ?_ ?_ ?_); (· first | assumption | decide); (· first | assumption | decide)) | ((with_reducible refine ex_get ?_); refine ⟨_, rfl, ?_⟩; (try dsimp only)) | ((with_reducible refine ex_len ?_ ?_); (· exact Nat.le_of_ble_eq_true rfl)) | ((with_reducible refine ex_plain ?_); refine ⟨_, rfl, Nat.le_of_ble_eq_true rfl, ?_⟩; (try dsimp only)))
  refine ⟨.fix ((List.range 17).map fun (i : Nat) => .p (.int (i : Int))), by kernel_rfl, ?_⟩
  refine ⟨17, rfl, by decide, ?_⟩
  have hy := lc_inv (ds := (List.range 17).map fun (i : Nat) => D.p (.int (i : Int))) (body := fun d => M.calm (match tgt [8] true d (wipeD (l4 ns z) [8]) with
        | some ρ' => evE (calK fs 14) (.call 23 (.cons (.var 1) (.cons (.idx (.cst (.p wordsP)) (.call 22 (.cons (.var 1) (.cons (.len (.cst (.p wordsP))) .nil)))) .nil))) ρ'
        | none => M.bad)) (fun i S => dInv (46 + 3 * i) [told, .lst (rows.map .p)] S) (fun _ e => ∃ row, e = .p row ∧ RowOk row) (fun i d S hd hS => by
      have hi : i < 17 := by
        have := (List.getElem?_eq_some_iff.mp hd).1
        simpa using this
      have g : wp (M.calm (evE (calK fs 14) (.call 23 (.cons (.var 1) (.cons (.idx (.cst (.p wordsP)) (.call 22 (.cons (.var 1) (.cons (.len (.cst (.p wordsP))) .nil)))) .nil))) [some (sc ns), some (.ref 1), some (.ref 2), some (.p (.str z)), some (.ref 3), none, none, none, some d]) S) (fun e S' => (∃ row, e = .p row ∧ RowOk row) ∧ dInv (46 + 3 * (i + 1 : Nat)) [told, .lst (rows.map .p)] S') (fun _ _ => False) := by
        with_reducible refine wpC ?_
        repeat (first | (first | ((with_reducible refine r_var ?_); refine ⟨_, rfl, ?_⟩) | with_reducible refine r_cst ?_ | with_reducible refine r_bin ?_ | with_reducible refine r_cmp ?_ | with_reducible refine r_chain ?_ | with_reducible refine r_and ?_ | with_reducible refine r_or ?_ | with_reducible refine r_not ?_ | with_reducible refine r_idx ?_ | with_reducible refine r_idxL ?_ | with_reducible refine r_slice ?_ | with_reducible refine r_len ?_ | with_reducible refine r_isi ?_ | with_reducible refine r_toInt ?_ | with_reducible refine r_all ?_ | with_reducible refine r_tupOf ?_ | with_reducible refine r_wget ?_ | with_reducible refine r_dictOf ?_ | with_reducible refine r_lenset ?_ | with_reducible refine r_call ?_ | with_reducible refine r_tup ?_ | with_reducible refine r_nil ?_ | with_reducible refine r_cons ?_ | with_reducible refine r_disp ?_ | with_reducible refine r_lst ?_ | with_reducible refine r_cat ?_ | with_reducible refine r_of ?_ | with_reducible refine r_eqL ?_ | with_reducible refine r_pop ?_ | with_reducible refine s_asgR ?_ | with_reducible refine s_setR ?_ | with_reducible refine s_retR ?_ | with_reducible refine s_iteR ?_ | with_reducible refine s_unpR ?_ | with_reducible refine ss_nilR ?_ | ((with_reducible refine r_callv ?_); refine ⟨_, rfl, ?_⟩) | ((with_reducible refine r_setD ?_); refine ⟨_, _, rfl, rfl, rfl, ?_⟩) | ((with_reducible refine r_popD ?_); refine ⟨_, _, rfl, ?_⟩)) | with_reducible refine ex_bool ?_ | with_reducible refine ex_eq ?_ | with_reducible refine ex_lt ?_ | with_reducible refine ex_le ?_ | with_reducible refine ex_gt ?_ | with_reducible refine ex_add ?_ | with_reducible refine ex_sub ?_ | ((with_reducible refine ex_mod ?_ ?_); (· first | assumption | decide)) | ((with_reducible refine ex_mulR ?_ ?_); · decide) | ((with_reducible refine ex_mulL ?_ ?_); · decide) | ((with_reducible refine ex_pow ?_ ?_ ?_); (· decide); (· first | omega | decide)) | ((with_reducible refine ex_fdiv ?_ ?_ ?_); (· first | assumption | decide); (· first | assumption | decide)) | ((with_reducible refine ex_get ?_); refine ⟨_, rfl, ?_⟩; (try dsimp only)) | ((with_reducible refine ex_len ?_ ?_); (· exact Nat.le_of_ble_eq_true rfl)) | ((with_reducible refine ex_plain ?_); refine ⟨_, rfl, Nat.le_of_ble_eq_true rfl, ?_⟩; (try dsimp only)))
        refine ⟨23, by kernel_rfl, ?_⟩
        repeat (first | (first | ((with_reducible refine r_var ?_); refine ⟨_, rfl, ?_⟩) | with_reducible refine r_cst ?_ | with_reducible refine r_bin ?_ | with_reducible refine r_cmp ?_ | with_reducible refine r_chain ?_ | with_reducible refine r_and ?_ | with_reducible refine r_or ?_ | with_reducible refine r_not ?_ | with_reducible refine r_idx ?_ | with_reducible refine r_idxL ?_ | with_reducible refine r_slice ?_ | with_reducible refine r_len ?_ | with_reducible refine r_isi ?_ | with_reducible refine r_toInt ?_ | with_reducible refine r_all ?_ | with_reducible refine r_tupOf ?_ | with_reducible refine r_wget ?_ | with_reducible refine r_dictOf ?_ | with_reducible refine r_lenset ?_ | with_reducible refine r_call ?_ | with_reducible refine r_tup ?_ | with_reducible refine r_nil ?_ | with_reducible refine r_cons ?_ | with_reducible refine r_disp ?_ | with_reducible refine r_lst ?_ | with_reducible refine r_cat ?_ | with_reducible refine r_of ?_ | with_reducible refine r_eqL ?_ | with_reducible refine r_pop ?_ | with_reducible refine s_asgR ?_ | with_reducible refine s_setR ?_ | with_reducible refine s_retR ?_ | with_reducible refine s_iteR ?_ | with_reducible refine s_unpR ?_ | with_reducible refine ss_nilR ?_ | ((with_reducible refine r_callv ?_); refine ⟨_, rfl, ?_⟩) | ((with_reducible refine r_setD ?_); refine ⟨_, _, rfl, rfl, rfl, ?_⟩) | ((with_reducible refine r_popD ?_); refine ⟨_, _, rfl, ?_⟩)) | with_reducible refine ex_bool ?_ | with_reducible refine ex_eq ?_ | with_reducible refine ex_lt ?_ | with_reducible refine ex_le ?_ | with_reducible refine ex_gt ?_ | with_reducible refine ex_add ?_ | with_reducible refine ex_sub ?_ | ((with_reducible refine ex_mod ?_ ?_); (· first | assumption | decide)) | ((with_reducible refine ex_mulR ?_ ?_); · decide) | ((with_reducible refine ex_mulL ?_ ?_); · decide) | ((with_reducible refine ex_pow ?_ ?_ ?_); (· decide); (· first | omega | decide)) | ((with_reducible refine ex_fdiv ?_ ?_ ?_); (· first | assumption | decide); (· first | assumption | decide)) | ((with_reducible refine ex_get ?_); refine ⟨_, rfl, ?_⟩; (try dsimp only)) | ((with_reducible refine ex_len ?_ ?_); (· exact Nat.le_of_ble_eq_true rfl)) | ((with_reducible refine ex_plain ?_); refine ⟨_, rfl, Nat.le_of_ble_eq_true rfl, ?_⟩; (try dsimp only)))
        have hr := draw_ok 13 (many := 23) hS (by omega) (by decide) (by decide)
        with_reducible refine wp_mono hr (fun d S' q => ?_) fun _ _ z => z
        clear hr
        obtain ⟨r, rfl, r0, r1, hd⟩ := q
        obtain ⟨w, hw, ew⟩ := word_at r r0 r1 S'
        refine ⟨_, ew, ?_⟩
        repeat (first | (first | ((with_reducible refine r_var ?_); refine ⟨_, rfl, ?_⟩) | with_reducible refine r_cst ?_ | with_reducible refine r_bin ?_ | with_reducible refine r_cmp ?_ | with_reducible refine r_chain ?_ | with_reducible refine r_and ?_ | with_reducible refine r_or ?_ | with_reducible refine r_not ?_ | with_reducible refine r_idx ?_ | with_reducible refine r_idxL ?_ | with_reducible refine r_slice ?_ | with_reducible refine r_len ?_ | with_reducible refine r_isi ?_ | with_reducible refine r_toInt ?_ | with_reducible refine r_all ?_ | with_reducible refine r_tupOf ?_ | with_reducible refine r_wget ?_ | with_reducible refine r_dictOf ?_ | with_reducible refine r_lenset ?_ | with_reducible refine r_call ?_ | with_reducible refine r_tup ?_ | with_reducible refine r_nil ?_ | with_reducible refine r_cons ?_ | with_reducible refine r_disp ?_ | with_reducible refine r_lst ?_ | with_reducible refine r_cat ?_ | with_reducible refine r_of ?_ | with_reducible refine r_eqL ?_ | with_reducible refine r_pop ?_ | with_reducible refine s_asgR ?_ | with_reducible refine s_setR ?_ | with_reducible refine s_retR ?_ | with_reducible refine s_iteR ?_ | with_reducible refine s_unpR ?_ | with_reducible refine ss_nilR ?_ | ((with_reducible refine r_callv ?_); refine ⟨_, rfl, ?_⟩) | ((with_reducible refine r_setD ?_); refine ⟨_, _, rfl, rfl, rfl, ?_⟩) | ((with_reducible refine r_popD ?_); refine ⟨_, _, rfl, ?_⟩)) | with_reducible refine ex_bool ?_ | with_reducible refine ex_eq ?_ | with_reducible refine ex_lt ?_ | with_reducible refine ex_le ?_ | with_reducible refine ex_gt ?_ | with_reducible refine ex_add ?_ | with_reducible refine ex_sub ?_ | ((with_reducible refine ex_mod ?_ ?_); (· first | assumption | decide)) | ((with_reducible refine ex_mulR ?_ ?_); · decide) | ((with_reducible refine ex_mulL ?_ ?_); · decide) | ((with_reducible refine ex_pow ?_ ?_ ?_); (· decide); (· first | omega | decide)) | ((with_reducible refine ex_fdiv ?_ ?_ ?_); (· first | assumption | decide); (· first | assumption | decide)) | ((with_reducible refine ex_get ?_); refine ⟨_, rfl, ?_⟩; (try dsimp only)) | ((with_reducible refine ex_len ?_ ?_); (· exact Nat.le_of_ble_eq_true rfl)) | ((with_reducible refine ex_plain ?_); refine ⟨_, rfl, Nat.le_of_ble_eq_true rfl, ?_⟩; (try dsimp only)))
        have hr := row_ok (k := 12) hd (by omega) hw
        with_reducible refine wp_mono hr (fun d S' q => ?_) fun _ _ z => z
        clear hr
        obtain ⟨row, e1, r, hd⟩ := q
        exact ⟨⟨row, e1, r⟩, dInv_mono hd (by omega)⟩
      have g : wp (M.calm (match tgt [8] true d (wipeD (l4 ns z) [8]) with
        | some ρ' => evE (calK fs 14) (.call 23 (.cons (.var 1) (.cons (.idx (.cst (.p wordsP)) (.call 22 (.cons (.var 1) (.cons (.len (.cst (.p wordsP))) .nil)))) .nil))) ρ'
        | none => M.bad) S) (fun e S' => (∃ row, e = .p row ∧ RowOk row) ∧ dInv (46 + 3 * (i + 1 : Nat)) [told, .lst (rows.map .p)] S') (fun _ _ => False) := g
      cases e : M.calm (match tgt [8] true d (wipeD (l4 ns z) [8]) with
        | some ρ' => evE (calK fs 14) (.call 23 (.cons (.var 1) (.cons (.idx (.cst (.p wordsP)) (.call 22 (.cons (.var 1) (.cons (.len (.cst (.p wordsP))) .nil)))) .nil))) ρ'
        | none => M.bad) S with
      | val a S' => rw [e] at g; exact ⟨a, S', rfl, g.1, g.2⟩
      | exc _ _ => rw [e] at g; exact g.elim
      | bad => rw [e] at g; exact g.elim) 17 0 [] S3 rfl (dInv_mono h3 (by decide))
  with_reducible refine Exists.elim hy fun es hy1 => Exists.elim hy1 fun S1 hy2 => ?_
  have q1 := hy2.1
  have q2 := hy2.2.1
  have q3 := hy2.2.2
  with_reducible refine wp_eq q1 ?_
  rw [List.drop_zero] at q2
  obtain ⟨more, e3, h4, h5⟩ := paired_rows q2
  have hl2 : more.length = 17 := by rw [h5]; rfl
  rw [List.nil_append, e3]
  obtain ⟨ms, b, c, e, rfl, _⟩ := q3
  have hal : alloc (.lst (more.map D.p)) (dInts ms :: st4 b c e :: [told, .lst (rows.map D.p)] : Sto) = Out.val (.ref 4) [dInts ms, st4 b c e, told, .lst (rows.map D.p), .lst (more.map D.p)] := alloc_plain _ _
  with_reducible refine wp_eq hal ?_
  show wp (exSs (calK fs 14) (dropS 8 b25) (l5 ns z) [dInts ms, st4 b c e, told, .lst (rows.map D.p), .lst (more.map D.p)]) okL (fun _ _ => False)
  cases law_end ns z (dInts ms) (st4 b c e) rows more h1 h4 hl1 hl2 with
  | mk q => with_reducible exact q
end Ir.K72
set_option Elab.async false
set_option linter.all false
set_option maxRecDepth 100000
set_option maxHeartbeats 4000001
namespace Ir.K72
open PySem PySem.W
def deep : Nat := 14
theorem law_true (ns : List Int) (_ : ns.length ≤ 63) : Ok (wp (callF (calK fs deep) ⟨1, 9, b25⟩ [.p (.list (ns.map .int))] []) (fun d _ => d = .p (.bool true)) (fun _ _ => False)) := by
  refine ⟨?_⟩
  unfold deep
  refine call_wp rfl ?_
  refine wp_mono (ok := okL) ?_ (fun c S h => ⟨_, h, rfl⟩) fun _ _ z => z
  unfold b25
  (with_reducible refine ss_consR ?_)
  repeat (first | (first | ((with_reducible refine r_var ?_); refine ⟨_, rfl, ?_⟩) | with_reducible refine r_cst ?_ | with_reducible refine r_bin ?_ | with_reducible refine r_cmp ?_ | with_reducible refine r_chain ?_ | with_reducible refine r_and ?_ | with_reducible refine r_or ?_ | with_reducible refine r_not ?_ | with_reducible refine r_idx ?_ | with_reducible refine r_idxL ?_ | with_reducible refine r_slice ?_ | with_reducible refine r_len ?_ | with_reducible refine r_isi ?_ | with_reducible refine r_toInt ?_ | with_reducible refine r_all ?_ | with_reducible refine r_tupOf ?_ | with_reducible refine r_wget ?_ | with_reducible refine r_dictOf ?_ | with_reducible refine r_lenset ?_ | with_reducible refine r_call ?_ | with_reducible refine r_tup ?_ | with_reducible refine r_nil ?_ | with_reducible refine r_cons ?_ | with_reducible refine r_disp ?_ | with_reducible refine r_lst ?_ | with_reducible refine r_cat ?_ | with_reducible refine r_of ?_ | with_reducible refine r_eqL ?_ | with_reducible refine r_pop ?_ | with_reducible refine s_asgR ?_ | with_reducible refine s_setR ?_ | with_reducible refine s_retR ?_ | with_reducible refine s_iteR ?_ | with_reducible refine s_unpR ?_ | with_reducible refine ss_nilR ?_ | ((with_reducible refine r_callv ?_); refine ⟨_, rfl, ?_⟩) | ((with_reducible refine r_setD ?_); refine ⟨_, _, rfl, rfl, rfl, ?_⟩) | ((with_reducible refine r_popD ?_); refine ⟨_, _, rfl, ?_⟩)) | with_reducible refine ex_bool ?_ | with_reducible refine ex_eq ?_ | with_reducible refine ex_lt ?_ | with_reducible refine ex_le ?_ | with_reducible refine ex_gt ?_ | with_reducible refine ex_add ?_ | with_reducible refine ex_sub ?_ | ((with_reducible refine ex_mod ?_ ?_); (· first | assumption | decide)) | ((with_reducible refine ex_mulR ?_ ?_); · decide) | ((with_reducible refine ex_mulL ?_ ?_); · decide) | ((with_reducible refine ex_pow ?_ ?_ ?_); (· decide); (· first | omega | decide)) | ((with_reducible refine ex_fdiv ?_ ?_ ?_); (· first | assumption | decide); (· first | assumption | decide)) | ((with_reducible refine ex_get ?_); refine ⟨_, rfl, ?_⟩; (try dsimp only)) | ((with_reducible refine ex_len ?_ ?_); (· exact Nat.le_of_ble_eq_true rfl)) | ((with_reducible refine ex_plain ?_); refine ⟨_, rfl, Nat.le_of_ble_eq_true rfl, ?_⟩; (try dsimp only)))
  refine ⟨(ns.map PyData.int).map D.p, rfl, ?_⟩
  refine wp_eq (alloc_plain _ _) ?_
  repeat (first | (first | ((with_reducible refine r_var ?_); refine ⟨_, rfl, ?_⟩) | with_reducible refine r_cst ?_ | with_reducible refine r_bin ?_ | with_reducible refine r_cmp ?_ | with_reducible refine r_chain ?_ | with_reducible refine r_and ?_ | with_reducible refine r_or ?_ | with_reducible refine r_not ?_ | with_reducible refine r_idx ?_ | with_reducible refine r_idxL ?_ | with_reducible refine r_slice ?_ | with_reducible refine r_len ?_ | with_reducible refine r_isi ?_ | with_reducible refine r_toInt ?_ | with_reducible refine r_all ?_ | with_reducible refine r_tupOf ?_ | with_reducible refine r_wget ?_ | with_reducible refine r_dictOf ?_ | with_reducible refine r_lenset ?_ | with_reducible refine r_call ?_ | with_reducible refine r_tup ?_ | with_reducible refine r_nil ?_ | with_reducible refine r_cons ?_ | with_reducible refine r_disp ?_ | with_reducible refine r_lst ?_ | with_reducible refine r_cat ?_ | with_reducible refine r_of ?_ | with_reducible refine r_eqL ?_ | with_reducible refine r_pop ?_ | with_reducible refine s_asgR ?_ | with_reducible refine s_setR ?_ | with_reducible refine s_retR ?_ | with_reducible refine s_iteR ?_ | with_reducible refine s_unpR ?_ | with_reducible refine ss_nilR ?_ | ((with_reducible refine r_callv ?_); refine ⟨_, rfl, ?_⟩) | ((with_reducible refine r_setD ?_); refine ⟨_, _, rfl, rfl, rfl, ?_⟩) | ((with_reducible refine r_popD ?_); refine ⟨_, _, rfl, ?_⟩)) | with_reducible refine ex_bool ?_ | with_reducible refine ex_eq ?_ | with_reducible refine ex_lt ?_ | with_reducible refine ex_le ?_ | with_reducible refine ex_gt ?_ | with_reducible refine ex_add ?_ | with_reducible refine ex_sub ?_ | ((with_reducible refine ex_mod ?_ ?_); (· first | assumption | decide)) | ((with_reducible refine ex_mulR ?_ ?_); · decide) | ((with_reducible refine ex_mulL ?_ ?_); · decide) | ((with_reducible refine ex_pow ?_ ?_ ?_); (· decide); (· first | omega | decide)) | ((with_reducible refine ex_fdiv ?_ ?_ ?_); (· first | assumption | decide); (· first | assumption | decide)) | ((with_reducible refine ex_get ?_); refine ⟨_, rfl, ?_⟩; (try dsimp only)) | ((with_reducible refine ex_len ?_ ?_); (· exact Nat.le_of_ble_eq_true rfl)) | ((with_reducible refine ex_plain ?_); refine ⟨_, rfl, Nat.le_of_ble_eq_true rfl, ?_⟩; (try dsimp only)))
  have eA : (MO.lst ((ns.map PyData.int).map D.p)) = dInts ns := by
    unfold dInts
    rw [List.map_map]
    rfl
  rw [eA]
  refine wp_eq (a := .ref 1) (S := [dInts ns, st4 0 0 0]) (by kernel_rfl) ?_
  dsimp only
  (with_reducible refine ss_consR ?_)
  refine wp_eq (a := (.next, l2 ns)) (S := [dInts ns, st4 0 0 0, told]) (by kernel_rfl) ?_
  dsimp only
  (with_reducible refine ss_consR ?_)
  refine wp_eq (a := (.next, l2 ns)) (S := [dInts ns, st4 0 0 0, told]) (by kernel_rfl) ?_
  dsimp only
  (with_reducible refine ss_consR ?_)
  refine wp_eq (a := (.next, l3 ns tx1)) (S := [dInts ns, st4 0 0 0, told]) (by kernel_rfl) ?_
  dsimp only
  (with_reducible refine ss_consR ?_)
  refine wp_eq (a := (.next, l3 ns tx)) (S := [dInts ns, st4 0 0 0, told]) (by kernel_rfl) ?_
  dsimp only
  (with_reducible refine ss_consR ?_)
  refine wp_eq (a := (.next, l3 ns tx)) (S := [dInts ns, st4 0 0 0, told]) (by kernel_rfl) ?_
  dsimp only
  have hI : dInv 0 [told] [dInts ns, st4 0 0 0, told] := ⟨ns, 0, 0, 0, rfl, by decide, by decide, by decide, by decide⟩
  cases law_rows ns tx _ hI with
  | mk q =>
    unfold b25 at q
    dsimp only [dropS] at q
    with_reducible exact q
end Ir.K72
/-! ### the table, the head -/
namespace Ir.K72
open PySem L2 PySem.Spec PyProof.Rows
def nm : List Str := ["is_whole", "is_within", "is_number", "begins_with", "is_unit_name", "is_name", "is_type", "is_unit", "is_kind", "is_face", "is_tuple", "are_all", "are_named", "are_faces", "is_field", "is_signature", "is_way", "are_entries", "is_entry", "is_catch", "is_row", "is_part", "_law_draw", "_law_row", "_law_unit", "law"]
def dd0 : He.DefD := ddOf "is_whole" (top 20)
def dd1 : He.DefD := ddOf "is_within" (top 21)
def dd2 : He.DefD := ddOf "is_number" (top 22)
def dd3 : He.DefD := ddOf "begins_with" (top 23)
def dd4 : He.DefD := ddOf "is_unit_name" (top 24)
def dd5 : He.DefD := ddOf "is_name" (top 25)
def dd6 : He.DefD := ddOf "is_type" (top 26)
def dd7 : He.DefD := ddOf "is_unit" (top 29)
def dd8 : He.DefD := ddOf "is_kind" (top 30)
def dd9 : He.DefD := ddOf "is_face" (top 31)
def dd10 : He.DefD := ddOf "is_tuple" (top 32)
def dd11 : He.DefD := ddOf "are_all" (top 33)
def dd12 : He.DefD := ddOf "are_named" (top 34)
def dd13 : He.DefD := ddOf "are_faces" (top 35)
def dd14 : He.DefD := ddOf "is_field" (top 36)
def dd15 : He.DefD := ddOf "is_signature" (top 37)
def dd16 : He.DefD := ddOf "is_way" (top 38)
def dd17 : He.DefD := ddOf "are_entries" (top 39)
def dd18 : He.DefD := ddOf "is_entry" (top 40)
def dd19 : He.DefD := ddOf "is_catch" (top 41)
def dd20 : He.DefD := ddOf "is_row" (top 42)
def dd21 : He.DefD := ddOf "is_part" (top 43)
def dd22 : He.DefD := ddOf "_law_draw" (top 45)
def dd23 : He.DefD := ddOf "_law_row" (top 46)
def dd24 : He.DefD := ddOf "_law_unit" (top 47)
def dd25 : He.DefD := ddOf "law" (top 48)
def fnD : List He.DefD := [dd0, dd1, dd2, dd3, dd4, dd5, dd6, dd7, dd8, dd9, dd10, dd11, dd12, dd13, dd14, dd15, dd16, dd17, dd18, dd19, dd20, dd21, dd22, dd23, dd24, dd25]
def fa : List He.Fa := [.glo "is_whole", .glo "is_within", .glo "is_number", .glo "begins_with", .glo "is_unit_name", .glo "is_name", .glo "is_type", .glo "is_unit", .glo "is_kind", .glo "is_face", .glo "is_tuple", .glo "are_all", .glo "are_named", .glo "are_faces", .glo "is_field", .glo "is_signature", .glo "is_way", .glo "are_entries", .glo "is_entry", .glo "is_catch", .glo "is_row", .glo "is_part", .glo "_law_draw", .glo "_law_row", .glo "_law_unit", .glo "law", .free "all", .free "any", .free "bool", .free "dict", .free "int", .free "isinstance", .free "len", .free "list", .free "range", .free "set", .free "str", .free "tuple", .free "zip", .glo "PARTS"]
def cs : List (Str × PyData) := [("REACH", (.int 1000000000000)), ("BOXES", (.int 8)), ("STACK", (.int 8)), ("ROWS", (.int 40)), ("REGISTERS", (.int 16)), ("FRAMES", (.int 30)), ("ROOM", (.int 200)), ("MOST", (.int 400)), ("SIGNS", (.int 12)), ("FACES", (.int 3)), ("FIELDS", (.int 6)), ("WAYS", (.int 8)), ("SIGNATURES", (.int 8)), ("TAKES", (.int 6)), ("CATCHES", (.int 4)), ("WORDS", (.tuple [(.str "ask"), (.str "say"), (.str "drop"), (.str "twin"), (.str "turn"), (.str "plus"), (.str "minus"), (.str "times"), (.str "part"), (.str "same"), (.str "give"), (.str "throw"), (.str "num"), (.str "get"), (.str "put"), (.str "fits"), (.str "new"), (.str "read"), (.str "write"), (.str "call"), (.str "hail"), (.str "jump"), (.str "nought")])), ("CAPITALS", (.str "ABCDEFGHIJKLMNOPQRSTUVWXYZ")), ("SMALLS", (.str "abcdefghijklmnopqrstuvwxyz")), ("BEHIND", (.str "abcdefghijklmnopqrstuvwxyz0123456789"))]
def ts : List He.Tab := [(fun K => He.ga K "PARTS", d_PARTS.map (·.1))]
def ex (K : PySem.W.Frag) : Bool := (cs.all fun c => constB K c) && dicB K "PARTS" d_PARTS
abbrev ph (K : PySem.W.Frag) (i : Nat) : Option Addr := (nm[i]?).map (He.ga K)
abbrev aOf (K : PySem.W.Frag) (i : Nat) : Addr := He.ga K (nm.getD i "")
section
variable {P : Program} {w : World} {K : PySem.W.Frag} {h h' : Heap} {mg : Str → Option Value} {base : Heap}
theorem cs_at (c : He.SaysX fa fnD ts [] ex w h' K) (i : Nat) {q : Str × PyData} (e : cs[i]? = some q := by rfl) : constB K q = true := by
  have z := c.more
  unfold ex at z
  simp only [Bool.and_eq_true] at z
  exact List.all_eq_true.mp z.1 q (List.mem_of_getElem? e)
theorem dc_PARTS (c : He.SaysX fa fnD ts [] ex w h' K) : dicB K "PARTS" d_PARTS = true := by
  have z := c.more
  unfold ex at z
  simp only [Bool.and_eq_true] at z
  exact z.2
theorem txt (X : K.In h) (G : h.Ns mainGlobals mg) (c : He.SaysX fa fnD ts [] ex w h' K) : Txt (gOf K (ph K)) w mg (aOf K) where
  ph := fun i f e => by
    obtain ⟨x, e1, e2⟩ := Option.map_eq_some_iff.mp e
    obtain ⟨h1, h2⟩ := List.getElem?_eq_some_iff.mp e1
    refine ⟨h1, ?_⟩
    have e3 : nm.getD i "" = x := by rw [List.getD_eq_getElem?_getD, e1]; rfl
    show f = He.ga K (nm.getD i "")
    rw [e3, e2]
  p0 := rfl
  m0 := He.glo_ok X G (c.t.d.fact 0 (f := .glo "is_whole") rfl)
  p1 := rfl
  m1 := He.glo_ok X G (c.t.d.fact 1 (f := .glo "is_within") rfl)
  p2 := rfl
  m2 := He.glo_ok X G (c.t.d.fact 2 (f := .glo "is_number") rfl)
  p3 := rfl
  m3 := He.glo_ok X G (c.t.d.fact 3 (f := .glo "begins_with") rfl)
  p4 := rfl
  m4 := He.glo_ok X G (c.t.d.fact 4 (f := .glo "is_unit_name") rfl)
  p5 := rfl
  m5 := He.glo_ok X G (c.t.d.fact 5 (f := .glo "is_name") rfl)
  p6 := rfl
  m6 := He.glo_ok X G (c.t.d.fact 6 (f := .glo "is_type") rfl)
  p7 := rfl
  m7 := He.glo_ok X G (c.t.d.fact 7 (f := .glo "is_unit") rfl)
  p8 := rfl
  m8 := He.glo_ok X G (c.t.d.fact 8 (f := .glo "is_kind") rfl)
  p9 := rfl
  m9 := He.glo_ok X G (c.t.d.fact 9 (f := .glo "is_face") rfl)
  p10 := rfl
  m10 := He.glo_ok X G (c.t.d.fact 10 (f := .glo "is_tuple") rfl)
  p11 := rfl
  m11 := He.glo_ok X G (c.t.d.fact 11 (f := .glo "are_all") rfl)
  p12 := rfl
  m12 := He.glo_ok X G (c.t.d.fact 12 (f := .glo "are_named") rfl)
  p13 := rfl
  m13 := He.glo_ok X G (c.t.d.fact 13 (f := .glo "are_faces") rfl)
  p14 := rfl
  m14 := He.glo_ok X G (c.t.d.fact 14 (f := .glo "is_field") rfl)
  p15 := rfl
  m15 := He.glo_ok X G (c.t.d.fact 15 (f := .glo "is_signature") rfl)
  p16 := rfl
  m16 := He.glo_ok X G (c.t.d.fact 16 (f := .glo "is_way") rfl)
  p17 := rfl
  m17 := He.glo_ok X G (c.t.d.fact 17 (f := .glo "are_entries") rfl)
  p18 := rfl
  m18 := He.glo_ok X G (c.t.d.fact 18 (f := .glo "is_entry") rfl)
  p19 := rfl
  m19 := He.glo_ok X G (c.t.d.fact 19 (f := .glo "is_catch") rfl)
  p20 := rfl
  m20 := He.glo_ok X G (c.t.d.fact 20 (f := .glo "is_row") rfl)
  p21 := rfl
  m21 := He.glo_ok X G (c.t.d.fact 21 (f := .glo "is_part") rfl)
  p22 := rfl
  m22 := He.glo_ok X G (c.t.d.fact 22 (f := .glo "_law_draw") rfl)
  p23 := rfl
  m23 := He.glo_ok X G (c.t.d.fact 23 (f := .glo "_law_row") rfl)
  p24 := rfl
  m24 := He.glo_ok X G (c.t.d.fact 24 (f := .glo "_law_unit") rfl)
  p25 := rfl
  m25 := He.glo_ok X G (c.t.d.fact 25 (f := .glo "law") rfl)
  b_all := He.free_ok X G (c.t.d.fact 26 (f := .free "all") rfl)
  b_any := He.free_ok X G (c.t.d.fact 27 (f := .free "any") rfl)
  b_bool := He.free_ok X G (c.t.d.fact 28 (f := .free "bool") rfl)
  b_dict := He.free_ok X G (c.t.d.fact 29 (f := .free "dict") rfl)
  b_int := He.free_ok X G (c.t.d.fact 30 (f := .free "int") rfl)
  b_isinstance := He.free_ok X G (c.t.d.fact 31 (f := .free "isinstance") rfl)
  b_len := He.free_ok X G (c.t.d.fact 32 (f := .free "len") rfl)
  b_list := He.free_ok X G (c.t.d.fact 33 (f := .free "list") rfl)
  b_range := He.free_ok X G (c.t.d.fact 34 (f := .free "range") rfl)
  b_set := He.free_ok X G (c.t.d.fact 35 (f := .free "set") rfl)
  b_str := He.free_ok X G (c.t.d.fact 36 (f := .free "str") rfl)
  b_tuple := He.free_ok X G (c.t.d.fact 37 (f := .free "tuple") rfl)
  b_zip := He.free_ok X G (c.t.d.fact 38 (f := .free "zip") rfl)
  c_REACH := const_ok X G (cs_at c 0)
  c_BOXES := const_ok X G (cs_at c 1)
  c_STACK := const_ok X G (cs_at c 2)
  c_ROWS := const_ok X G (cs_at c 3)
  c_REGISTERS := const_ok X G (cs_at c 4)
  c_FRAMES := const_ok X G (cs_at c 5)
  c_ROOM := const_ok X G (cs_at c 6)
  c_MOST := const_ok X G (cs_at c 7)
  c_SIGNS := const_ok X G (cs_at c 8)
  c_FACES := const_ok X G (cs_at c 9)
  c_FIELDS := const_ok X G (cs_at c 10)
  c_WAYS := const_ok X G (cs_at c 11)
  c_SIGNATURES := const_ok X G (cs_at c 12)
  c_TAKES := const_ok X G (cs_at c 13)
  c_CATCHES := const_ok X G (cs_at c 14)
  c_WORDS := const_ok X G (cs_at c 15)
  c_CAPITALS := const_ok X G (cs_at c 16)
  c_SMALLS := const_ok X G (cs_at c 17)
  c_BEHIND := const_ok X G (cs_at c 18)
  d_PARTS := wd_ok (He.glo_ok X G (c.t.d.fact 39 (f := .glo "PARTS") rfl)) (c.t.tab 0 (t := (fun K => He.ga K "PARTS", d_PARTS.map (·.1))) rfl) (dc_PARTS c)
theorem row0 (T : Txt (gOf K (ph K)) w mg (aOf K)) (c : He.SaysX fa fnD ts [] ex w h' K) : Row P w (gOf K (ph K)) mg base (aOf K 0) ⟨1, 1, b0⟩ := by
  obtain ⟨fd, F⟩ := c.t.d.def_ 0 (d := dd0) rfl
  exact row_mk (x := "is_whole") (st := top 20) (N := ["thing"]) (ps := ["thing"]) F sc0 rfl rfl (fun _ _ _ _ _ _ us hl => match us, hl with | [_], _ => rfl) (fun _ _ _ _ _ _ _ _ G => bd0 T G)
theorem row1 (T : Txt (gOf K (ph K)) w mg (aOf K)) (c : He.SaysX fa fnD ts [] ex w h' K) : Row P w (gOf K (ph K)) mg base (aOf K 1) ⟨3, 3, b1⟩ := by
  obtain ⟨fd, F⟩ := c.t.d.def_ 1 (d := dd1) rfl
  exact row_mk (x := "is_within") (st := top 21) (N := ["thing", "low", "high"]) (ps := ["thing", "low", "high"]) F sc1 rfl rfl (fun _ _ _ _ _ _ us hl => match us, hl with | [_, _, _], _ => rfl) (fun _ _ _ _ _ _ _ _ G => bd1 T G)
theorem row2 (T : Txt (gOf K (ph K)) w mg (aOf K)) (c : He.SaysX fa fnD ts [] ex w h' K) : Row P w (gOf K (ph K)) mg base (aOf K 2) ⟨1, 1, b2⟩ := by
  obtain ⟨fd, F⟩ := c.t.d.def_ 2 (d := dd2) rfl
  exact row_mk (x := "is_number") (st := top 22) (N := ["thing"]) (ps := ["thing"]) F sc2 rfl rfl (fun _ _ _ _ _ _ us hl => match us, hl with | [_], _ => rfl) (fun _ _ _ _ _ _ _ _ G => bd2 T G)
theorem row3 (T : Txt (gOf K (ph K)) w mg (aOf K)) (c : He.SaysX fa fnD ts [] ex w h' K) : Row P w (gOf K (ph K)) mg base (aOf K 3) ⟨2, 3, b3⟩ := by
  obtain ⟨fd, F⟩ := c.t.d.def_ 3 (d := dd3) rfl
  exact row_mk (x := "begins_with") (st := top 23) (N := ["thing", "firsts", "sign"]) (ps := ["thing", "firsts"]) F sc3 rfl rfl (fun _ _ _ _ _ _ us hl => match us, hl with | [_, _], _ => rfl) (fun _ _ _ _ _ _ _ _ G => bd3 T G)
theorem row4 (T : Txt (gOf K (ph K)) w mg (aOf K)) (c : He.SaysX fa fnD ts [] ex w h' K) : Row P w (gOf K (ph K)) mg base (aOf K 4) ⟨1, 1, b4⟩ := by
  obtain ⟨fd, F⟩ := c.t.d.def_ 4 (d := dd4) rfl
  exact row_mk (x := "is_unit_name") (st := top 24) (N := ["thing"]) (ps := ["thing"]) F sc4 rfl rfl (fun _ _ _ _ _ _ us hl => match us, hl with | [_], _ => rfl) (fun _ _ _ _ _ _ _ _ G => bd4 T G)
theorem row5 (T : Txt (gOf K (ph K)) w mg (aOf K)) (c : He.SaysX fa fnD ts [] ex w h' K) : Row P w (gOf K (ph K)) mg base (aOf K 5) ⟨1, 1, b5⟩ := by
  obtain ⟨fd, F⟩ := c.t.d.def_ 5 (d := dd5) rfl
  exact row_mk (x := "is_name") (st := top 25) (N := ["thing"]) (ps := ["thing"]) F sc5 rfl rfl (fun _ _ _ _ _ _ us hl => match us, hl with | [_], _ => rfl) (fun _ _ _ _ _ _ _ _ G => bd5 T G)
theorem row6 (T : Txt (gOf K (ph K)) w mg (aOf K)) (c : He.SaysX fa fnD ts [] ex w h' K) : Row P w (gOf K (ph K)) mg base (aOf K 6) ⟨1, 1, b6⟩ := by
  obtain ⟨fd, F⟩ := c.t.d.def_ 6 (d := dd6) rfl
  exact row_mk (x := "is_type") (st := top 26) (N := ["thing"]) (ps := ["thing"]) F sc6 rfl rfl (fun _ _ _ _ _ _ us hl => match us, hl with | [_], _ => rfl) (fun _ _ _ _ _ _ _ _ G => bd6 T G)
theorem row7 (T : Txt (gOf K (ph K)) w mg (aOf K)) (c : He.SaysX fa fnD ts [] ex w h' K) : Row P w (gOf K (ph K)) mg base (aOf K 7) ⟨1, 1, b7⟩ := by
  obtain ⟨fd, F⟩ := c.t.d.def_ 7 (d := dd7) rfl
  exact row_mk (x := "is_unit") (st := top 29) (N := ["thing"]) (ps := ["thing"]) F sc7 rfl rfl (fun _ _ _ _ _ _ us hl => match us, hl with | [_], _ => rfl) (fun _ _ _ _ _ _ _ _ G => bd7 T G)
theorem row8 (T : Txt (gOf K (ph K)) w mg (aOf K)) (c : He.SaysX fa fnD ts [] ex w h' K) : Row P w (gOf K (ph K)) mg base (aOf K 8) ⟨1, 7, b8⟩ := by
  obtain ⟨fd, F⟩ := c.t.d.def_ 8 (d := dd8) rfl
  exact row_mk (x := "is_kind") (st := top 30) (N := ["thing", "_", "name", "above", "faces", "fields", "ways"]) (ps := ["thing"]) F sc8 rfl rfl (fun _ _ _ _ _ _ us hl => match us, hl with | [_], _ => rfl) (fun _ _ _ _ _ _ _ _ G => bd8 T G)
theorem row9 (T : Txt (gOf K (ph K)) w mg (aOf K)) (c : He.SaysX fa fnD ts [] ex w h' K) : Row P w (gOf K (ph K)) mg base (aOf K 9) ⟨1, 4, b9⟩ := by
  obtain ⟨fd, F⟩ := c.t.d.def_ 9 (d := dd9) rfl
  exact row_mk (x := "is_face") (st := top 31) (N := ["thing", "_", "name", "signatures"]) (ps := ["thing"]) F sc9 rfl rfl (fun _ _ _ _ _ _ us hl => match us, hl with | [_], _ => rfl) (fun _ _ _ _ _ _ _ _ G => bd9 T G)
theorem row10 (T : Txt (gOf K (ph K)) w mg (aOf K)) (c : He.SaysX fa fnD ts [] ex w h' K) : Row P w (gOf K (ph K)) mg base (aOf K 10) ⟨3, 3, b10⟩ := by
  obtain ⟨fd, F⟩ := c.t.d.def_ 10 (d := dd10) rfl
  exact row_mk (x := "is_tuple") (st := top 32) (N := ["thing", "low", "high"]) (ps := ["thing", "low", "high"]) F sc10 rfl rfl (fun _ _ _ _ _ _ us hl => match us, hl with | [_, _, _], _ => rfl) (fun _ _ _ _ _ _ _ _ G => bd10 T G)
theorem row11 (T : Txt (gOf K (ph K)) w mg (aOf K)) (c : He.SaysX fa fnD ts [] ex w h' K) : Row P w (gOf K (ph K)) mg base (aOf K 11) ⟨4, 5, b11⟩ := by
  obtain ⟨fd, F⟩ := c.t.d.def_ 11 (d := dd11) rfl
  exact row_mk (x := "are_all") (st := top 33) (N := ["thing", "low", "high", "holds", "part"]) (ps := ["thing", "low", "high", "holds"]) F sc11 rfl rfl (fun _ _ _ _ _ _ us hl => match us, hl with | [_, _, _, _], _ => rfl) (fun _ _ _ _ _ _ _ _ G => bd11 T G)
theorem row12 (T : Txt (gOf K (ph K)) w mg (aOf K)) (c : He.SaysX fa fnD ts [] ex w h' K) : Row P w (gOf K (ph K)) mg base (aOf K 12) ⟨4, 5, b12⟩ := by
  obtain ⟨fd, F⟩ := c.t.d.def_ 12 (d := dd12) rfl
  exact row_mk (x := "are_named") (st := top 34) (N := ["thing", "low", "high", "holds", "part"]) (ps := ["thing", "low", "high", "holds"]) F sc12 rfl rfl (fun _ _ _ _ _ _ us hl => match us, hl with | [_, _, _, _], _ => rfl) (fun _ _ _ _ _ _ _ _ G => bd12 T G)
theorem row13 (T : Txt (gOf K (ph K)) w mg (aOf K)) (c : He.SaysX fa fnD ts [] ex w h' K) : Row P w (gOf K (ph K)) mg base (aOf K 13) ⟨1, 1, b13⟩ := by
  obtain ⟨fd, F⟩ := c.t.d.def_ 13 (d := dd13) rfl
  exact row_mk (x := "are_faces") (st := top 35) (N := ["thing"]) (ps := ["thing"]) F sc13 rfl rfl (fun _ _ _ _ _ _ us hl => match us, hl with | [_], _ => rfl) (fun _ _ _ _ _ _ _ _ G => bd13 T G)
theorem row14 (T : Txt (gOf K (ph K)) w mg (aOf K)) (c : He.SaysX fa fnD ts [] ex w h' K) : Row P w (gOf K (ph K)) mg base (aOf K 14) ⟨1, 1, b14⟩ := by
  obtain ⟨fd, F⟩ := c.t.d.def_ 14 (d := dd14) rfl
  exact row_mk (x := "is_field") (st := top 36) (N := ["thing"]) (ps := ["thing"]) F sc14 rfl rfl (fun _ _ _ _ _ _ us hl => match us, hl with | [_], _ => rfl) (fun _ _ _ _ _ _ _ _ G => bd14 T G)
theorem row15 (T : Txt (gOf K (ph K)) w mg (aOf K)) (c : He.SaysX fa fnD ts [] ex w h' K) : Row P w (gOf K (ph K)) mg base (aOf K 15) ⟨1, 4, b15⟩ := by
  obtain ⟨fd, F⟩ := c.t.d.def_ 15 (d := dd15) rfl
  exact row_mk (x := "is_signature") (st := top 37) (N := ["thing", "name", "takes", "gives"]) (ps := ["thing"]) F sc15 rfl rfl (fun _ _ _ _ _ _ us hl => match us, hl with | [_], _ => rfl) (fun _ _ _ _ _ _ _ _ G => bd15 T G)
theorem row16 (T : Txt (gOf K (ph K)) w mg (aOf K)) (c : He.SaysX fa fnD ts [] ex w h' K) : Row P w (gOf K (ph K)) mg base (aOf K 16) ⟨1, 7, b16⟩ := by
  obtain ⟨fd, F⟩ := c.t.d.def_ 16 (d := dd16) rfl
  exact row_mk (x := "is_way") (st := top 38) (N := ["thing", "rows", "entries", "catches", "heights", "row", "catch"]) (ps := ["thing"]) F sc16 rfl rfl (fun _ _ _ _ _ _ us hl => match us, hl with | [_], _ => rfl) (fun _ _ _ _ _ _ _ _ G => bd16 T G)
theorem row17 (T : Txt (gOf K (ph K)) w mg (aOf K)) (c : He.SaysX fa fnD ts [] ex w h' K) : Row P w (gOf K (ph K)) mg base (aOf K 17) ⟨2, 4, b17⟩ := by
  obtain ⟨fd, F⟩ := c.t.d.def_ 17 (d := dd17) rfl
  exact row_mk (x := "are_entries") (st := top 39) (N := ["thing", "many", "least", "entry"]) (ps := ["thing", "many"]) F sc17 rfl rfl (fun _ _ _ _ _ _ us hl => match us, hl with | [_, _], _ => rfl) (fun _ _ _ _ _ _ _ _ G => bd17 T G)
theorem row18 (T : Txt (gOf K (ph K)) w mg (aOf K)) (c : He.SaysX fa fnD ts [] ex w h' K) : Row P w (gOf K (ph K)) mg base (aOf K 18) ⟨3, 3, b18⟩ := by
  obtain ⟨fd, F⟩ := c.t.d.def_ 18 (d := dd18) rfl
  exact row_mk (x := "is_entry") (st := top 40) (N := ["thing", "least", "many"]) (ps := ["thing", "least", "many"]) F sc18 rfl rfl (fun _ _ _ _ _ _ us hl => match us, hl with | [_, _, _], _ => rfl) (fun _ _ _ _ _ _ _ _ G => bd18 T G)
theorem row19 (T : Txt (gOf K (ph K)) w mg (aOf K)) (c : He.SaysX fa fnD ts [] ex w h' K) : Row P w (gOf K (ph K)) mg base (aOf K 19) ⟨3, 6, b19⟩ := by
  obtain ⟨fd, F⟩ := c.t.d.def_ 19 (d := dd19) rfl
  exact row_mk (x := "is_catch") (st := top 41) (N := ["thing", "many", "heights", "first", "end", "at"]) (ps := ["thing", "many", "heights"]) F sc19 rfl rfl (fun _ _ _ _ _ _ us hl => match us, hl with | [_, _, _], _ => rfl) (fun _ _ _ _ _ _ _ _ G => bd19 T G)
theorem row20 (T : Txt (gOf K (ph K)) w mg (aOf K)) (c : He.SaysX fa fnD ts [] ex w h' K) : Row P w (gOf K (ph K)) mg base (aOf K 20) ⟨2, 5, b20⟩ := by
  obtain ⟨fd, F⟩ := c.t.d.def_ 20 (d := dd20) rfl
  exact row_mk (x := "is_row") (st := top 42) (N := ["thing", "heights", "sorts", "sort", "part"]) (ps := ["thing", "heights"]) F sc20 rfl rfl (fun _ _ _ _ _ _ us hl => match us, hl with | [_, _], _ => rfl) (fun _ _ _ _ _ _ _ _ G => bd20 T G)
theorem row21 (T : Txt (gOf K (ph K)) w mg (aOf K)) (c : He.SaysX fa fnD ts [] ex w h' K) : Row P w (gOf K (ph K)) mg base (aOf K 21) ⟨3, 3, b21⟩ := by
  obtain ⟨fd, F⟩ := c.t.d.def_ 21 (d := dd21) rfl
  exact row_mk (x := "is_part") (st := top 43) (N := ["sort", "part", "heights"]) (ps := ["sort", "part", "heights"]) F sc21 rfl rfl (fun _ _ _ _ _ _ us hl => match us, hl with | [_, _, _], _ => rfl) (fun _ _ _ _ _ _ _ _ G => bd21 T G)
theorem row22 (T : Txt (gOf K (ph K)) w mg (aOf K)) (c : He.SaysX fa fnD ts [] ex w h' K) : Row P w (gOf K (ph K)) mg base (aOf K 22) ⟨2, 3, b22⟩ := by
  obtain ⟨fd, F⟩ := c.t.d.def_ 22 (d := dd22) rfl
  exact row_mk (x := "_law_draw") (st := top 45) (N := ["_law_stream", "_law_many", "_law_number"]) (ps := ["_law_stream", "_law_many"]) F sc22 rfl rfl (fun _ _ _ _ _ _ us hl => match us, hl with | [_, _], _ => rfl) (fun _ _ _ _ _ _ _ _ G => bd22 T G)
theorem row23 (T : Txt (gOf K (ph K)) w mg (aOf K)) (c : He.SaysX fa fnD ts [] ex w h' K) : Row P w (gOf K (ph K)) mg base (aOf K 23) ⟨2, 2, b23⟩ := by
  obtain ⟨fd, F⟩ := c.t.d.def_ 23 (d := dd23) rfl
  exact row_mk (x := "_law_row") (st := top 46) (N := ["_law_st", "_law_word"]) (ps := ["_law_st", "_law_word"]) F sc23 rfl rfl (fun _ _ _ _ _ _ us hl => match us, hl with | [_, _], _ => rfl) (fun _ _ _ _ _ _ _ _ G => bd23 T G)
theorem row24 (T : Txt (gOf K (ph K)) w mg (aOf K)) (c : He.SaysX fa fnD ts [] ex w h' K) : Row P w (gOf K (ph K)) mg base (aOf K 24) ⟨2, 2, b24⟩ := by
  obtain ⟨fd, F⟩ := c.t.d.def_ 24 (d := dd24) rfl
  exact row_mk (x := "_law_unit") (st := top 47) (N := ["_law_rows", "_law_high"]) (ps := ["_law_rows", "_law_high"]) F sc24 rfl rfl (fun _ _ _ _ _ _ us hl => match us, hl with | [_, _], _ => rfl) (fun _ _ _ _ _ _ _ _ G => bd24 T G)
theorem row25 (T : Txt (gOf K (ph K)) w mg (aOf K)) (c : He.SaysX fa fnD ts [] ex w h' K) : Row P w (gOf K (ph K)) mg base (aOf K 25) ⟨1, 9, b25⟩ := by
  obtain ⟨fd, F⟩ := c.t.d.def_ 25 (d := dd25) rfl
  exact row_mk (x := "law") (st := top 48) (N := ["_law_script", "_law_st", "_law_told", "_law_words", "_law_rows", "_law_more", "_law_one", "_law_word", "_law_k"]) (ps := ["_law_script"]) F sc25 rfl rfl (fun _ _ _ _ _ _ us hl => match us, hl with | [_], _ => rfl) (fun _ _ _ _ _ _ _ _ G => bd25 T G)
theorem rows (T : Txt (gOf K (ph K)) w mg (aOf K)) (c : He.SaysX fa fnD ts [] ex w h' K) : ∀ i, i < 26 → ∃ fn, fs i = some fn ∧ Row P w (gOf K (ph K)) mg base (aOf K i) fn
  | 0, _ => ⟨_, rfl, row0 T c⟩
  | 1, _ => ⟨_, rfl, row1 T c⟩
  | 2, _ => ⟨_, rfl, row2 T c⟩
  | 3, _ => ⟨_, rfl, row3 T c⟩
  | 4, _ => ⟨_, rfl, row4 T c⟩
  | 5, _ => ⟨_, rfl, row5 T c⟩
  | 6, _ => ⟨_, rfl, row6 T c⟩
  | 7, _ => ⟨_, rfl, row7 T c⟩
  | 8, _ => ⟨_, rfl, row8 T c⟩
  | 9, _ => ⟨_, rfl, row9 T c⟩
  | 10, _ => ⟨_, rfl, row10 T c⟩
  | 11, _ => ⟨_, rfl, row11 T c⟩
  | 12, _ => ⟨_, rfl, row12 T c⟩
  | 13, _ => ⟨_, rfl, row13 T c⟩
  | 14, _ => ⟨_, rfl, row14 T c⟩
  | 15, _ => ⟨_, rfl, row15 T c⟩
  | 16, _ => ⟨_, rfl, row16 T c⟩
  | 17, _ => ⟨_, rfl, row17 T c⟩
  | 18, _ => ⟨_, rfl, row18 T c⟩
  | 19, _ => ⟨_, rfl, row19 T c⟩
  | 20, _ => ⟨_, rfl, row20 T c⟩
  | 21, _ => ⟨_, rfl, row21 T c⟩
  | 22, _ => ⟨_, rfl, row22 T c⟩
  | 23, _ => ⟨_, rfl, row23 T c⟩
  | 24, _ => ⟨_, rfl, row24 T c⟩
  | 25, _ => ⟨_, rfl, row25 T c⟩
  | i + 26, h => absurd h (by omega)
theorem tabs (T : Txt (gOf K (ph K)) w mg (aOf K)) (c : He.SaysX fa fnD ts [] ex w h' K) (k : Nat) : Tb P w (gOf K (ph K)) mg base (calK fs k) k := tb_all (fun i f e => by
  obtain ⟨h1, h2⟩ := T.ph i f e
  subst h2
  exact rows T c i h1) k
theorem facts (DEPTH : Nat) (law_true : ∀ ns : List Int, ns.length ≤ 63 → Ok (wp (callF (calK fs DEPTH) ⟨1, 9, b25⟩ [.p (.list (ns.map .int))] []) (fun d _ => d = .p (.bool true)) (fun _ _ => False))) {f : Addr} (X : K.In h) (G : h.Ns mainGlobals mg) (hfa : mg ("law" : Str) = some (.ref f)) (c : He.SaysX fa fnD ts [] ex w h' K) :
    ∃ fd : FuncData, (∀ (s : Shared) (v : Value), BindsTo s fd ⟨[v], []⟩ [("_law_script", v)]) ∧ ∀ base : Heap, K.In base → base.Ns mainGlobals mg → FnOk P w K mg base CX0 (DEPTH + 1) f fd ["_law_script"] (spLaw K 63) := by
  have T := txt X G c
  obtain ⟨fd, F⟩ := c.t.d.def_ 25 (d := dd25) rfl
  have e := hfa.symm.trans T.m25
  cases e
  have b := FunD.bindsA (ps := ["_law_script"]) F fun _ _ _ _ _ _ us hl => match us, hl with | [_], _ => rfl
  exact ⟨fd, fun s v => b s [v] rfl, fun base _ _ => law_of (g := gOf K (ph K)) (fn_ok (N := ["_law_script", "_law_st", "_law_told", "_law_words", "_law_rows", "_law_more", "_law_one", "_law_word", "_law_k"]) (fn := ⟨1, 9, b25⟩) (fun_of (x := "law") (st := top 48) F) sc25 (tabs T c DEPTH) rfl rfl (fun _ _ _ _ _ _ G => bd25 T G)) fun ns h => (law_true ns h).h⟩
theorem says (e1 : He.obsT fa fnD ts K = He.valT fnD ts w) (e2 : ex K = true) : He.SaysX fa fnD ts [] ex w h' K := ⟨e1, e2, fun _ h => (nomatch h), fun _ h => (nomatch h), fun _ h => (nomatch h)⟩
theorem walk {l : PySem.W.OpenLaw} {q : Program} {loose : List Str} {XP : (Str → Option Value) → Heap → Prop} {YP : World → Heap → Prop} {d : DefRec} {K : Params → PySem.W.Frag} (hn : l.most = some 63) (hdf : d.params.defaults = []) (hnm : d.name = "law")
    (hY : ∀ (w : World) (h : Heap), YP w h → (K w.params).In h)
    (c1 : ∀ w : World, He.obsT fa fnD ts (K w.params) = He.valT fnD ts w) (c2 : ∀ w : World, ex (K w.params) = true) :
    PySem.W.WalkO q loose XP YP l.row.toRowW d [] (fun f vs => PySem.call f vs) :=
  L2.walk_of (n := 63) (k := deep + 1) (x := "_law_script") (CX := fun _ => CX0) (sp := fun w => spLaw (K w.params) 63) hn (by decide) hdf ⟨rfl, by decide, by decide⟩ hY
    (fun w mg fa h KX G hfa => facts deep law_true KX G (by rw [hnm] at hfa; exact hfa) (says (h' := h) (c1 w) (c2 w))) (fun _ _ a ns hl ho hS => ⟨a, ns, rfl, ho, hS, hl, fun _ => rfl⟩) fun _ _ _ _ _ z => z
end
end Ir.K72
open PySem PySem.W PyProof.Rows in
set_option maxRecDepth 100000 in
set_option maxHeartbeats 0 in
theorem PySem.Challenge.cw_strangemill_k72_bounds_and_words_holds : PySem.Challenge.rw_strangemill_k72_bounds_and_words.Holds := by
  w_on; o_law; k_head; (case hw => w_witness2)
  k_fill
  refine Ir.K72.walk (l := PySem.Challenge.rw_strangemill_k72_bounds_and_words) rfl rfl rfl (fun w h Y => PySem.W.kIn_of Y) ?c1 ?c2
  case c1 => intro w; kernel_rfl
  case c2 => intro w; kernel_rfl
