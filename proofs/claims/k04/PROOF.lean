import PyProof.Rows.All
import Wide.All
import OpenK.AllK
import Wide.FinOn
import HandS.ForMost
import HandS.Wide
import HandS.IsInst
import HandS.Style
import HandS.CallSlots
import HandS.TupAny
import HandS.Zip
import HandS.SetKeys
import HandS.More
import HandS.Deep
import HandS.CallLocal
import HandS.SetBool
import HandS.Strs
import KE.KDictPairs
import HandS.Text
import HandS.RaiseMore
import HandS.TupLe
import HandS.Small
import HandS.Star
import HandS.FStr
import HandS.Words
import HandS.Defaults
import HandS.Head0
import HandS.Head1
import HandS.Head2
import HandS.HeadEnd
import HandS.HeadHook1
import HandS.HeadHook2
import HandS.HeadHook3
import HandS.HeadHook4
import KE.KEqSeq
import PySem.Challenge.RW_strangemill_k04_units_written
set_option Elab.async false
set_option maxRecDepth 100000
set_option maxHeartbeats 4000001
/-! A small language of my own (ir): what a def's body computes over plain data and a store of lists and dicts. -/
namespace Ir
open PySem

/-- a value: plain data (no list of its own), an object of the store, a def of the text -/
inductive D where
  | p (d : PyData)
  | ref (i : Nat)
  | fn (i : Nat)
inductive MO where
  | lst (ds : List D)
  | dic (kvs : List (Sum Int Str × D))
abbrev Sto := List MO
structure Ex where
  cls : Nat
  args : List PyData
inductive Out (α : Type) where
  | val (a : α) (S : Sto)
  | exc (e : Ex) (S : Sto)
  | bad
def M (α : Type) := Sto → Out α
def M.pure {α : Type} (a : α) : M α := fun S => .val a S
def M.bind {α β : Type} (m : M α) (f : α → M β) : M β := fun S => match m S with
  | .val a S' => f a S'
  | .exc e S' => .exc e S'
  | .bad => .bad
def M.bad {α : Type} : M α := fun _ => .bad
def M.opt {α : Type} (o : Option α) : M α := fun S => match o with
  | some a => .val a S
  | none => .bad
def wp {α : Type} (o : Out α) (ok : α → Sto → Prop) (ex : Ex → Sto → Prop) : Prop := match o with
  | .val a S => ok a S
  | .exc e S => ex e S
  | .bad => False
theorem wp_bind {α β : Type} {m : M α} {f : α → M β} {S : Sto} {ok : β → Sto → Prop} {ex : Ex → Sto → Prop} (h : wp (M.bind m f S) ok ex) : wp (m S) (fun a S' => wp (f a S') ok ex) ex := by
  unfold M.bind at h
  cases e : m S with
  | val a S' => rw [e] at h; exact h
  | exc x S' => rw [e] at h; exact h
  | bad => rw [e] at h; exact h
theorem wp_mono {α : Type} {o : Out α} {ok ok' : α → Sto → Prop} {ex ex' : Ex → Sto → Prop} (h : wp o ok ex) (h1 : ∀ a S, ok a S → ok' a S) (h2 : ∀ e S, ex e S → ex' e S) : wp o ok' ex' := by
  cases o with
  | val a S => exact h1 a S h
  | exc e S => exact h2 e S h
  | bad => exact h

/-! ### references: below n -/
def rb (n : Nat) : D → Bool
  | .ref j => decide (j < n)
  | _ => true
def rbO (n : Nat) : MO → Bool
  | .lst ds => ds.all (rb n)
  | .dic kvs => kvs.all fun kv => rb n kv.2

inductive BOp where
  | add | sub | mul | fdiv | mod | pow
inductive COp where
  | eq | ne | lt | le | gt | ge | in_ | notin | is_ | isnot
inductive Ty where
  | int | bool | str | tuple
inductive TxO where
  | lower | upper | strip
mutual
inductive E where
  | var (i : Nat)
  | cst (d : D)
  | bin (o : BOp) (a b : E)
  | cmp (o : COp) (a b : E)
  | chain (o o' : COp) (a b c : E)
  | and (a b : E)
  | or (a b : E)
  | not (a : E)
  | ifx (t a b : E)
  | neg (a : E)
  | call (f : Nat) (as : Es)
  | callv (i : Nat) (as : Es)
  | tup (as : Es)
  | lst (l : L)
  | idx (a b : E)
  | idxL (l : L) (b : E)
  | slice (a : E) (lo hi : Option Int)
  | slx (a : E) (lo hi : Bd)
  | txt (o : TxO) (a : E)
  | strOf (a : E)
  | join (a b : E)
  | extend (a e : E)
  | len (a : E)
  | lenset (a : E)
  | lensc (it : Wi) (tg : List Nat) (one : Bool) (elt : E)
  | isi (a : E) (t : Ty)
  | toInt (a : E)
  | all (l : L)
  | any (l : L)
  | tupOf (a : E)
  | dictOf (a : E)
  | dget (a k : E)
  | wget (kvs : List (Str × PyData)) (k : E)
  | popAt (a k : E)
  | append (a e : E)
  | eqLL (neg : Bool) (l l2 : L)
  | eqL (neg : Bool) (a : E) (l : L)
  | op1 (f : Sto → D → Option D) (a : E)
  | op2 (f : Sto → D → D → Option D) (a b : E)
  | dlit (ks : List Str) (as : Es)
  | dget3 (a k z : E)
  | slp (a : E) (lo hi : Bd)
  | fstr (as : Es)
inductive Bd where
  | no
  | at_ (e : E)
inductive Es where
  | nil
  | cons (e : E) (es : Es)
  | star (e : E) (es : Es)
inductive L where
  | disp (es : Es)
  | lc (it : Wi) (tg : List Nat) (one : Bool) (elt : E)
  | of (e : E)
  | split (e : E) (sep : Str)
  | cat (a b : E)
  | cut (a : E) (lo hi : Bd)
  | lcf (it : Wi) (tg : List Nat) (one : Bool) (c elt : E)
  | op1 (f : Sto → D → Option (List D)) (a : E)
  | op2 (f : Sto → D → D → Option (List D)) (a b : E)
  | lc2 (it : Wi) (tg : List Nat) (one : Bool) (e2 : E) (tg2 : List Nat) (one2 : Bool) (elt : E)
inductive Wi where
  | tup (e : E)
  | lst (e : E)
  | str (e : E)
  | rng (e : E)
  | zip (a b : E)
end
mutual
inductive St where
  | asg (i : Nat) (e : E)
  | unp (is : List Nat) (e : E)
  | setI (o i v : E)
  | expr (e : E)
  | ite (t : E) (a b : Ss)
  | for_ (it : Wi) (tg : List Nat) (one : Bool) (body : Ss)
  | ret (e : E)
inductive Ss where
  | nil
  | cons (s : St) (r : Ss)
end

/-! ### operations over values -/
def valD (kvs : List (Sum Int Str × D)) (k : Sum Int Str) : Option D := (kvs.find? fun kv => decide (kv.1 = k)).map (·.2)
def putD (kvs : List (Sum Int Str × D)) (k : Sum Int Str) (v : D) : List (Sum Int Str × D) :=
  if (kvs.any fun kv => decide (kv.1 = k)) = true then kvs.map fun kv => if kv.1 = k then (kv.1, v) else kv else kvs ++ [(k, v)]
def keyOf : D → Option (Sum Int Str)
  | .p (.int i) => some (.inl i)
  | .p (.str s) => some (.inr s)
  | _ => none
def sameScal : PyData → PyData → Bool
  | .none, .none => true | .none, .int _ => true | .int _, .none => true | .none, .bool _ => true | .bool _, .none => true | .none, .str _ => true | .str _, .none => true
  | .int _, .int _ => true | .bool _, .bool _ => true | .str _, .str _ => true
  | .int _, .str _ => true | .str _, .int _ => true | .bool _, .str _ => true | .str _, .bool _ => true
  | _, _ => false
def eqD : D → D → Option Bool
  | .p a, .p b => if sameScal a b then some (PyData.eqv a b) else if SeqAt.shaped a && SeqAt.shaped b then some (PyData.eqv a b) else none
  | _, _ => none
def bop : BOp → D → D → Option D
  | .add, .p (.int i), .p (.int j) => some (.p (.int (i + j)))
  | .add, .p (.str x), .p (.str y) => if x.length + y.length ≤ sizeLine then some (.p (.str (x ++ y))) else none
  | .add, .p (.tuple x), .p (.tuple y) => if x.length + y.length ≤ sizeLine then some (.p (.tuple (x ++ y))) else none
  | .sub, .p (.int i), .p (.int j) => some (.p (.int (i - j)))
  | .mul, .p (.int i), .p (.int j) => if (-(2 ^ 64) < i ∧ i < 2 ^ 64) ∨ (-(2 ^ 64) < j ∧ j < 2 ^ 64) then some (.p (.int (i * j))) else none
  | .fdiv, .p (.int i), .p (.int j) => if 0 < j ∧ j.natAbs.log2 < 9000 then some (.p (.int (i / j))) else none
  | .mod, .p (.int i), .p (.int j) => if 0 < j then some (.p (.int (i % j))) else none
  | .pow, .p (.int i), .p (.int j) => if 0 ≤ j ∧ j ≤ 1000000 ∧ i.natAbs < 2 ^ 64 then some (.p (.int (i ^ j.toNat))) else none
  | _, _, _ => none
def flatP : PyData → Bool
  | .none => true | .bool _ => true | .int _ => true | .str _ => true
  | _ => false
def inStr (x y : Str) : Bool := !(Builtin.Str.occurrences y x 0 y.length 1).isEmpty
def plainOf : List D → Option (List PyData)
  | [] => some []
  | .p d :: r => (plainOf r).map (d :: ·)
  | _ :: _ => none
def inD (S : Sto) : D → D → Option Bool
  | .p (.str x), .p (.str y) => some (inStr x y)
  | .p x, .p (.tuple ys) => if flatP x && ys.all flatP then some (ys.any fun y => PyData.eqv y x) else none
  | d, .ref j => match S[j]? with
    | some (.dic kvs) => (keyOf d).map fun k => (valD kvs k).isSome
    | some (.lst es) => (match d, plainOf es with
      | .p x, some ps => if SeqAt.shaped x = true ∧ SeqAt.shaped (.list ps) = true then some (ps.any fun y => PyData.eqv y x) else none
      | _, _ => none)
    | _ => none
  | _, _ => none
def isNonP : PyData → Bool
  | .none => true
  | _ => false
def cop (S : Sto) : COp → D → D → Option Bool
  | .eq, a, b => eqD a b
  | .ne, a, b => (eqD a b).map (!·)
  | .lt, .p (.int i), .p (.int j) => some (decide (i < j))
  | .le, .p (.int i), .p (.int j) => some (decide (i ≤ j))
  | .gt, .p (.int i), .p (.int j) => some (decide (j < i))
  | .ge, .p (.int i), .p (.int j) => some (decide (j ≤ i))
  | .in_, a, b => inD S a b
  | .notin, a, b => (inD S a b).map (!·)
  | .is_, .p (.bool a), .p (.bool b) => some (decide (a = b))
  | .isnot, .p (.bool a), .p (.bool b) => some (!decide (a = b))
  | .is_, .p a, .p .none => some (isNonP a)
  | .isnot, .p a, .p .none => some (!isNonP a)
  | _, _, _ => none
def getI (S : Sto) : D → D → Option D
  | .p (.tuple ds), .p (.int i) => (L2.atI ds i).map .p
  | .p (.str z), .p (.int i) => if z.length ≤ sizeLine then (L2.atI z.cps.toList i).map fun c => .p (.str ⟨#[c]⟩) else none
  | .ref j, .p (.int i) => match S[j]? with
    | some (.lst ds) => L2.atI ds i
    | _ => none
  | _, _ => none
def cutP (xs : List PyData) (lo hi : Option Int) : List PyData := (xs.drop (HT.sIx xs.length 0 lo)).take (HT.sIx xs.length xs.length hi - HT.sIx xs.length 0 lo)
def sliceD : D → Option Int → Option Int → Option D
  | .p (.tuple ds), lo, hi => some (.p (.tuple (cutP ds lo hi)))
  | .p (.str z), lo, hi => if z.length ≤ sizeLine then some (.p (.str (L2.cutS z lo hi))) else none
  | _, _, _ => none
def lenD (S : Sto) : D → Option Int
  | .p (.tuple ds) => some ds.length
  | .p (.str z) => if z.length ≤ sizeLine then some z.length else none
  | .ref j => match S[j]? with
    | some (.lst ds) => some ds.length
    | _ => none
  | _ => none
def isiD : D → Ty → Option Bool
  | .p .none, _ => some false
  | .p (.bool _), .int => some true
  | .p (.bool _), .bool => some true
  | .p (.bool _), _ => some false
  | .p (.int _), .int => some true
  | .p (.int _), _ => some false
  | .p (.str _), .str => some true
  | .p (.str _), _ => some false
  | .p (.tuple _), .tuple => some true
  | .p (.tuple _), _ => some false
  | _, _ => none
def boolsOf : List D → Option (List Bool)
  | [] => some []
  | .p (.bool b) :: r => (boolsOf r).map (b :: ·)
  | _ :: _ => none
def strsOf : List PyData → Option (List Str)
  | [] => some []
  | .str z :: r => (strsOf r).map (z :: ·)
  | _ :: _ => none
def pairsOf : List PyData → Option (List (Sum Int Str × D))
  | [] => some []
  | .tuple [k, v] :: r => (keyOf (.p k)).bind fun k => (pairsOf r).map ((k, .p v) :: ·)
  | _ :: _ => none
/-- how many unlike texts -/
def unlike : List Str → List Str
  | [] => []
  | x :: r => if x ∈ r then unlike r else x :: unlike r
def mergeD (more : List (Sum Int Str × D)) : List (Sum Int Str × D) := more.foldl (fun acc kv => putD acc kv.1 kv.2) []
def asBool : D → Option Bool
  | .p (.bool b) => some b
  | _ => none
def asInt : D → Option Int
  | .p (.int i) => some i
  | _ => none
def intOf : D → Option Int
  | .p (.int i) => some i
  | .p (.bool b) => some (if b then 1 else 0)
  | _ => none
/-- a list of the store, whole -/
def lstAt (S : Sto) : D → Option (List D)
  | .ref j => match S[j]? with
    | some (.lst ds) => some ds
    | _ => none
  | _ => none
/-- what a loop walks: a fixed row of values, or the list at j as it stands -/
inductive Src where
  | fix (ds : List D)
  | dyn (j : Nat)
def Src.at (s : Src) (i : Nat) (S : Sto) : Option (Option D) := match s with
  | .fix ds => some ds[i]?
  | .dyn j => match S[j]? with
    | some (.lst ds) => some ds[i]?
    | _ => none
def Src.size (s : Src) (S : Sto) : Option Nat := match s with
  | .fix ds => some ds.length
  | .dyn j => match S[j]? with
    | some (.lst ds) => some ds.length
    | _ => none
def lensetD : D → Option D
  | .p (.tuple ds) => (strsOf ds).bind fun zs => if zs.length ≤ 1 then some (.p (.int (unlike zs).length)) else none
  | _ => none
def strD : D → Option D
  | .p (.str z) => some (.p (.str z))
  | _ => none
def lensetLD (ds : List D) : Option D := (plainOf ds).bind fun ps => (strsOf ps).bind fun zs => if zs.length ≤ 1000 then some (.p (.int (unlike zs).length)) else none
def tupD (S : Sto) (x : D) : Option D := (lstAt S x).bind fun ds => (plainOf ds).map fun ps => .p (.tuple ps)
def dictD : D → Option (List (Sum Int Str × D))
  | .p (.tuple ds) => (pairsOf ds).bind fun kvs => if kvs.length ≤ 1000 then some (mergeD kvs) else none
  | _ => none
def dicAt (S : Sto) : D → Option (List (Sum Int Str × D))
  | .ref j => match S[j]? with
    | some (.dic kvs) => some kvs
    | _ => none
  | _ => none
def dgetD (S : Sto) (x y : D) : Option D := (dicAt S x).bind fun kvs => (keyOf y).map fun k => (valD kvs k).getD (.p .none)
def wgetD (kvs : List (Str × PyData)) : D → Option D
  | .p (.str z) => some (.p ((kvs.lookup z).getD .none))
  | _ => none
def popD : D → D → M D
  | .ref j, .p (.int i) => fun S => if i = 0 then (match S[j]? with
    | some (.lst (d :: ds)) => .val d (S.set j (.lst ds))
    | _ => .bad) else .bad
  | _, _ => M.bad
def appD : D → D → M D
  | .ref j, y => fun S => match S[j]? with
    | some (.lst ds) => if rb j y = true ∧ ds.length < 100000 then .val (.p .none) (S.set j (.lst (ds ++ [y]))) else .bad
    | _ => .bad
  | _, _ => M.bad
def setD : D → D → D → M Unit
  | .ref j, .p (.int k), d => fun S => match S[j]? with
    | some (.lst ds) => match L2.ixN ds.length k with
      | some n => if rb j d = true then .val () (S.set j (.lst (ds.set n d))) else .bad
      | none => .bad
    | some (.dic kvs) => if rb j d = true ∧ kvs.length ≤ 1000 then .val () (S.set j (.dic (putD kvs (.inl k) d))) else .bad
    | _ => .bad
  | .ref j, .p (.str k), d => fun S => match S[j]? with
    | some (.dic kvs) => if rb j d = true ∧ kvs.length ≤ 1000 then .val () (S.set j (.dic (putD kvs (.inr k) d))) else .bad
    | _ => .bad
  | _, _, _ => M.bad
def txO : TxO → Str → Str
  | .lower, z => Txt.lower z
  | .upper, z => Txt.upper z
  | .strip, z => Txt.strip z
def txtD (o : TxO) : D → Option D
  | .p (.str z) => if z.length ≤ 5000000 then some (.p (.str (txO o z))) else none
  | _ => none
def strOfD : D → Option D
  | .p (.int i) => if i.natAbs.log2 < 1920 then some (.p (.str (toString i))) else none
  | .p (.str z) => some (.p (.str z))
  | _ => none
/-- the parts of an f-string -/
def fpart : D → Option Str
  | .p (.int i) => if i.natAbs.log2 < 1920 then some (toString i) else none
  | .p (.str z) => if z.length ≤ sizeLine then some z else none
  | _ => none
def fstep (acc : Str) (d : D) : Option Str := (fpart d).bind fun z => if (acc ++ z).length ≤ sizeLine then some (acc ++ z) else none
/-- true or false of a value -/
def truthD (S : Sto) : D → Option D
  | .p .none => some (.p (.bool false))
  | .p (.bool b) => some (.p (.bool b))
  | .p (.int i) => some (.p (.bool (!decide (i = 0))))
  | .p (.str z) => if z.length ≤ sizeLine then some (.p (.bool (!decide (z.length = 0)))) else none
  | .p (.tuple ds) => some (.p (.bool (!ds.isEmpty)))
  | .ref j => match S[j]? with
    | some (.lst ds) => some (.p (.bool (!ds.isEmpty)))
    | some (.dic kvs) => some (.p (.bool (!kvs.isEmpty)))
    | none => none
  | _ => none
def extD : D → D → M D
  | .ref j, y => fun S => match S[j]?, lstAt S y with
    | some (.lst ds), some es => if es.all (rb j) = true ∧ ds.length + es.length ≤ 100000 then .val (.p .none) (S.set j (.lst (ds ++ es))) else .bad
    | _, _ => .bad
  | _, _ => M.bad
def eqLD (neg : Bool) (ds es : List D) : Option D := (plainOf ds).bind fun ps => (plainOf es).bind fun qs =>
  if SeqAt.shaped (.list ps) = true ∧ SeqAt.shaped (.list qs) = true then some (.p (.bool (if neg then !PyData.eqvAll ps qs else PyData.eqvAll ps qs))) else none
def ofD (S : Sto) : D → Option (List D)
  | .ref j => lstAt S (.ref j)
  | .p (.tuple ds) => some (ds.map .p)
  | .p (.list ds) => some (ds.map .p)
  | _ => none
def joinD (S : Sto) : D → D → Option D
  | .p (.str a), y => (ofD S y).bind fun ds => (plainOf ds).bind fun ps => (strsOf ps).bind fun zs => if (zs.map (·.length)).sum + zs.length * a.length ≤ 16777216 then some (.p (.str (Txt.join a zs))) else none
  | _, _ => none
def splitD (sep : Str) : D → Option (List D)
  | .p (.str z) => if sep.length ≠ 0 ∧ z.length ≤ 100000 then some ((Txt.split z sep).map fun t => .p (.str t)) else none
  | _ => none
def catD (S : Sto) (x y : D) : Option (List D) := (lstAt S x).bind fun ds => (lstAt S y).bind fun es => if ds.length + es.length ≤ 100000 then some (ds ++ es) else none
def cutD (xs : List D) (lo hi : Option Int) : List D := (xs.drop (HT.sIx xs.length 0 lo)).take (HT.sIx xs.length xs.length hi - HT.sIx xs.length 0 lo)
def cutLD (S : Sto) (x : D) (lo hi : Option Int) : Option (List D) := (lstAt S x).map fun ds => cutD ds lo hi
def dlitD (ks : List Str) (ds : List D) : Option (List (Sum Int Str × D)) := if ks.length = ds.length ∧ ks.length ≤ 15 ∧ ks.length ≠ 0 then some (mergeD ((ks.map Sum.inr).zip ds)) else none
def dget3D (S : Sto) (x y w : D) : Option D := (dicAt S x).bind fun kvs => (keyOf y).map fun k => (valD kvs k).getD w
def srcTup : D → Option Src
  | .p (.tuple ds) => some (.fix (ds.map .p))
  | _ => none
def srcLst (S : Sto) : D → Option Src
  | .ref j => match S[j]? with
    | some (.lst _) => some (.dyn j)
    | _ => none
  | _ => none
def srcStr : D → Option Src
  | .p (.str z) => some (.fix (z.cps.toList.map fun c => .p (.str ⟨#[c]⟩)))
  | _ => none
def srcRng : D → Option Src
  | .p (.int n) => if n ≤ 100000 ∧ -100000 ≤ n then some (.fix ((List.range n.toNat).map fun (i : Nat) => .p (.int (i : Int)))) else none
  | _ => none
def srcZip : D → D → Option Src
  | .p (.tuple xs), .p (.tuple ys) => some (.fix ((xs.zip ys).map fun q => .p (.tuple [q.1, q.2])))
  | _, _ => none
abbrev Sl := List (Option D)
def wipeD (ρ : Sl) : List Nat → Sl
  | [] => ρ
  | v :: vs => (wipeD ρ vs).set v none
def setAll : List Nat → List D → Sl → Option Sl
  | [], [], ρ => some ρ
  | i :: is, d :: ds, ρ => setAll is ds (ρ.set i (some d))
  | _, _, _ => none
/-- a target: one name, or names of a tuple -/
def tgt (tg : List Nat) (one : Bool) (d : D) (ρ : Sl) : Option Sl :=
  if one then (match tg with | [i] => some (ρ.set i (some d)) | _ => none)
  else match d with
    | .p (.tuple ds) => if ds.length = tg.length then setAll tg (ds.map .p) ρ else none
    | _ => none
def lcGo (src : Src) (body : D → M D) : Nat → Nat → List D → M (List D)
  | 0, i, acc => fun S => match src.at i S with
    | some none => .val acc S
    | _ => .bad
  | n + 1, i, acc => fun S => match src.at i S with
    | some none => .val acc S
    | some (some d) => M.bind (body d) (fun e => lcGo src body n (i + 1) (acc ++ [e])) S
    | none => .bad
/-- the same, some left out -/
def lcGoF (src : Src) (body : D → M (Option D)) : Nat → Nat → List D → M (List D)
  | 0, i, acc => fun S => match src.at i S with
    | some none => .val acc S
    | _ => .bad
  | n + 1, i, acc => fun S => match src.at i S with
    | some none => .val acc S
    | some (some d) => M.bind (body d) (fun e => lcGoF src body n (i + 1) (match e with | some e => acc ++ [e] | none => acc)) S
    | none => .bad
/-- one comprehension within another: the second goes on with what is there -/
def lc2Go (src : Src) (body : D → List D → M (List D)) : Nat → Nat → List D → M (List D)
  | 0, i, acc => fun S => match src.at i S with
    | some none => .val acc S
    | _ => .bad
  | n + 1, i, acc => fun S => match src.at i S with
    | some none => .val acc S
    | some (some d) => M.bind (body d acc) (fun acc' => lc2Go src body n (i + 1) acc') S
    | none => .bad
/-- no exception may leave -/
def M.calm {α : Type} (m : M α) : M α := fun S => match m S with
  | .val a S' => .val a S'
  | _ => .bad
inductive Ctl where
  | next | brk | cont
  | ret (d : D)
def forGo (src : Src) (body : D → Sl → M (Ctl × Sl)) : Nat → Nat → Sl → M (Ctl × Sl)
  | 0, i, ρ => fun S => match src.at i S with
    | some none => .val (.next, ρ) S
    | _ => .bad
  | n + 1, i, ρ => fun S => match src.at i S with
    | some none => .val (.next, ρ) S
    | some (some d) => M.bind (body d ρ) (fun c => match c with
      | (.next, ρ') => forGo src body n (i + 1) ρ'
      | (.cont, ρ') => forGo src body n (i + 1) ρ'
      | (.brk, ρ') => M.pure (.next, ρ')
      | (.ret d, ρ') => M.pure (.ret d, ρ')) S
    | none => .bad
def alloc (o : MO) : M D := fun S => if rbO S.length o then .val (.ref S.length) (S ++ [o]) else .bad

section
variable (cal : Nat → List D → M D)
mutual
def evE : E → Sl → M D
  | .var i, ρ => M.opt (match ρ[i]? with | some (some d) => some d | _ => none)
  | .cst d, _ => M.pure d
  | .bin o a b, ρ => M.bind (evE a ρ) fun x => M.bind (evE b ρ) fun y => M.opt (bop o x y)
  | .cmp o a b, ρ => M.bind (evE a ρ) fun x => M.bind (evE b ρ) fun y => fun S => M.opt ((cop S o x y).map fun k => .p (.bool k)) S
  | .chain o o' a b c, ρ => M.bind (evE a ρ) fun x => M.bind (evE b ρ) fun y => M.bind (fun S => M.opt (cop S o x y) S) fun k =>
      if k = true then M.bind (evE c ρ) fun z => fun S => M.opt ((cop S o' y z).map fun k => .p (.bool k)) S else M.pure (.p (.bool false))
  | .and a b, ρ => M.bind (evE a ρ) fun x => M.bind (M.opt (asBool x)) fun k => if k = true then evE b ρ else M.pure (.p (.bool false))
  | .or a b, ρ => M.bind (evE a ρ) fun x => M.bind (M.opt (asBool x)) fun k => if k = true then M.pure (.p (.bool true)) else evE b ρ
  | .not a, ρ => M.bind (evE a ρ) fun x => M.bind (M.opt (asBool x)) fun k => M.pure (.p (.bool (!k)))
  | .ifx t a b, ρ => M.bind (evE t ρ) fun x => M.bind (M.opt (asBool x)) fun k => if k = true then evE a ρ else evE b ρ
  | .neg a, ρ => M.bind (evE a ρ) fun x => M.opt ((asInt x).map fun i => .p (.int (-i)))
  | .call f as, ρ => M.bind (evEs as ρ) fun ds => cal f ds
  | .callv i as, ρ => match ρ[i]? with
    | some (some (.fn f)) => M.bind (evEs as ρ) fun ds => cal f ds
    | _ => M.bad
  | .tup as, ρ => M.bind (evEs as ρ) fun ds => M.opt (if ds.length ≤ sizeLine then (plainOf ds).map fun ps => .p (.tuple ps) else none)
  | .lst l, ρ => M.bind (evL l ρ) fun ds => alloc (.lst ds)
  | .idx a b, ρ => M.bind (evE a ρ) fun x => M.bind (evE b ρ) fun y => fun S => M.opt (getI S x y) S
  | .idxL l b, ρ => M.bind (evL l ρ) fun ds => M.bind (evE b ρ) fun y => M.opt ((asInt y).bind fun i => L2.atI ds i)
  | .slice a lo hi, ρ => M.bind (evE a ρ) fun x => M.opt (sliceD x lo hi)
  | .txt o a, ρ => M.bind (evE a ρ) fun x => M.opt (txtD o x)
  | .strOf a, ρ => M.bind (evE a ρ) fun x => M.opt (strOfD x)
  | .join a b, ρ => M.bind (evE a ρ) fun x => M.bind (M.opt (strD x)) fun _ => M.bind (evE b ρ) fun y => fun S => M.opt (joinD S x y) S
  | .extend a e, ρ => M.bind (evE a ρ) fun x => M.bind (fun S => M.opt (lstAt S x) S) fun _ => M.bind (evE e ρ) fun y => extD x y
  | .slx a lo hi, ρ => M.bind (evE a ρ) fun x => M.bind (evB lo ρ) fun l => M.bind (evB hi ρ) fun h => M.opt (sliceD x l h)
  | .len a, ρ => M.bind (evE a ρ) fun x => fun S => M.opt ((lenD S x).map fun n => .p (.int n)) S
  | .lenset a, ρ => M.bind (evE a ρ) fun x => M.opt (lensetD x)
  | .lensc it tg one elt, ρ => M.bind (evI it ρ) fun src => M.bind (fun S => match src.size S with
    | some n => if n ≤ 1000 then lcGo src (fun d => M.calm (M.bind (match tgt tg one d (wipeD ρ tg) with
        | some ρ' => evE elt ρ'
        | none => M.bad) fun x => M.opt (strD x))) n 0 [] S else .bad
    | none => .bad) fun ds => M.opt (lensetLD ds)
  | .isi a t, ρ => M.bind (evE a ρ) fun x => M.opt ((isiD x t).map fun k => .p (.bool k))
  | .toInt a, ρ => M.bind (evE a ρ) fun x => M.opt ((intOf x).map fun i => .p (.int i))
  | .all l, ρ => M.bind (evL l ρ) fun ds => M.opt ((boolsOf ds).map fun bs => .p (.bool (bs.all id)))
  | .any l, ρ => M.bind (evL l ρ) fun ds => M.opt ((boolsOf ds).map fun bs => .p (.bool (bs.any id)))
  | .tupOf a, ρ => M.bind (evE a ρ) fun x => fun S => M.opt (tupD S x) S
  | .dictOf a, ρ => M.bind (evE a ρ) fun x => M.bind (M.opt (dictD x)) fun kvs => alloc (.dic kvs)
  | .dget a k, ρ => M.bind (evE a ρ) fun x => M.bind (fun S => M.opt (dicAt S x) S) fun _ => M.bind (evE k ρ) fun y => fun S => M.opt (dgetD S x y) S
  | .wget kvs k, ρ => M.bind (evE k ρ) fun y => M.opt (wgetD kvs y)
  | .popAt a k, ρ => M.bind (evE a ρ) fun x => M.bind (fun S => M.opt (lstAt S x) S) fun _ => M.bind (evE k ρ) fun y => popD x y
  | .append a e, ρ => M.bind (evE a ρ) fun x => M.bind (fun S => M.opt (lstAt S x) S) fun _ => M.bind (evE e ρ) fun y => appD x y
  | .eqLL neg l l2, ρ => M.bind (evL l ρ) fun ds => M.bind (evL l2 ρ) fun es => M.opt (eqLD neg ds es)
  | .eqL neg a l, ρ => M.bind (evE a ρ) fun x => M.bind (evL l ρ) fun es => fun S => M.opt ((lstAt S x).bind fun ds => eqLD neg ds es) S
  | .op1 f a, ρ => M.bind (evE a ρ) fun x => fun S => M.opt (f S x) S
  | .op2 f a b, ρ => M.bind (evE a ρ) fun x => M.bind (evE b ρ) fun y => fun S => M.opt (f S x y) S
  | .fstr as, ρ => M.bind (evF as Str.empty ρ) fun z => M.pure (.p (.str z))
  | .dlit ks as, ρ => M.bind (evEs as ρ) fun ds => M.bind (M.opt (dlitD ks ds)) fun kvs => alloc (.dic kvs)
  | .dget3 a k z, ρ => M.bind (evE a ρ) fun x => M.bind (fun S => M.opt (dicAt S x) S) fun _ => M.bind (evE k ρ) fun y => M.bind (evE z ρ) fun w => fun S => M.opt (dget3D S x y w) S
  | .slp a lo hi, ρ => M.bind (evE a ρ) fun x => M.bind (evB lo ρ) fun l => M.bind (evB hi ρ) fun h => match x with
    | .ref j => M.bind (fun S => M.opt (cutLD S (.ref j) l h) S) fun ds => alloc (.lst ds)
    | x => M.opt (sliceD x l h)
def evB : Bd → Sl → M (Option Int)
  | .no, _ => M.pure none
  | .at_ e, ρ => M.bind (evE e ρ) fun x => M.opt ((asInt x).map some)
def evF : Es → Str → Sl → M Str
  | .nil, acc, _ => M.pure acc
  | .cons e es, acc, ρ => M.bind (evE e ρ) fun d => M.bind (M.opt (fstep acc d)) fun acc' => evF es acc' ρ
  | .star _ _, _, _ => M.bad
def evEs : Es → Sl → M (List D)
  | .nil, _ => M.pure []
  | .cons e es, ρ => M.bind (evE e ρ) fun d => M.bind (evEs es ρ) fun ds => M.pure (d :: ds)
  | .star e es, ρ => M.bind (evE e ρ) fun x => M.bind (fun S => M.opt (ofD S x) S) fun xs => M.bind (evEs es ρ) fun ds => M.pure (xs ++ ds)
/-- a list that is made on the way and that nothing keeps -/
def evL : L → Sl → M (List D)
  | .disp es, ρ => M.bind (evEs es ρ) fun ds => M.opt (if ds.length ≤ 100000 then some ds else none)
  | .lc it tg one elt, ρ => M.bind (evI it ρ) fun src => fun S => match src.size S with
    | some n => if n ≤ 100000 then lcGo src (fun d => M.calm (match tgt tg one d (wipeD ρ tg) with
        | some ρ' => evE elt ρ'
        | none => M.bad)) n 0 [] S else .bad
    | none => .bad
  | .lcf it tg one c elt, ρ => M.bind (evI it ρ) fun src => fun S => match src.size S with
    | some n => if n ≤ 100000 then lcGoF src (fun d => M.calm (match tgt tg one d (wipeD ρ tg) with
        | some ρ' => M.bind (evE c ρ') fun x => M.bind (M.opt (asBool x)) fun k => if k = true then M.bind (evE elt ρ') fun z => M.pure (some z) else M.pure none
        | none => M.bad)) n 0 [] S else .bad
    | none => .bad
  | .lc2 it tg one e2 tg2 one2 elt, ρ => M.bind (evI it ρ) fun src => fun S => match src.size S with
    | some n => if n ≤ 100000 then lc2Go src (fun d acc => M.calm (match tgt tg one d (wipeD ρ (tg ++ tg2)) with
        | some ρ' => M.bind (evE e2 ρ') fun x => match x with
          | .p (.tuple ds) => if acc.length + ds.length ≤ 100000 then lcGo (.fix (ds.map .p)) (fun d => match tgt tg2 one2 d (wipeD ρ' tg2) with
            | some ρ'' => evE elt ρ''
            | none => M.bad) ds.length 0 acc else M.bad
          | _ => M.bad
        | none => M.bad)) n 0 [] S else .bad
    | none => .bad
  | .of e, ρ => M.bind (evE e ρ) fun x => fun S => M.opt (ofD S x) S
  | .split e sep, ρ => M.bind (evE e ρ) fun x => M.opt (splitD sep x)
  | .cat a b, ρ => M.bind (evE a ρ) fun x => M.bind (evE b ρ) fun y => fun S => M.opt (catD S x y) S
  | .cut a lo hi, ρ => M.bind (evE a ρ) fun x => M.bind (evB lo ρ) fun l => M.bind (evB hi ρ) fun h => fun S => M.opt (cutLD S x l h) S
  | .op1 f a, ρ => M.bind (evE a ρ) fun x => fun S => M.opt (f S x) S
  | .op2 f a b, ρ => M.bind (evE a ρ) fun x => M.bind (evE b ρ) fun y => fun S => M.opt (f S x y) S
def evI : Wi → Sl → M Src
  | .tup e, ρ => M.bind (evE e ρ) fun x => M.opt (srcTup x)
  | .lst e, ρ => M.bind (evE e ρ) fun x => fun S => M.opt (srcLst S x) S
  | .str e, ρ => M.bind (evE e ρ) fun x => M.opt (srcStr x)
  | .rng e, ρ => M.bind (evE e ρ) fun x => M.opt (srcRng x)
  | .zip a b, ρ => M.bind (evE a ρ) fun x => M.bind (evE b ρ) fun y => M.opt (srcZip x y)
end
mutual
def exS : St → Sl → M (Ctl × Sl)
  | .asg i e, ρ => M.bind (evE cal e ρ) fun d => M.pure (.next, ρ.set i (some d))
  | .unp is e, ρ => M.bind (evE cal e ρ) fun d => M.bind (M.opt (tgt is false d ρ)) fun ρ' => M.pure (.next, ρ')
  | .setI o i v, ρ => M.bind (evE cal v ρ) fun d => M.bind (evE cal o ρ) fun x => M.bind (evE cal i ρ) fun y => M.bind (setD x y d) fun _ => M.pure (.next, ρ)
  | .expr e, ρ => M.bind (evE cal e ρ) fun _ => M.pure (.next, ρ)
  | .ite t a b, ρ => M.bind (evE cal t ρ) fun x => M.bind (M.opt (asBool x)) fun k => if k = true then exSs a ρ else exSs b ρ
  | .for_ it tg one body, ρ => M.bind (evI cal it ρ) fun src => fun S => match src.size S with
    | some n => forGo src (fun d ρ' => match tgt tg one d ρ' with
        | some ρ'' => exSs body ρ''
        | none => M.bad) n 0 ρ S
    | none => .bad
  | .ret e, ρ => M.bind (evE cal e ρ) fun d => M.pure (.ret d, ρ)
def exSs : Ss → Sl → M (Ctl × Sl)
  | .nil, ρ => M.pure (.next, ρ)
  | .cons s r, ρ => M.bind (exS s ρ) fun c => match c with
    | (.next, ρ') => exSs r ρ'
    | c => M.pure c
end
end
/-- a def: how many parameters, how many names, its body -/
structure Fn where
  ar : Nat
  sz : Nat
  body : Ss
/-- what a call leaves behind: the objects that it made go, but what it hands back -/
def fix (n : Nat) (d : D) (S : Sto) : Out D := match d with
  | .ref j => if j < n then .val d (S.take n) else match S[j]? with
    | some o => if rbO n o then .val (.ref n) (S.take n ++ [o]) else .val d S
    | none => .bad
  | _ => .val d (S.take n)
def callF (cal : Nat → List D → M D) (f : Fn) (ds : List D) : M D := fun S =>
  if ds.length = f.ar then match exSs cal f.body (ds.map some ++ List.replicate (f.sz - f.ar) none) S with
    | .val (.ret d, _) S' => fix S.length d S'
    | .val (.next, _) S' => fix S.length (.p .none) S'
    | _ => .bad
  else .bad
def calK (fs : Nat → Option Fn) : Nat → Nat → List D → M D
  | 0 => fun _ _ _ => .bad
  | k + 1 => fun f ds => match fs f with
    | some g => callF (calK fs k) g ds
    | none => M.bad
end Ir
set_option Elab.async false
set_option maxRecDepth 100000
set_option maxHeartbeats 4000001
/-! How the values and the store stand in the layer's heap; readings by a run of the small language. -/
namespace Ir
open PySem L2 PySem.Spec PyProof.Rows

/-- a tuple whose object is known to have no dict of its own -/
def Ht (K : PySem.W.Frag) (H : Hp) (a : Addr) (xs : List V) : Prop := (∃ o : Obj, H a = some (.frz o (.tup xs)) ∧ o.dict = none) ∨
  ∃ (o : Obj) (its : Array Value) (n : Nat), K.lookup a = some o ∧ o.cls = .type "tuple" ∧ o.dict = none ∧ o.data = .seq its n ∧ its.size ≤ sizeLine ∧ Vals xs its.toList
theorem Ht.sq {K : PySem.W.Frag} {H : Hp} {a : Addr} {xs : List V} (h : Ht K H a xs) : SqT K H a xs := by
  rcases h with ⟨o, h, _⟩ | ⟨o, its, n, h1, h2, _, h4, h5, h6⟩
  · exact .inl (.inr ⟨o, h⟩)
  · exact .inr ⟨o, its, n, h1, h2, h4, h5, h6⟩
/-- a list that nobody changes: handed in, or written by the top -/
def Lf (K : PySem.W.Frag) (H : Hp) (a : Addr) (xs : List V) : Prop := (∃ o : Obj, H a = some (.frz o (.lst xs))) ∨
  ∃ (o : Obj) (its : Array Value) (n : Nat), K.lookup a = some o ∧ o.cls = .type "list" ∧ o.dict = none ∧ o.data = .seq its n ∧ its.size ≤ sizeLine ∧ Vals xs its.toList
theorem Lf.sq {K : PySem.W.Frag} {H : Hp} {a : Addr} {xs : List V} (h : Lf K H a xs) : SqL K H a xs := by
  rcases h with ⟨o, h⟩ | h
  · exact .inl (.inr ⟨o, h⟩)
  · exact .inr h
theorem Lf.of {K : PySem.W.Frag} {H : Hp} {a : Addr} {xs : List V} (ho : Only H) (h : SqL K H a xs) : Lf K H a xs := by
  rcases h with (h | h) | h
  · rcases ho a with e | ⟨o, ys, e⟩
    · rw [e] at h; cases h
    · rw [e] at h; cases h
  · exact .inl h
  · exact .inr h
mutual
inductive Tp (K : PySem.W.Frag) (H : Hp) : PyData → V → Prop
  | non : Tp K H .none .non
  | bl (b : Bool) : Tp K H (.bool b) (.bl b)
  | int (i : Int) : Tp K H (.int i) (.int i)
  | str (x : Str) : Tp K H (.str x) (.str x)
  | tup {a : Addr} {xs : List V} {ds : List PyData} : Ht K H a xs → TpA K H ds xs → Tp K H (.tuple ds) (.ref a)
  | lst {a : Addr} {xs : List V} {ds : List PyData} : Lf K H a xs → TpA K H ds xs → Tp K H (.list ds) (.ref a)
inductive TpA (K : PySem.W.Frag) (H : Hp) : List PyData → List V → Prop
  | nil : TpA K H [] []
  | cons {d : PyData} {v : V} {ds : List PyData} {vs : List V} : Tp K H d v → TpA K H ds vs → TpA K H (d :: ds) (v :: vs)
end
section
variable {K : PySem.W.Frag} {H : Hp}
theorem TpA.length : ∀ {ds : List PyData} {xs : List V}, TpA K H ds xs → ds.length = xs.length
  | [], _, h => by cases h; rfl
  | _ :: _, _, h => by
    cases h with
    | cons a b => rw [List.length_cons, List.length_cons, TpA.length b]
theorem TpA.get : ∀ {ds : List PyData} {xs : List V} {i : Nat} {d : PyData}, TpA K H ds xs → ds[i]? = some d → ∃ v, xs[i]? = some v ∧ Tp K H d v
  | [], _, _, _, _, e => by simp at e
  | d :: ds, _, 0, _, h, e => by
    cases h with
    | cons a b => simp at e; subst e; exact ⟨_, rfl, a⟩
  | d :: ds, _, i + 1, _, h, e => by
    cases h with
    | cons a b =>
      obtain ⟨v, h1, h2⟩ := TpA.get (i := i) b (by simpa using e)
      exact ⟨v, by simpa using h1, h2⟩
theorem TpA.append : ∀ {ds es : List PyData} {xs ys : List V}, TpA K H ds xs → TpA K H es ys → TpA K H (ds ++ es) (xs ++ ys)
  | [], _, _, _, h, k => by cases h; exact k
  | _ :: _, _, _, _, h, k => by
    cases h with
    | cons a b => exact .cons a (TpA.append b k)
theorem TpA.take : ∀ {ds : List PyData} {xs : List V} (n : Nat), TpA K H ds xs → TpA K H (ds.take n) (xs.take n)
  | _, _, 0, _ => by simp; exact .nil
  | [], _, n + 1, h => by cases h; exact .nil
  | _ :: _, _, n + 1, h => by
    cases h with
    | cons a b => exact .cons a (TpA.take n b)
theorem TpA.drop : ∀ {ds : List PyData} {xs : List V} (n : Nat), TpA K H ds xs → TpA K H (ds.drop n) (xs.drop n)
  | _, _, 0, h => h
  | [], _, n + 1, h => by cases h; exact .nil
  | _ :: _, _, n + 1, h => by
    cases h with
    | cons a b => exact TpA.drop n b
mutual
theorem Tp.dp : ∀ {d : PyData} {v : V}, Tp K H d v → Dp K H v d
  | .none, _, h => by cases h; exact .non
  | .bool _, _, h => by cases h; exact .bl _
  | .int _, _, h => by cases h; exact .int _
  | .str _, _, h => by cases h; exact .str _
  | .tuple ds, _, h => by
    cases h with
    | tup a b => exact .tup a.sq (TpA.dp b)
  | .list ds, _, h => by
    cases h with
    | lst a b => exact .lst a.sq (TpA.dp b)
  | .dict _, _, h => by cases h
theorem TpA.dp : ∀ {ds : List PyData} {xs : List V}, TpA K H ds xs → DpAll K H xs ds
  | [], _, h => by cases h; exact .nil
  | _ :: _, _, h => by
    cases h with
    | cons a b => exact .cons (Tp.dp a) (TpA.dp b)
end
end

/-- a value tells D: α the store's addresses, ph the defs' -/
def Tl (K : PySem.W.Frag) (ph : Nat → Option Addr) (α : List Addr) (H : Hp) : D → V → Prop
  | .p d, v => Tp K H d v
  | .ref i, v => ∃ a, α[i]? = some a ∧ v = .ref a
  | .fn i, v => ∃ a, ph i = some a ∧ v = .ref a
abbrev TlA (K : PySem.W.Frag) (ph : Nat → Option Addr) (α : List Addr) (H : Hp) : List D → List V → Prop := Paired (Tl K ph α H)
def ObT (K : PySem.W.Frag) (ph : Nat → Option Addr) (α : List Addr) (H : Hp) (a : Addr) : MO → Prop
  | .lst ds => ∃ xs, H a = some (.lst xs) ∧ TlA K ph α H ds xs
  | .dic kvs => ∃ ws : List (Key × V), H a = some (.dK ws) ∧ Paired (fun (p : Key × D) (q : Key × V) => p.1 = q.1 ∧ Tl K ph α H p.2 q.2) kvs ws
structure At (K : PySem.W.Frag) (ph : Nat → Option Addr) (α : List Addr) (H : Hp) (S : Sto) : Prop where
  len : α.length = S.length
  nd : α.Nodup
  obj : ∀ (i : Nat) (o : MO) (a : Addr), S[i]? = some o → α[i]? = some a → ObT K ph α H a o
  wf : ∀ (i : Nat) (o : MO), S[i]? = some o → rbO i o = true
structure Ext (α α' : List Addr) (H H' : Hp) : Prop where
  pre : ∀ (i : Nat) (a : Addr), α[i]? = some a → α'[i]? = some a
  keep : ∀ (a : Addr) (o : HO), H a = some o → a ∉ α → H' a = some o
  new : ∀ (a : Addr), a ∈ α' → a ∈ α ∨ H a = none
section
variable {K : PySem.W.Frag} {ph : Nat → Option Addr} {α α' α'' : List Addr} {H H' H'' : Hp} {S S' : Sto}
theorem Ext.refl (α : List Addr) (H : Hp) : Ext α α H H := ⟨fun _ _ h => h, fun _ _ h _ => h, fun _ h => .inl h⟩
theorem Ext.trans (x : Ext α α' H H') (y : Ext α' α'' H' H'') : Ext α α'' H H'' where
  pre := fun i a h => y.pre i a (x.pre i a h)
  keep := fun a o h n => y.keep a o (x.keep a o h n) fun m => by
    rcases x.new a m with z | z
    · exact n z
    · rw [h] at z; cases z
  new := fun a h => by
    rcases y.new a h with z | z
    · exact x.new a z
    · cases e : H a with
      | none => exact .inr rfl
      | some o =>
        by_cases m : a ∈ α
        · exact .inl m
        · rw [x.keep a o e m] at z; cases z
theorem At.mut (x : At K ph α H S) {a : Addr} (h : a ∈ α) : (∃ xs, H a = some (.lst xs)) ∨ ∃ ws, H a = some (.dK ws) := by
  obtain ⟨i, hi, e⟩ := List.getElem_of_mem h
  have e1 : α[i]? = some a := by rw [List.getElem?_eq_getElem hi, e]
  have hs : i < S.length := by rw [← x.len]; exact hi
  have e2 : S[i]? = some S[i] := List.getElem?_eq_getElem hs
  have q := x.obj i _ a e2 e1
  cases o : S[i] with
  | lst ds => rw [o] at q; obtain ⟨xs, h1, _⟩ := q; exact .inl ⟨xs, h1⟩
  | dic kvs => rw [o] at q; obtain ⟨ws, h1, _⟩ := q; exact .inr ⟨ws, h1⟩
theorem At.tupK (x : At K ph α H S) {a : Addr} {xs : List V} (h : H a = some (.tup xs)) : a ∉ α := fun m => by
  rcases x.mut m with ⟨_, z⟩ | ⟨_, z⟩ <;> (rw [h] at z; cases z)
theorem At.frzK (x : At K ph α H S) {a : Addr} {o : Obj} {u : HO} (h : H a = some (.frz o u)) : a ∉ α := fun m => by
  rcases x.mut m with ⟨_, z⟩ | ⟨_, z⟩ <;> (rw [h] at z; cases z)
/-- tuples and what is locked stay -/
structure KT (H H' : Hp) : Prop where
  tup : ∀ (a : Addr) (xs : List V), H a = some (.tup xs) → H' a = some (.tup xs)
  frz : ∀ (a : Addr) (o : Obj) (u : HO), H a = some (.frz o u) → H' a = some (.frz o u)
theorem KT.of (k : ∀ (a : Addr) (o : HO), H a = some o → a ∉ α → H' a = some o) (x : At K ph α H S) : KT H H' := ⟨fun a _ h => k a _ h (x.tupK h), fun a _ _ h => k a _ h (x.frzK h)⟩
theorem KT.lst {p : Addr} {xs : List V} {u : HO} (h : H p = some (.lst xs)) : KT H (L2.upd H p u) :=
  ⟨fun a _ q => by rw [upd_ne (fun z => by rw [z, h] at q; cases q)]; exact q, fun a _ _ q => by rw [upd_ne (fun z => by rw [z, h] at q; cases q)]; exact q⟩
theorem sqT_keep (k : KT H H') {a : Addr} {xs : List V} (h : SqT K H a xs) : SqT K H' a xs := by
  rcases h with (h | ⟨o, h⟩) | h
  · exact .inl (.inl (k.tup _ _ h))
  · exact .inl (.inr ⟨o, k.frz _ _ _ h⟩)
  · exact .inr h
theorem ht_keep (k : KT H H') {a : Addr} {xs : List V} (h : Ht K H a xs) : Ht K H' a xs := by
  rcases h with ⟨o, h, d⟩ | h
  · exact .inl ⟨o, k.frz _ _ _ h, d⟩
  · exact .inr h
mutual
theorem Tp.keep (k : KT H H') : ∀ {d : PyData} {v : V}, Tp K H d v → Tp K H' d v
  | .none, _, h => by cases h; exact .non
  | .bool _, _, h => by cases h; exact .bl _
  | .int _, _, h => by cases h; exact .int _
  | .str _, _, h => by cases h; exact .str _
  | .tuple ds, _, h => by
    cases h with
    | tup a b => exact .tup (ht_keep k a) (TpA.keep k b)
  | .list ds, _, h => by
    cases h with
    | lst a b => exact .lst (a.imp (fun ⟨o, z⟩ => ⟨o, k.frz _ _ _ z⟩) id) (TpA.keep k b)
  | .dict _, _, h => by cases h
theorem TpA.keep (k : KT H H') : ∀ {ds : List PyData} {xs : List V}, TpA K H ds xs → TpA K H' ds xs
  | [], _, h => by cases h; exact .nil
  | _ :: _, _, h => by
    cases h with
    | cons a b => exact .cons (Tp.keep k a) (TpA.keep k b)
end
theorem Ext.kt (e : Ext α α' H H') (x : At K ph α H S) : KT H H' := KT.of e.keep x
theorem Tl.ext (e : Ext α α' H H') (x : At K ph α H S) : ∀ {d : D} {v : V}, Tl K ph α H d v → Tl K ph α' H' d v
  | .p _, _, h => Tp.keep (e.kt x) h
  | .ref _, _, ⟨a, h1, h2⟩ => ⟨a, e.pre _ _ h1, h2⟩
  | .fn _, _, h => h
theorem TlA.ext (e : Ext α α' H H') (x : At K ph α H S) {ds : List D} {vs : List V} (h : TlA K ph α H ds vs) : TlA K ph α' H' ds vs := Paired.mapP h fun _ _ q => q.ext e x
/-- all tells stay when the heap changes at the store's own objects alone -/
theorem Tl.keep (k : KT H H') : ∀ {d : D} {v : V}, Tl K ph α H d v → Tl K ph α H' d v
  | .p _, _, h => Tp.keep k h
  | .ref _, _, h => h
  | .fn _, _, h => h
theorem TlA.plain : ∀ {ds : List D} {ps : List PyData} {vs : List V}, TlA K ph α H ds vs → plainOf ds = some ps → TpA K H ps vs
  | [], _, _, h, e => by
    cases h
    cases e
    exact .nil
  | .p d :: r, ps, _, h, e => by
    cases h with
    | cons a b =>
      unfold plainOf at e
      cases q : plainOf r with
      | none => rw [q] at e; cases e
      | some rs =>
        rw [q] at e
        cases e
        exact .cons a (TlA.plain b q)
  | .ref _ :: _, _, _, _, e => by cases e
  | .fn _ :: _, _, _, _, e => by cases e
theorem TpA.toTl : ∀ {ps : List PyData} {vs : List V}, TpA K H ps vs → TlA K ph α H (ps.map D.p) vs
  | [], _, h => by cases h; exact .nil
  | _ :: _, _, h => by
    cases h with
    | cons a b => exact .cons a (TpA.toTl b)
theorem Paired.get {A B : Type} {F : A → B → Prop} : ∀ {l : List A} {m : List B} {i : Nat} {a : A}, Paired F l m → l[i]? = some a → ∃ b, m[i]? = some b ∧ F a b
  | [], _, _, _, _, e => by simp at e
  | _ :: _, _, 0, _, h, e => by
    cases h with
    | cons x y => simp at e; subst e; exact ⟨_, rfl, x⟩
  | _ :: _, _, i + 1, _, h, e => by
    cases h with
    | cons x y =>
      obtain ⟨b, h1, h2⟩ := Paired.get (i := i) y (by simpa using e)
      exact ⟨b, by simpa using h1, h2⟩
theorem Paired.setAt {A B : Type} {F : A → B → Prop} {a : A} {b : B} (r : F a b) : ∀ {l : List A} {m : List B} (i : Nat), Paired F l m → Paired F (l.set i a) (m.set i b)
  | [], _, _, h => by cases h; exact .nil
  | _ :: _, _, 0, h => by
    cases h with
    | cons x y => exact .cons r y
  | _ :: _, _, i + 1, h => by
    cases h with
    | cons x y => exact .cons x (Paired.setAt r i y)
theorem Paired.app {A B : Type} {F : A → B → Prop} : ∀ {l l' : List A} {m m' : List B}, Paired F l m → Paired F l' m' → Paired F (l ++ l') (m ++ m')
  | [], _, _, _, h, k => by cases h; exact k
  | _ :: _, _, _, _, h, k => by
    cases h with
    | cons x y => exact .cons x (Paired.app y k)
/-- a store's list or dict at its address -/
theorem At.lst (x : At K ph α H S) {j : Nat} {ds : List D} (h : S[j]? = some (.lst ds)) : ∃ a xs, α[j]? = some a ∧ H a = some (.lst xs) ∧ TlA K ph α H ds xs := by
  have hj : j < α.length := by rw [x.len]; exact (List.getElem?_eq_some_iff.mp h).1
  have e : α[j]? = some α[j] := List.getElem?_eq_getElem hj
  obtain ⟨xs, h1, h2⟩ := x.obj j _ _ h e
  exact ⟨_, xs, e, h1, h2⟩
theorem At.dic (x : At K ph α H S) {j : Nat} {kvs : List (Key × D)} (h : S[j]? = some (.dic kvs)) : ∃ a ws, α[j]? = some a ∧ H a = some (.dK ws) ∧ Paired (fun (p : Key × D) (q : Key × V) => p.1 = q.1 ∧ Tl K ph α H p.2 q.2) kvs ws := by
  have hj : j < α.length := by rw [x.len]; exact (List.getElem?_eq_some_iff.mp h).1
  have e : α[j]? = some α[j] := List.getElem?_eq_getElem hj
  obtain ⟨xs, h1, h2⟩ := x.obj j _ _ h e
  exact ⟨_, xs, e, h1, h2⟩
theorem nd_at {A : Type} {l : List A} (hN : l.Nodup) {i j : Nat} {x : A} (a : l[i]? = some x) (b : l[j]? = some x) : i = j := by
  obtain ⟨h1, e1⟩ := List.getElem?_eq_some_iff.mp a
  obtain ⟨h2, e2⟩ := List.getElem?_eq_some_iff.mp b
  exact (List.getElem_inj hN).mp (e1.trans e2.symm)
theorem mem_at {A : Type} {l : List A} {i : Nat} {x : A} (a : l[i]? = some x) : x ∈ l := List.mem_of_getElem? a
/-- objects stay as told where the heap changed elsewhere -/
theorem ObT.keep (k : KT H H') {a : Addr} {o : MO} (e : H' a = H a) (h : ObT K ph α H a o) : ObT K ph α H' a o := by
  cases o with
  | lst ds =>
    obtain ⟨xs, h1, h2⟩ := h
    exact ⟨xs, e.trans h1, Paired.mapP h2 fun _ _ q => q.keep k⟩
  | dic kvs =>
    obtain ⟨ws, h1, h2⟩ := h
    exact ⟨ws, e.trans h1, Paired.mapP h2 fun _ _ q => ⟨q.1, q.2.keep k⟩⟩
/-- the list at j changed -/
theorem At.upd (x : At K ph α H S) {j : Nat} {a : Addr} {u : HO} {o : MO} (ha : α[j]? = some a) (hb : rbO j o = true) (ho : ∀ H' : Hp, KT H H' → H' a = some u → ObT K ph α H' a o) :
    Ext α α H (L2.upd H a u) ∧ At K ph α (L2.upd H a u) (S.set j o) := by
  have k : ∀ (b : Addr) (w : HO), H b = some w → b ∉ α → (L2.upd H a u) b = some w := fun b w hb n => by
    rw [upd_ne (fun z => n (by rw [z]; exact mem_at ha))]
    exact hb
  refine ⟨⟨fun _ _ h => h, k, fun _ h => .inl h⟩, ⟨by rw [List.length_set]; exact x.len, x.nd, fun i w b hi hba => ?_, fun i w hi => ?_⟩⟩
  · by_cases e : i = j
    · subst e
      rw [ha] at hba
      cases hba
      have hl : i < S.length := by rw [← x.len]; exact (List.getElem?_eq_some_iff.mp ha).1
      rw [List.getElem?_set_self hl] at hi
      cases hi
      exact ho _ (KT.of k x) upd_same
    · rw [List.getElem?_set_ne (Ne.symm e)] at hi
      refine (x.obj i w b hi hba).keep (KT.of k x) (upd_ne fun z => e ?_)
      subst z
      exact nd_at x.nd hba ha
  · by_cases e : i = j
    · subst e
      have hl : i < S.length := by rw [← x.len]; exact (List.getElem?_eq_some_iff.mp ha).1
      rw [List.getElem?_set_self hl] at hi
      cases hi
      exact hb
    · rw [List.getElem?_set_ne (Ne.symm e)] at hi
      exact x.wf i w hi
/-- a new object that the store does not know -/
theorem At.fresh (x : At K ph α H S) {p : Addr} {u : HO} (hp : H p = none) : Ext α α H (L2.upd H p u) ∧ At K ph α (L2.upd H p u) S := by
  have np : ∀ (b : Addr) (w : HO), H b = some w → b ≠ p := fun b w hb z => by rw [z, hp] at hb; cases hb
  have k : ∀ (b : Addr) (w : HO), H b = some w → b ∉ α → (L2.upd H p u) b = some w := fun b w hb _ => by rw [upd_ne (np b w hb)]; exact hb
  refine ⟨⟨fun _ _ h => h, k, fun _ h => .inl h⟩, ⟨x.len, x.nd, fun i w b hi hb => ?_, x.wf⟩⟩
  refine (x.obj i w b hi hb).keep (KT.of k x) ?_
  rcases x.mut (mem_at hb) with ⟨_, z⟩ | ⟨_, z⟩ <;> exact upd_ne (np _ _ z)
/-- a list apart from the store changes -/
theorem At.apart (x : At K ph α H S) {p : Addr} {xs : List V} {u : HO} (hp : H p = some (.lst xs)) (hn : p ∉ α) : At K ph α (L2.upd H p u) S :=
  ⟨x.len, x.nd, fun i w b hi hb => (x.obj i w b hi hb).keep (KT.lst hp) (upd_ne fun z => hn (by rw [← z]; exact mem_at hb)), x.wf⟩
/-- an object that lies in the heap comes into the store -/
theorem At.take_in (x : At K ph α H S) {p : Addr} {o : MO} (hn : p ∉ α) (ho : ObT K ph α H p o) (hb : rbO S.length o = true) : At K ph (α ++ [p]) H (S ++ [o]) ∧ ∀ (i : Nat) (a : Addr), α[i]? = some a → (α ++ [p])[i]? = some a := by
  have pre : ∀ (i : Nat) (a : Addr), α[i]? = some a → (α ++ [p])[i]? = some a := fun i a h => by rw [List.getElem?_append_left (List.getElem?_eq_some_iff.mp h).1]; exact h
  have tl : ∀ {d : D} {v : V}, Tl K ph α H d v → Tl K ph (α ++ [p]) H d v := fun {d v} h => by
    cases d with
    | p d => exact h
    | ref i => obtain ⟨a, h1, h2⟩ := h; exact ⟨a, pre _ _ h1, h2⟩
    | fn i => exact h
  have ot : ∀ {a : Addr} {o : MO}, ObT K ph α H a o → ObT K ph (α ++ [p]) H a o := fun {a o} h => by
    cases o with
    | lst ds => obtain ⟨xs, h1, h2⟩ := h; exact ⟨xs, h1, Paired.mapP h2 fun _ _ q => tl q⟩
    | dic kvs => obtain ⟨xs, h1, h2⟩ := h; exact ⟨xs, h1, Paired.mapP h2 fun _ _ q => ⟨q.1, tl q.2⟩⟩
  refine ⟨⟨by rw [List.length_append, List.length_append, x.len]; rfl, ?_, fun i w a hi ha => ?_, fun i w hi => ?_⟩, pre⟩
  · rw [List.nodup_append]
    exact ⟨x.nd, by simp, fun a h1 b h2 z => by simp at h2; subst h2; subst z; exact hn h1⟩
  · by_cases e : i < S.length
    · rw [List.getElem?_append_left e] at hi
      rw [List.getElem?_append_left (by rw [x.len]; exact e)] at ha
      exact ot (x.obj i w a hi ha)
    · have e1 : i = S.length := by
        have := (List.getElem?_eq_some_iff.mp hi).1
        rw [List.length_append, List.length_singleton] at this
        omega
      subst e1
      rw [List.getElem?_append_right (Nat.le_refl _)] at hi
      rw [← x.len, List.getElem?_append_right (Nat.le_refl _)] at ha
      simp at hi ha
      subst hi
      subst ha
      exact ot ho
  · by_cases e : i < S.length
    · rw [List.getElem?_append_left e] at hi
      exact x.wf i w hi
    · have e1 : i = S.length := by
        have := (List.getElem?_eq_some_iff.mp hi).1
        rw [List.length_append, List.length_singleton] at this
        omega
      subst e1
      rw [List.getElem?_append_right (Nat.le_refl _)] at hi
      simp at hi
      subst hi
      exact hb
theorem rb_mono {n m : Nat} (h : n ≤ m) {d : D} (r : rb n d = true) : rb m d = true := by
  cases d with
  | p _ => rfl
  | ref j => exact decide_eq_true (Nat.lt_of_lt_of_le (of_decide_eq_true r) h)
  | fn _ => rfl
theorem rbO_mono {n m : Nat} (h : n ≤ m) {o : MO} (r : rbO n o = true) : rbO m o = true := by
  cases o with
  | lst ds =>
    unfold rbO at r ⊢
    rw [List.all_eq_true] at r ⊢
    exact fun d hd => rb_mono h (r d hd)
  | dic kvs =>
    unfold rbO at r ⊢
    rw [List.all_eq_true] at r ⊢
    exact fun d hd => rb_mono h (r d hd)
theorem Tl.cut {n : Nat} {d : D} {v : V} (r : rb n d = true) (h : Tl K ph α H d v) : Tl K ph (α.take n) H d v := by
  cases d with
  | p _ => exact h
  | ref j =>
    obtain ⟨a, h1, h2⟩ := h
    have hj : j < n := of_decide_eq_true r
    exact ⟨a, by rw [List.getElem?_take_of_lt hj]; exact h1, h2⟩
  | fn _ => exact h
theorem pair_all {A B : Type} {F G : A → B → Prop} {P : A → Bool} : ∀ {l : List A} {m : List B}, Paired F l m → l.all P = true → (∀ a b, P a = true → F a b → G a b) → Paired G l m
  | [], _, h, _, _ => by cases h; exact .nil
  | a :: l, _, h, q, k => by
    cases h with
    | cons x y =>
      rw [List.all_cons, Bool.and_eq_true] at q
      exact .cons (k _ _ q.1 x) (pair_all y q.2 k)
theorem ObT.cut {n : Nat} {o : MO} {a : Addr} (r : rbO n o = true) (h : ObT K ph α H a o) : ObT K ph (α.take n) H a o := by
  cases o with
  | lst ds =>
    obtain ⟨xs, h1, h2⟩ := h
    exact ⟨xs, h1, pair_all h2 r fun _ _ q z => z.cut q⟩
  | dic kvs =>
    obtain ⟨xs, h1, h2⟩ := h
    exact ⟨xs, h1, pair_all h2 r fun _ _ q z => ⟨z.1, z.2.cut q⟩⟩
theorem At.cut (x : At K ph α H S) (n : Nat) : At K ph (α.take n) H (S.take n) := by
  refine ⟨by rw [List.length_take, List.length_take, x.len], x.nd.sublist (List.take_sublist _ _), fun i o a hi ha => ?_, fun i o hi => ?_⟩
  · have hn : i < n := by
      have := (List.getElem?_eq_some_iff.mp hi).1
      rw [List.length_take] at this
      omega
    rw [List.getElem?_take_of_lt hn] at hi ha
    exact (x.obj i o a hi ha).cut (rbO_mono (Nat.le_of_lt hn) (x.wf i o hi))
  · have hn : i < n := by
      have := (List.getElem?_eq_some_iff.mp hi).1
      rw [List.length_take] at this
      omega
    rw [List.getElem?_take_of_lt hn] at hi
    exact x.wf i o hi
/-- the slots -/
structure Sr (K : PySem.W.Frag) (ph : Nat → Option Addr) (α : List Addr) (H : Hp) (σ : L2.St) (ρ : Sl) : Prop where
  len : σ.length = ρ.length
  at_ : ∀ (i : Nat) (d : D), ρ[i]? = some (some d) → ∃ v, σ[i]? = some (some v) ∧ Tl K ph α H d v
theorem Sr.ext {σ : L2.St} {ρ : Sl} (r : Sr K ph α H σ ρ) (e : Ext α α' H H') (x : At K ph α H S) : Sr K ph α' H' σ ρ := ⟨r.len, fun i d h => let ⟨v, h1, h2⟩ := r.at_ i d h; ⟨v, h1, h2.ext e x⟩⟩
theorem Sr.keep {σ : L2.St} {ρ : Sl} (r : Sr K ph α H σ ρ) (k : KT H H') : Sr K ph α H' σ ρ := ⟨r.len, fun i d h => let ⟨v, h1, h2⟩ := r.at_ i d h; ⟨v, h1, h2.keep k⟩⟩
theorem Sr.set {σ : L2.St} {ρ : Sl} (r : Sr K ph α H σ ρ) {i : Nat} {d : D} {v : V} (h : Tl K ph α H d v) : Sr K ph α H (σ.set i (some v)) (ρ.set i (some d)) := by
  refine ⟨by rw [List.length_set, List.length_set, r.len], fun j e hj => ?_⟩
  by_cases q : i = j
  · subst q
    have hl : i < ρ.length := by
      have := (List.getElem?_eq_some_iff.mp hj).1
      rwa [List.length_set] at this
    rw [List.getElem?_set_self hl] at hj
    cases hj
    exact ⟨v, by rw [List.getElem?_set_self (by rw [r.len]; exact hl)], h⟩
  · rw [List.getElem?_set_ne q] at hj
    rw [List.getElem?_set_ne q]
    exact r.at_ j e hj
theorem Sr.none {σ : L2.St} {ρ : Sl} (r : Sr K ph α H σ ρ) (i : Nat) : Sr K ph α H (σ.set i Option.none) (ρ.set i Option.none) := by
  refine ⟨by rw [List.length_set, List.length_set, r.len], fun j e hj => ?_⟩
  by_cases q : i = j
  · subst q
    have hl : i < ρ.length := by
      have := (List.getElem?_eq_some_iff.mp hj).1
      rwa [List.length_set] at this
    rw [List.getElem?_set_self hl] at hj
    cases hj
  · rw [List.getElem?_set_ne q] at hj
    rw [List.getElem?_set_ne q]
    exact r.at_ j e hj
theorem Sr.wipe {σ : L2.St} {ρ : Sl} (r : Sr K ph α H σ ρ) : ∀ vs : List Nat, Sr K ph α H (L2.wipe σ vs) (wipeD ρ vs)
  | [] => r
  | v :: vs => (Sr.wipe r vs).none v
end
end Ir
set_option Elab.async false
set_option maxRecDepth 100000
set_option maxHeartbeats 4000001
/-! Readings by a run of the small language; a rule for each of its words. -/
namespace Ir
open PySem L2 PySem.Spec PyProof.Rows

/-- what a whole law has in common: the written part, the defs' addresses, how an exception lies -/
structure Gc where
  K : PySem.W.Frag
  ph : Nat → Option Addr
  TX : Ex → Value → Option Addr → Hp → Prop
abbrev Gc.At (g : Gc) := Ir.At g.K g.ph
abbrev Gc.Tl (g : Gc) := Ir.Tl g.K g.ph
abbrev Gc.TlA (g : Gc) := Ir.TlA g.K g.ph
abbrev Gc.Sr (g : Gc) := Ir.Sr g.K g.ph
def exW (g : Gc) (W : WX) (α : List Addr) (σ : L2.St) (H : Hp) (e : Ex) (S' : Sto) : Prop := ∀ cls dx α' H', Ext α α' H H' → g.At α' H' S' → g.TX e cls dx H' → W cls dx σ H'
/-- from the store S at α: m runs to its end, and k holds of what it gives, however the heap grew -/
def rAt (g : Gc) (W : WX) (α : List Addr) (S : Sto) {β : Type} (m : Sl → M β) (σ : L2.St) (H : Hp) (k : β → Sto → List Addr → Hp → Prop) : Prop :=
  ∃ ρ, g.At α H S ∧ g.Sr α H σ ρ ∧ wp (m ρ S) (fun b S' => ∀ α' H', Ext α α' H H' → g.At α' H' S' → k b S' α' H') (exW g W α σ H)
def rM (g : Gc) (W : WX) {β : Type} (m : Sl → M β) (σ : L2.St) (H : Hp) (k : β → Sto → List Addr → Hp → Prop) : Prop := ∃ α S, rAt g W α S m σ H k
section
variable {g : Gc} {W : WX} {α : List Addr} {S : Sto} {β γ : Type} {m : Sl → M β} {f : β → Sl → M γ} {σ : L2.St} {H : Hp}
theorem rAt.imp {k k' : β → Sto → List Addr → Hp → Prop} (h : rAt g W α S m σ H k) (i : ∀ b S' α' H', Ext α α' H H' → g.At α' H' S' → k b S' α' H' → k' b S' α' H') : rAt g W α S m σ H k' := by
  obtain ⟨ρ, a, r, h⟩ := h
  exact ⟨ρ, a, r, wp_mono h (fun b S' q α' H' e a' => i b S' α' H' e a' (q α' H' e a')) fun _ _ z => z⟩
theorem rAt.bind {k : γ → Sto → List Addr → Hp → Prop} (h : rAt g W α S (fun ρ => M.bind (m ρ) fun b => f b ρ) σ H k) : rAt g W α S m σ H (fun b S' α' H' => rAt g W α' S' (f b) σ H' k) := by
  obtain ⟨ρ, a, r, h⟩ := h
  refine ⟨ρ, a, r, wp_mono (wp_bind h) (fun b S' q α' H' e a' => ⟨ρ, a', r.ext e a, wp_mono q (fun c S2 q2 α2 H2 e2 a2 => q2 α2 H2 (e.trans e2) a2) fun x S2 z cls dx α2 H2 e2 a2 t => z cls dx α2 H2 (e.trans e2) a2 t⟩) fun _ _ z => z⟩
theorem rAt.opt {o : Sto → Option γ} {k : γ → Sto → List Addr → Hp → Prop} (h : rAt g W α S (fun _ => fun S => M.opt (o S) S) σ H k) : ∃ z, o S = some z ∧ ∀ α' H', Ext α α' H H' → g.At α' H' S → k z S α' H' := by
  obtain ⟨ρ, a, r, h⟩ := h
  cases e : o S with
  | none =>
    simp only [M.opt, e] at h
    exact h.elim
  | some z =>
    simp only [M.opt, e] at h
    exact ⟨z, rfl, h⟩
theorem rAt.here {k : β → Sto → List Addr → Hp → Prop} {b : β} (h : rAt g W α S (fun _ => M.pure b) σ H k) : ∀ α' H', Ext α α' H H' → g.At α' H' S → k b S α' H' := by
  obtain ⟨ρ, a, r, h⟩ := h
  exact h
theorem rAt.at_ {k : β → Sto → List Addr → Hp → Prop} (h : rAt g W α S m σ H k) : g.At α H S := let ⟨_, a, _⟩ := h; a
end

/-! ### the readings -/
def rE (g : Gc) (W : WX) (m : Sl → M D) : TE := fun σ H Q => rM g W m σ H fun d _ α' H' => ∀ v, g.Tl α' H' d v → Q v H'
def rT (g : Gc) (W : WX) (m : Sl → M D) : TT := fun σ H Q => rM g W m σ H fun d _ _ H' => ∃ b, d = .p (.bool b) ∧ Q b H'
def rA (g : Gc) (W : WX) (m : Sl → M (List D)) : TA := fun σ H Q => rM g W m σ H fun ds _ α' H' => ∀ vs, g.TlA α' H' ds vs → Q vs H'
/-- a list that lies apart from the store -/
def rL (g : Gc) (W : WX) (m : Sl → M (List D)) : TE := fun σ H Q => rM g W m σ H fun ds _ α' H' => ∀ p xs, p ∉ α' → SqL g.K H' p xs → H' p = some (.lst xs) → g.TlA α' H' ds xs → Q (.ref p) H'
section
variable {X : Cx} {g : Gc} {W : WX}
theorem pe_imp {e : Expr} {t t' : TE} (h : PE X e t) (i : ∀ σ H Q, t' σ H Q → t σ H Q) : PE X e t' := ⟨fun pins s σ H Q I q => h.run pins s σ H Q I (i σ H Q q)⟩
theorem pt_imp {e : Expr} {t t' : TT} (h : PT X e t) (i : ∀ σ H Q, t' σ H Q → t σ H Q) : PT X e t' := ⟨fun pins s σ H Q I q => h.run pins s σ H Q I (i σ H Q q)⟩
theorem pw_imp {e : Expr} {t t' : TT} (h : PW X e t) (i : ∀ σ H Q, t' σ H Q → t σ H Q) : PW X e t' := ⟨fun w pins s σ H Q I q => h.run w pins s σ H Q I (i σ H Q q)⟩
theorem pa_imp {e : List Expr} {t t' : TA} (h : PA X e t) (i : ∀ σ H Q, t' σ H Q → t σ H Q) : PA X e t' := ⟨fun p pins s σ H Q I q => h.run p pins s σ H Q I (i σ H Q q)⟩
theorem ps_imp {e : Stmt} {t t' : TS} (h : PS X e t) (i : ∀ D σ H, t' D σ H → t D σ H) : PS X e t' := ⟨fun pins s σ H D I q => h.run pins s σ H D I (i D σ H q)⟩
theorem pss_imp {e : List Stmt} {t t' : TS} (h : PSs X e t) (i : ∀ D σ H, t' D σ H → t D σ H) : PSs X e t' := ⟨fun pins s σ H D I q => h.run pins s σ H D I (i D σ H q)⟩
theorem pi_imp {tg iter : Expr} {t t' : TI} (h : PI X tg iter t) (i : ∀ σ H R, t' σ H R → t σ H R) : PI X tg iter t' := ⟨fun pins s σ H R I q => h.run pins s σ H R I (i σ H R q)⟩
end

section
variable {X : Cx} {g : Gc} {W : WX} {cal : Nat → List D → M D} {pos : Pos}
/-! ### names and constants -/
theorem e_var (i : Nat) {x : Str} (hN : X.N[i]? = some x := by rfl) (hv : Vis X.env.scope x := by first | exact Or.inl rfl | exact Or.inr (Or.inl rfl) | exact Or.inr (Or.inr rfl)) (hd : (x == ("__debug__" : Str)) = false := by decide)
    (hcd : (x == ("__classdict__" : Str)) = false := by decide) : PE X (.Name x pos) (rE g W (evE cal (.var i))) := by
  refine pe_imp (pe_var hN hv hd hcd) fun σ H Q h => ?_
  obtain ⟨α, S, ρ, a, r, h⟩ := h
  have h : wp ((M.opt (match ρ[i]? with | some (some d) => some d | _ => none) : M D) S) (fun b S' => ∀ α' H', Ext α α' H H' → g.At α' H' S' → ∀ v, g.Tl α' H' b v → Q v H') (exW g W α σ H) := h
  cases e : ρ[i]? with
  | none => simp only [e, M.opt] at h; exact h.elim
  | some o =>
    cases o with
    | none => simp only [e, M.opt] at h; exact h.elim
    | some d =>
      simp only [e, M.opt] at h
      obtain ⟨v, h1, h2⟩ := r.at_ i d e
      exact ⟨v, h1, h α H (Ext.refl α H) a v h2⟩
theorem cst_of {d : D} {v : V} {σ : L2.St} {H : Hp} {Q : VK} (h : rE g W (evE cal (.cst d)) σ H Q) (t : ∀ α, g.Tl α H d v) : Q v H := by
  obtain ⟨α, S, ρ, a, r, h⟩ := h
  exact h α H (Ext.refl α H) a v (t α)
theorem e_int {i : Int} {j : Nat} : PE X (.Constant (.int i) j pos) (rE g W (evE cal (.cst (.p (.int i))))) := pe_imp pe_int fun _ _ _ h => cst_of h fun _ => .int i
theorem e_bl {b : Bool} {j : Nat} : PE X (.Constant (.bool b) j pos) (rE g W (evE cal (.cst (.p (.bool b))))) := pe_imp pe_bl fun _ _ _ h => cst_of h fun _ => .bl b
theorem e_non {j : Nat} : PE X (.Constant .none j pos) (rE g W (evE cal (.cst (.p .none)))) := pe_imp pe_non fun _ _ _ h => cst_of h fun _ => .non
theorem e_str {x : Str} {j : Nat} : PE X (.Constant (.str x) j pos) (rE g W (evE cal (.cst (.p (.str x))))) := pe_imp pe_str fun _ _ _ h => cst_of h fun _ => .str x
/-- a constant of the module: its value tells d in every heap -/
structure Gv (g : Gc) (mg : Str → Option Value) (x : Str) (d : D) : Prop where
  ex : ∃ v u, mg x = some u ∧ RelV v u ∧ ∀ α H, g.Tl α H d v
theorem e_glob {x : Str} {d : D} (c : Gv g X.mg x d) (hg : Gl X x := by rfl) (hd : (x == ("__debug__" : Str)) = false := by decide) : PE X (.Name x pos) (rE g W (evE cal (.cst d))) := by
  obtain ⟨v, u, h1, h2, h3⟩ := c.ex
  exact pe_imp (pe_glob hg h1 h2 hd) fun σ H Q h => cst_of h fun α => h3 α H

/-! ### operators -/
/-- an operation by values, the heap as it stands or one new object more -/
def Op2 (g : Gc) (f : Sto → D → D → Option D) (r : R2) : Prop := ∀ α H S dx dy dz x y (Q : VK), g.At α H S → g.Tl α H dx x → g.Tl α H dy y → f S dx dy = some dz →
  (∀ α' H', Ext α α' H H' → g.At α' H' S → ∀ v, g.Tl α' H' dz v → Q v H') → r x y H Q
theorem tOp_of {r : R2} {ma mb : Sl → M D} {f : Sto → D → D → Option D} (o : Op2 g f r) {σ : L2.St} {H : Hp} {Q : VK}
    (h : rE g W (fun ρ => M.bind (ma ρ) fun x => M.bind (mb ρ) fun y => fun S => M.opt (f S x y) S) σ H Q) : tOp r (rE g W ma) (rE g W mb) σ H Q := by
  obtain ⟨α, S, h⟩ := h
  refine ⟨α, S, h.bind.imp fun x S1 α1 H1 e1 a1 h1 v tv => ⟨α1, S1, h1.bind.imp fun y S2 α2 H2 e2 a2 h2 u tu => ?_⟩⟩
  obtain ⟨z, hz, q⟩ := h2.opt
  exact o α2 H2 S2 x y z v u Q a2 (tv.ext e2 a1) tu hz q
theorem e_bin {op : Operator} {o : BOp} {r : R2} {a b : Expr} {ia ib : E} (ho : OpR X (binaryOp op) r) (oo : Op2 g (fun _ => bop o) r) (ha : PE X a (rE g W (evE cal ia))) (hb : PE X b (rE g W (evE cal ib))) :
    PE X (.BinOp a op b pos) (rE g W (evE cal (.bin o ia ib))) := pe_imp (pe_op ho ha hb) fun _ _ _ h => tOp_of oo h
theorem e_cmp {op : CmpOp} {o : COp} {r : R2} {a b : Expr} {ia ib : E} (ho : OpR X (compareOp op) r) (oo : Op2 g (fun S x y => (cop S o x y).map fun k => .p (.bool k)) r) (ha : PE X a (rE g W (evE cal ia))) (hb : PE X b (rE g W (evE cal ib)))
    (hm : behindInMarks op b = false := by first | exact nomark _ (by decide) (by decide) | rfl) : PE X (.Compare a [op] [b] pos) (rE g W (evE cal (.cmp o ia ib))) := pe_imp (pe_cmpR ho ha hb hm) fun _ _ _ h => tOp_of oo h
theorem t_of {t : TE} {m : Sl → M D} {σ : L2.St} {H : Hp} {Q : Bool → Hp → Prop} (i : ∀ Q', rE g W m σ H Q' → t σ H Q') (h : rT g W m σ H Q) : t σ H fun x H' => ∃ k, x = .bl k ∧ Q k H' := by
  refine i _ ?_
  obtain ⟨α, S, h⟩ := h
  refine ⟨α, S, h.imp fun d S1 α1 H1 e1 a1 q v tv => ?_⟩
  obtain ⟨b, rfl, q⟩ := q
  cases tv
  exact ⟨b, rfl, q⟩
theorem t_cmp {op : CmpOp} {o : COp} {r : R2} {a b : Expr} {ia ib : E} (ho : OpR X (compareOp op) r) (oo : Op2 g (fun S x y => (cop S o x y).map fun k => .p (.bool k)) r) (ha : PE X a (rE g W (evE cal ia))) (hb : PE X b (rE g W (evE cal ib)))
    (hm : behindInMarks op b = false := by first | exact nomark _ (by decide) (by decide) | rfl) : PT X (.Compare a [op] [b] pos) (rT g W (evE cal (.cmp o ia ib))) :=
  pt_imp (pt_cmpR ho ha hb hm) fun _ _ _ h => t_of (fun _ q => tOp_of oo q) h
theorem t_val {e : Expr} {ie : E} (h : PE X e (rE g W (evE cal ie))) (he : ∀ whole, isTrue e X.env whole = (do let v ← whole; standAt e.pos; holding [v] (truthy v)) := by intro _; rfl) : PT X e (rT g W (evE cal ie)) :=
  pt_imp (pt_val h he) fun _ _ _ q => t_of (fun _ z => z) q
theorem tChain_of {r r' : R2} {ma mb mc : Sl → M D} {o o' : COp} (oo : Op2 g (fun S x y => (cop S o x y).map fun k => .p (.bool k)) r) (oo' : Op2 g (fun S x y => (cop S o' x y).map fun k => .p (.bool k)) r') {σ : L2.St} {H : Hp} {Q : VK}
    (h : rE g W (fun ρ => M.bind (ma ρ) fun x => M.bind (mb ρ) fun y => M.bind (fun S => M.opt (cop S o x y) S) fun k =>
      if k = true then M.bind (mc ρ) fun z => fun S => M.opt ((cop S o' y z).map fun k => .p (.bool k)) S else M.pure (.p (.bool false))) σ H Q) : tChain r r' (rE g W ma) (rE g W mb) (rE g W mc) σ H Q := by
  obtain ⟨α, S, h⟩ := h
  refine ⟨α, S, h.bind.imp fun x S1 α1 H1 e1 a1 h1 v tv => ⟨α1, S1, h1.bind.imp fun y S2 α2 H2 e2 a2 h2 u tu => ?_⟩⟩
  have h3 := (rAt.bind (m := fun _ => fun S => M.opt (cop S o x y) S) (f := fun k ρ => if k = true then M.bind (mc ρ) fun z => fun S => M.opt ((cop S o' y z).map fun k => D.p (.bool k)) S else M.pure (.p (.bool false))) h2).opt
  obtain ⟨k, hk, q⟩ := h3
  refine oo α2 H2 S2 x y (.p (.bool k)) v u _ a2 (tv.ext e2 a1) tu (by show Option.map _ (cop S2 o x y) = _; rw [hk]; rfl) fun α3 H3 e3 a3 z tz => ?_
  cases tz
  refine ⟨k, rfl, ?_⟩
  have q3 := q α3 H3 e3 a3
  cases k with
  | false => exact q3.here α3 H3 (Ext.refl _ _) a3 _ (.bl false)
  | true =>
    refine ⟨α3, S2, (rAt.bind (m := mc) (f := fun z _ => fun S => M.opt ((cop S o' y z).map fun k => D.p (.bool k)) S) q3).imp fun z S4 α4 H4 e4 a4 h4 t tt => ?_⟩
    obtain ⟨zz, hz, q4⟩ := h4.opt
    exact oo' α4 H4 S4 y z zz u t Q a4 ((tu.ext e3 a2).ext e4 a3) tt hz q4
theorem e_chain {op op' : CmpOp} {o o' : COp} {r r' : R2} {a b c : Expr} {ia ib ic : E} (ho : OpR X (compareOp op) r) (ho' : OpR X (compareOp op') r') (oo : Op2 g (fun S x y => (cop S o x y).map fun k => .p (.bool k)) r)
    (oo' : Op2 g (fun S x y => (cop S o' x y).map fun k => .p (.bool k)) r') (ha : PE X a (rE g W (evE cal ia))) (hb : PE X b (rE g W (evE cal ib))) (hc : PE X c (rE g W (evE cal ic))) (hm : lastMarks [op, op'] [b, c] = false := by with_unfolding_all rfl) :
    PE X (.Compare a [op, op'] [b, c] pos) (rE g W (evE cal (.chain o o' ia ib ic))) := pe_imp (pe_chain ho ho' ha hb hc hm) fun _ _ _ h => tChain_of oo oo' h
theorem t_chain {op op' : CmpOp} {o o' : COp} {r r' : R2} {a b c : Expr} {ia ib ic : E} (ho : OpR X (compareOp op) r) (ho' : OpR X (compareOp op') r') (oo : Op2 g (fun S x y => (cop S o x y).map fun k => .p (.bool k)) r)
    (oo' : Op2 g (fun S x y => (cop S o' x y).map fun k => .p (.bool k)) r') (ha : PE X a (rE g W (evE cal ia))) (hb : PE X b (rE g W (evE cal ib))) (hc : PE X c (rE g W (evE cal ic))) (hm : lastMarks [op, op'] [b, c] = false := by with_unfolding_all rfl) :
    PT X (.Compare a [op, op'] [b, c] pos) (rT g W (evE cal (.chain o o' ia ib ic))) := pt_imp (pt_chain ho ho' ha hb hc hm) fun _ _ _ h => t_of (fun _ q => tChain_of oo oo' q) h

/-! ### and, or, not -/
theorem asBool_of {d : D} {b : Bool} (h : asBool d = some b) : d = .p (.bool b) := by
  cases d with
  | p d => cases d <;> simp [asBool] at h; rw [h]
  | ref _ => simp [asBool] at h
  | fn _ => simp [asBool] at h
theorem e_one {op : BoolOp} {a : Expr} {m : Sl → M D} (h : PE X a (rE g W m)) : PE X (.BoolOp op [a] pos) (rE g W m) := pe_one h
theorem andV_of {ma mb : Sl → M D} {σ : L2.St} {H : Hp} {Q : VK} (h : rE g W (fun ρ => M.bind (ma ρ) fun x => M.bind (M.opt (asBool x)) fun k => if k = true then mb ρ else M.pure (.p (.bool false))) σ H Q) :
    tAndV (rE g W ma) (rE g W mb) σ H Q := by
  obtain ⟨α, S, h⟩ := h
  refine ⟨α, S, h.bind.imp fun x S1 α1 H1 e1 a1 h1 v tv => ?_⟩
  obtain ⟨k, hk, q⟩ := (rAt.bind (m := fun _ => M.opt (asBool x)) (f := fun k ρ => if k = true then mb ρ else M.pure (.p (.bool false))) h1).opt
  rw [asBool_of hk] at tv
  cases tv
  refine ⟨k, rfl, ?_⟩
  have q := q α1 H1 (Ext.refl _ _) a1
  cases k with
  | true => exact ⟨α1, S1, q⟩
  | false => exact q.here α1 H1 (Ext.refl _ _) a1 _ (.bl false)
theorem orV_of {ma mb : Sl → M D} {σ : L2.St} {H : Hp} {Q : VK} (h : rE g W (fun ρ => M.bind (ma ρ) fun x => M.bind (M.opt (asBool x)) fun k => if k = true then M.pure (.p (.bool true)) else mb ρ) σ H Q) :
    tOrV (rE g W ma) (rE g W mb) σ H Q := by
  obtain ⟨α, S, h⟩ := h
  refine ⟨α, S, h.bind.imp fun x S1 α1 H1 e1 a1 h1 v tv => ?_⟩
  obtain ⟨k, hk, q⟩ := (rAt.bind (m := fun _ => M.opt (asBool x)) (f := fun k ρ => if k = true then M.pure (.p (.bool true)) else mb ρ) h1).opt
  rw [asBool_of hk] at tv
  cases tv
  refine ⟨k, rfl, ?_⟩
  have q := q α1 H1 (Ext.refl _ _) a1
  cases k with
  | true => exact q.here α1 H1 (Ext.refl _ _) a1 _ (.bl true)
  | false => exact ⟨α1, S1, q⟩
theorem e_and {a b : Expr} {rest : List Expr} {ia ib : E} (ha : PE X a (rE g W (evE cal ia))) (hb : PE X (.BoolOp .And (b :: rest) pos) (rE g W (evE cal ib))) : PE X (.BoolOp .And (a :: b :: rest) pos) (rE g W (evE cal (.and ia ib))) := pe_imp (pe_and ha hb) fun _ _ _ h => andV_of h
theorem e_or {a b : Expr} {rest : List Expr} {ia ib : E} (ha : PE X a (rE g W (evE cal ia))) (hb : PE X (.BoolOp .Or (b :: rest) pos) (rE g W (evE cal ib))) : PE X (.BoolOp .Or (a :: b :: rest) pos) (rE g W (evE cal (.or ia ib))) := pe_imp (pe_or ha hb) fun _ _ _ h => orV_of h
theorem e_not {a : Expr} {ia : E} (ha : PE X a (rE g W (evE cal ia))) : PE X (.UnaryOp .Not a pos) (rE g W (evE cal (.not ia))) := pe_imp (pe_not ha) fun σ H Q h => by
  obtain ⟨α, S, h⟩ := h
  refine ⟨α, S, (rAt.bind (m := evE cal ia) (f := fun x _ => M.bind (M.opt (asBool x)) fun k => M.pure (D.p (.bool (!k)))) h).imp fun x S1 α1 H1 e1 a1 h1 v tv => ?_⟩
  obtain ⟨k, hk, q⟩ := (rAt.bind (m := fun _ => M.opt (asBool x)) (f := fun k _ => M.pure (D.p (.bool (!k)))) h1).opt
  rw [asBool_of hk] at tv
  cases tv
  exact ⟨k, rfl, (q α1 H1 (Ext.refl _ _) a1).here α1 H1 (Ext.refl _ _) a1 _ (.bl _)⟩
/-- tests: the answer of the first, then the rest -/
theorem and_of {ma mb : Sl → M D} {σ : L2.St} {H : Hp} {Q : Bool → Hp → Prop} (h : rT g W (fun ρ => M.bind (ma ρ) fun x => M.bind (M.opt (asBool x)) fun k => if k = true then mb ρ else M.pure (.p (.bool false))) σ H Q) :
    tAnd (rT g W ma) (rT g W mb) σ H Q := by
  obtain ⟨α, S, h⟩ := h
  refine ⟨α, S, h.bind.imp fun x S1 α1 H1 e1 a1 h1 => ?_⟩
  obtain ⟨k, hk, q⟩ := (rAt.bind (m := fun _ => M.opt (asBool x)) (f := fun k ρ => if k = true then mb ρ else M.pure (.p (.bool false))) h1).opt
  refine ⟨k, asBool_of hk, ?_⟩
  have q := q α1 H1 (Ext.refl _ _) a1
  cases k with
  | true => exact ⟨α1, S1, q⟩
  | false =>
    obtain ⟨b, e, q⟩ := q.here α1 H1 (Ext.refl _ _) a1
    cases e
    exact q
theorem or_of {ma mb : Sl → M D} {σ : L2.St} {H : Hp} {Q : Bool → Hp → Prop} (h : rT g W (fun ρ => M.bind (ma ρ) fun x => M.bind (M.opt (asBool x)) fun k => if k = true then M.pure (.p (.bool true)) else mb ρ) σ H Q) :
    tOr (rT g W ma) (rT g W mb) σ H Q := by
  obtain ⟨α, S, h⟩ := h
  refine ⟨α, S, h.bind.imp fun x S1 α1 H1 e1 a1 h1 => ?_⟩
  obtain ⟨k, hk, q⟩ := (rAt.bind (m := fun _ => M.opt (asBool x)) (f := fun k ρ => if k = true then M.pure (.p (.bool true)) else mb ρ) h1).opt
  refine ⟨k, asBool_of hk, ?_⟩
  have q := q α1 H1 (Ext.refl _ _) a1
  cases k with
  | true =>
    obtain ⟨b, e, q⟩ := q.here α1 H1 (Ext.refl _ _) a1
    cases e
    exact q
  | false => exact ⟨α1, S1, q⟩
theorem w_and1 {a : Expr} {m : Sl → M D} (h : PT X a (rT g W m)) : PW X (.BoolOp .And [a] pos) (rT g W m) := pw_and1 h
theorem w_or1 {a : Expr} {m : Sl → M D} (h : PT X a (rT g W m)) : PW X (.BoolOp .Or [a] pos) (rT g W m) := pw_or1 h
theorem w_and {a b : Expr} {rest : List Expr} {ia ib : E} (ha : PT X a (rT g W (evE cal ia))) (hb : PW X (.BoolOp .And (b :: rest) pos) (rT g W (evE cal ib))) : PW X (.BoolOp .And (a :: b :: rest) pos) (rT g W (evE cal (.and ia ib))) := pw_imp (pw_and ha hb) fun _ _ _ h => and_of h
theorem w_or {a b : Expr} {rest : List Expr} {ia ib : E} (ha : PT X a (rT g W (evE cal ia))) (hb : PW X (.BoolOp .Or (b :: rest) pos) (rT g W (evE cal ib))) : PW X (.BoolOp .Or (a :: b :: rest) pos) (rT g W (evE cal (.or ia ib))) := pw_imp (pw_or ha hb) fun _ _ _ h => or_of h
theorem t_w {e : Expr} {m : Sl → M D} (h : PW X e (rT g W m)) : PT X e (rT g W m) := h.pt
theorem t_not {a : Expr} {ia : E} (ha : PT X a (rT g W (evE cal ia))) : PT X (.UnaryOp .Not a pos) (rT g W (evE cal (.not ia))) := pt_imp (pt_not ha) fun σ H Q h => by
  obtain ⟨α, S, h⟩ := h
  refine ⟨α, S, (rAt.bind (m := evE cal ia) (f := fun x _ => M.bind (M.opt (asBool x)) fun k => M.pure (D.p (.bool (!k)))) h).imp fun x S1 α1 H1 e1 a1 h1 => ?_⟩
  obtain ⟨k, hk, q⟩ := (rAt.bind (m := fun _ => M.opt (asBool x)) (f := fun k _ => M.pure (D.p (.bool (!k)))) h1).opt
  obtain ⟨b, e, q⟩ := (q α1 H1 (Ext.refl _ _) a1).here α1 H1 (Ext.refl _ _) a1
  cases e
  exact ⟨k, asBool_of hk, q⟩
theorem e_ifx {c a b : Expr} {ic ia ib : E} (hc : PT X c (rT g W (evE cal ic))) (ha : PE X a (rE g W (evE cal ia))) (hb : PE X b (rE g W (evE cal ib))) : PE X (.IfExp c a b pos) (rE g W (evE cal (.ifx ic ia ib))) := pe_imp (pe_ifExp hc ha hb) fun σ H Q h => by
  obtain ⟨α, S, h⟩ := h
  refine ⟨α, S, (rAt.bind (m := evE cal ic) (f := fun x ρ => M.bind (M.opt (asBool x)) fun k => if k = true then evE cal ia ρ else evE cal ib ρ) h).imp fun x S1 α1 H1 e1 a1 h1 => ?_⟩
  obtain ⟨k, hk, q⟩ := (rAt.bind (m := fun _ => M.opt (asBool x)) (f := fun k ρ => if k = true then evE cal ia ρ else evE cal ib ρ) h1).opt
  refine ⟨k, asBool_of hk, ?_⟩
  have q := q α1 H1 (Ext.refl _ _) a1
  cases k with
  | true => exact ⟨α1, S1, q⟩
  | false => exact ⟨α1, S1, q⟩
end
end Ir
set_option Elab.async false
set_option maxRecDepth 100000
set_option maxHeartbeats 4000001
/-! Operators by values, calls, displays, subscripts, built-ins. -/
namespace Ir
open PySem L2 PySem.Spec PyProof.Rows

section
variable {g : Gc} {α α' : List Addr} {H H' : Hp} {S S' : Sto}
theorem Ext.none {K : PySem.W.Frag} {ph : Nat → Option Addr} (e : Ext α α' H H') (x' : At K ph α' H' S') {p : Addr} (h : H' p = none) : H p = none := by
  cases q : H p with
  | none => rfl
  | some o =>
    by_cases m : p ∈ α
    · obtain ⟨i, hi, e1⟩ := List.getElem_of_mem m
      have m' := mem_at (e.pre i p (by rw [List.getElem?_eq_getElem hi, e1]))
      rcases x'.mut m' with ⟨_, z⟩ | ⟨_, z⟩ <;> (rw [h] at z; cases z)
    · rw [e.keep p o q m] at h; cases h
theorem At.notin {K : PySem.W.Frag} {ph : Nat → Option Addr} (x : At K ph α H S) {p : Addr} (h : H p = none) : p ∉ α := fun m => by
  rcases x.mut m with ⟨_, z⟩ | ⟨_, z⟩ <;> (rw [h] at z; cases z)
theorem Ext.notin {p : Addr} {o : HO} (e : Ext α α' H H') (h : H p = some o) (n : p ∉ α) : p ∉ α' := fun m => by
  rcases e.new p m with z | z
  · exact n z
  · rw [h] at z; cases z

/-! ### operators -/
theorem two_p {f : D → D → Option D} {dx dy dz : D} (h : f dx dy = some dz) (h1 : ∀ i y, f (.ref i) y = none) (h2 : ∀ i y, f (.fn i) y = none) (h3 : ∀ x i, f (.p x) (.ref i) = none) (h4 : ∀ x i, f (.p x) (.fn i) = none) :
    ∃ x y, dx = .p x ∧ dy = .p y := by
  cases dx with
  | p x =>
    cases dy with
    | p y => exact ⟨x, y, rfl, rfl⟩
    | ref i => rw [h3] at h; cases h
    | fn i => rw [h4] at h; cases h
  | ref i => rw [h1] at h; cases h
  | fn i => rw [h2] at h; cases h
/-- two ints -/
theorem o_int {o : BOp} {C : Int → Int → Prop} {gv : Int → Int → V} {f : Int → Int → Int} (hg : ∀ i j, gv i j = .int (f i j))
    (h : ∀ dx dy dz, bop o dx dy = some dz → ∃ i j, dx = .p (.int i) ∧ dy = .p (.int j) ∧ C i j ∧ dz = .p (.int (f i j))) : Op2 g (fun _ => bop o) (rI C gv) := by
  intro α H S dx dy dz x y Q a tx ty hz k
  obtain ⟨i, j, rfl, rfl, c, rfl⟩ := h _ _ _ hz
  cases tx
  cases ty
  exact ⟨i, j, rfl, rfl, c, by rw [hg]; exact k α H (Ext.refl _ _) a _ (.int _)⟩
theorem o_sub : Op2 g (fun _ => bop .sub) (rI0 fun i j => .int (i - j)) := by
  intro α H S dx dy dz x y Q a tx ty hz k
  have h : bop .sub dx dy = some dz := hz
  unfold bop at h
  split at h <;> first | (cases h; done) | skip
  all_goals (try (exfalso; simp_all; done))
  cases h
  cases tx
  cases ty
  exact ⟨_, _, rfl, rfl, k α H (Ext.refl _ _) a _ (.int _)⟩
/-- a new tuple, its object known -/
def rCatF (K : PySem.W.Frag) : R2 := fun x y H Q => ∃ a b xs ys, x = .ref a ∧ y = .ref b ∧ SqT K H a xs ∧ SqT K H b ys ∧ xs.length + ys.length ≤ sizeLine ∧
  (xs = [] → Q (.ref b) H) ∧ (ys = [] → Q (.ref a) H) ∧ ∀ p o, H p = none → o.dict = none → Q (.ref p) (upd H p (.frz o (.tup (xs ++ ys))))
theorem frz_new {P : Program} {w : World} {H : Hp} {h : Heap} {vs : List V} {us : List Value} (r : Vals vs us) (hz : vs.length ≤ sizeLine) :
    ObjOk P w H (h.push { cls := .type "tuple", data := .seq us.toArray }) h.objs.size (.frz { cls := .type "tuple", data := .seq us.toArray } (.tup vs)) :=
  ⟨Heap.get?_push_size _ rfl, hz, us, r, IsTup.new _ _⟩
theorem op_catF {X : Cx} : OpR X (binaryOp .Add) (rCatF X.K) := by
  intro pins s σ H x y v u Q I rx ry h
  obtain ⟨a, b, xs, ys, rfl, rfl, ha, hb, hz, q0, q1, q2⟩ := h
  cases rx
  cases ry
  obtain ⟨us, r1, p1, _⟩ := I.tuple ha
  obtain ⟨ws, r2, p2, _⟩ := I.tuple hb
  by_cases hx : us = []
  · subst hx
    cases r1
    exact cat_tup0 p1 p2 ⟨.ref b, H, I, rfl, q0 rfl⟩
  · refine HT.cat_tup p1 p2 hx (fun z => ⟨.ref a, H, I, rfl, q1 (by subst z; cases r2; rfl)⟩) (fun z => ?_) (by rw [← r1.length, ← r2.length]; exact hz)
    refine ⟨.ref s.heap.objs.size, upd H s.heap.objs.size (.frz { cls := .type "tuple", data := .seq (us ++ ws).toArray } (.tup (xs ++ ys))), I.laid (t' := s.toks) (fun b o q => Heap.get?_push_of_some _ q) (Nat.le_refl _) ?_, rfl, q2 _ _ (I.hok.fresh (Nat.le_refl _)) rfl⟩
    exact frz_new (r1.append r2) (by rw [List.length_append]; exact hz)
theorem o_add : Op2 g (fun _ => bop .add) (fun x y H Q => (rI0 (fun i j => .int (i + j)) x y H Q ∨ ∃ i j, x = .str i ∧ y = .str j ∧ i.length + j.length ≤ sizeLine ∧ Q (.str (i ++ j)) H) ∨ rCatF g.K x y H Q) := by
  intro α H S dx dy dz x y Q a tx ty hz k
  have h : bop .add dx dy = some dz := hz
  unfold bop at h
  split at h <;> first | (cases h; done) | skip
  all_goals (try (exfalso; simp_all; done))
  · cases h
    cases tx
    cases ty
    exact .inl (.inl ⟨_, _, rfl, rfl, k α H (Ext.refl _ _) a _ (.int _)⟩)
  · split at h
    · rename_i hl
      cases h
      cases tx
      cases ty
      exact .inl (.inr ⟨_, _, rfl, rfl, hl, k α H (Ext.refl _ _) a _ (.str _)⟩)
    · cases h
  · split at h
    · rename_i hl
      cases h
      cases tx with
      | @tup b xs _ hq ha =>
        cases ty with
        | @tup c ys _ hr hb =>
          refine .inr ⟨b, c, xs, ys, rfl, rfl, hq.sq, hr.sq, by rw [← ha.length, ← hb.length]; exact hl, fun e => ?_, fun e => ?_, fun p o hp ho => ?_⟩
          · subst e
            cases ha
            exact k α H (Ext.refl _ _) a _ (.tup hr hb)
          · subst e
            cases hb
            exact k α H (Ext.refl _ _) a _ (.tup hq (by rw [List.append_nil]; exact ha))
          · obtain ⟨e1, a1⟩ := At.fresh a hp (u := .frz o (.tup (xs ++ ys)))
            exact k α _ e1 a1 _ (.tup (.inl ⟨o, upd_same, ho⟩) (TpA.append (ha.keep (e1.kt a)) (hb.keep (e1.kt a))))
    · cases h
theorem o_mul : Op2 g (fun _ => bop .mul) (rI CMul fun i j => .int (i * j)) := by
  refine o_int (f := fun i j => i * j) (fun _ _ => rfl) fun dx dy dz h => ?_
  unfold bop at h
  split at h <;> first | (cases h; done) | skip
  all_goals (try (exfalso; simp_all; done))
  split at h
  · rename_i c
    cases h
    exact ⟨_, _, rfl, rfl, c, rfl⟩
  · cases h
theorem o_fdiv : Op2 g (fun _ => bop .fdiv) (rI CDivW fun i j => .int (i / j)) := by
  refine o_int (f := fun i j => i / j) (fun _ _ => rfl) fun dx dy dz h => ?_
  unfold bop at h
  split at h <;> first | (cases h; done) | skip
  all_goals (try (exfalso; simp_all; done))
  split at h
  · rename_i c
    cases h
    exact ⟨_, _, rfl, rfl, c, rfl⟩
  · cases h
theorem o_mod : Op2 g (fun _ => bop .mod) (rI (fun _ j => 0 < j) fun i j => .int (i % j)) := by
  refine o_int (f := fun i j => i % j) (fun _ _ => rfl) fun dx dy dz h => ?_
  unfold bop at h
  split at h <;> first | (cases h; done) | skip
  all_goals (try (exfalso; simp_all; done))
  split at h
  · rename_i c
    cases h
    exact ⟨_, _, rfl, rfl, c, rfl⟩
  · cases h
theorem o_pow : Op2 g (fun _ => bop .pow) (rI CPow fun i j => .int (i ^ j.toNat)) := by
  refine o_int (f := fun i j => i ^ j.toNat) (fun _ _ => rfl) fun dx dy dz h => ?_
  unfold bop at h
  split at h <;> first | (cases h; done) | skip
  all_goals (try (exfalso; simp_all; done))
  split at h
  · rename_i c
    cases h
    exact ⟨_, _, rfl, rfl, c, rfl⟩
  · cases h
abbrev OpC (g : Gc) (o : COp) (r : R2) := Op2 g (fun S x y => (cop S o x y).map fun k => .p (.bool k)) r
theorem o_cmpI {o : COp} {f : Int → Int → Bool} (h : ∀ S dx dy k, cop S o dx dy = some k → ∃ i j, dx = .p (.int i) ∧ dy = .p (.int j) ∧ k = f i j) : OpC g o (rI0 fun i j => .bl (f i j)) := by
  intro α H S dx dy dz x y Q a tx ty hz k
  cases e : cop S o dx dy with
  | none => simp [e] at hz
  | some b =>
    simp [e] at hz
    subst hz
    obtain ⟨i, j, rfl, rfl, rfl⟩ := h _ _ _ _ e
    cases tx
    cases ty
    exact ⟨i, j, rfl, rfl, k α H (Ext.refl _ _) a _ (.bl _)⟩
theorem o_lt : OpC g .lt (rI0 fun i j => .bl (decide (i < j))) := o_cmpI fun S dx dy k h => by
  unfold cop at h
  split at h <;> first | (cases h; done) | skip
  all_goals (try (exfalso; simp_all; done))
  cases h
  exact ⟨_, _, rfl, rfl, rfl⟩
theorem o_le : OpC g .le (rI0 fun i j => .bl (decide (i ≤ j))) := o_cmpI fun S dx dy k h => by
  unfold cop at h
  split at h <;> first | (cases h; done) | skip
  all_goals (try (exfalso; simp_all; done))
  cases h
  exact ⟨_, _, rfl, rfl, rfl⟩
theorem o_gt : OpC g .gt (rI0 fun i j => .bl (decide (j < i))) := o_cmpI fun S dx dy k h => by
  unfold cop at h
  split at h <;> first | (cases h; done) | skip
  all_goals (try (exfalso; simp_all; done))
  cases h
  exact ⟨_, _, rfl, rfl, rfl⟩
theorem o_ge : OpC g .ge (rI0 fun i j => .bl (decide (j ≤ i))) := o_cmpI fun S dx dy k h => by
  unfold cop at h
  split at h <;> first | (cases h; done) | skip
  all_goals (try (exfalso; simp_all; done))
  cases h
  exact ⟨_, _, rfl, rfl, rfl⟩
theorem eqv_scal {K : PySem.W.Frag} {dx dy : PyData} {x y : V} (tx : Tp K H dx x) (ty : Tp K H dy y) (h : sameScal dx dy = true) : scal x y = true ∧ decide (x = y) = PyData.eqv dx dy := by
  cases dx <;> cases dy <;> first | (simp [sameScal] at h; done) | skip
  all_goals (cases tx; cases ty; refine ⟨rfl, ?_⟩)
  all_goals first | (simp [PyData.eqv]; done) | exact dec_bl.trans (by simp [PyData.eqv]) | exact dec_int.trans (by simp [PyData.eqv]) | exact dec_str.trans (by simp [PyData.eqv])
theorem o_eq : OpC g .eq (fun x y H Q => rEq x y H Q ∨ rEqD g.K x y H Q) := by
  intro α H S dx dy dz x y Q a tx ty hz k
  have hz : (eqD dx dy).map (fun k => D.p (.bool k)) = some dz := hz
  unfold eqD at hz
  split at hz
  · split at hz
    · rename_i u v hs
      obtain ⟨h1, h2⟩ := eqv_scal tx ty hs
      simp at hz
      subst hz
      exact .inl ⟨h1, by rw [h2]; exact k α H (Ext.refl _ _) a _ (.bl _)⟩
    · split at hz
      · rename_i hs
        rw [Bool.and_eq_true] at hs
        simp at hz
        subst hz
        exact .inr ⟨_, _, Tp.dp tx, Tp.dp ty, hs.1, hs.2, k α H (Ext.refl _ _) a _ (.bl _)⟩
      · simp at hz
  · simp at hz
theorem o_ne : OpC g .ne (fun x y H Q => rNe x y H Q ∨ rNeD g.K x y H Q) := by
  intro α H S dx dy dz x y Q a tx ty hz k
  have hz : ((eqD dx dy).map (!·)).map (fun k => D.p (.bool k)) = some dz := hz
  unfold eqD at hz
  split at hz
  · split at hz
    · rename_i u v hs
      obtain ⟨h1, h2⟩ := eqv_scal tx ty hs
      simp at hz
      subst hz
      exact .inl ⟨h1, by rw [h2]; exact k α H (Ext.refl _ _) a _ (.bl _)⟩
    · split at hz
      · rename_i hs
        rw [Bool.and_eq_true] at hs
        simp at hz
        subst hz
        exact .inr ⟨_, _, Tp.dp tx, Tp.dp ty, hs.1, hs.2, k α H (Ext.refl _ _) a _ (.bl _)⟩
      · simp at hz
  · simp at hz
theorem flat_of {K : PySem.W.Frag} {d : PyData} {v : V} (t : Tp K H d v) (h : flatP d = true) : flatV v = true := by
  cases d <;> first | (simp [flatP] at h; done) | skip
  all_goals (cases t; rfl)
theorem eqV_of {K : PySem.W.Frag} {d e : PyData} {v u : V} (t : Tp K H d v) (t' : Tp K H e u) (h : flatP d = true) (h' : flatP e = true) : eqV v u = PyData.eqv d e := by
  cases d <;> first | (simp [flatP] at h; done) | skip
  all_goals (cases e <;> first | (simp [flatP] at h'; done) | skip)
  all_goals (cases t; cases t'; first | rfl | (simp [eqV, PyData.eqv]; done))
theorem flats_of {K : PySem.W.Frag} : ∀ {ds : List PyData} {vs : List V}, TpA K H ds vs → ds.all flatP = true → vs.all flatV = true
  | [], _, h, _ => by cases h; rfl
  | d :: ds, _, h, q => by
    cases h with
    | cons a b =>
      rw [List.all_cons, Bool.and_eq_true] at q
      rw [List.all_cons, Bool.and_eq_true]
      exact ⟨flat_of a q.1, flats_of b q.2⟩
theorem inV_of {K : PySem.W.Frag} {d : PyData} {v : V} (t : Tp K H d v) (h : flatP d = true) : ∀ {ds : List PyData} {vs : List V}, TpA K H ds vs → ds.all flatP = true → inV v vs = ds.any fun y => PyData.eqv y d
  | [], _, q, _ => by cases q; rfl
  | e :: ds, _, q, r => by
    cases q with
    | cons a b =>
      rw [List.all_cons, Bool.and_eq_true] at r
      have ih := inV_of t h b r.2
      unfold inV at ih ⊢
      rw [List.any_cons, List.any_cons, ih, eqV_of a t r.1 h]
theorem key_V {K : PySem.W.Frag} {ph : Nat → Option Addr} {d : D} {v : V} {k : Key} (t : Ir.Tl K ph α H d v) (h : keyOf d = some k) : v = kV k := by
  cases d with
  | p d =>
    cases d <;> simp [keyOf] at h
    · subst h; cases t; rfl
    · subst h; cases t; rfl
  | ref _ => simp [keyOf] at h
  | fn _ => simp [keyOf] at h
theorem val_of {K : PySem.W.Frag} {ph : Nat → Option Addr} {k : Key} : ∀ {kvs : List (Key × D)} {ws : List (Key × V)}, Paired (fun (p : Key × D) (q : Key × V) => p.1 = q.1 ∧ Ir.Tl K ph α H p.2 q.2) kvs ws →
    match valD kvs k, valV ws k with
    | some d, some v => Ir.Tl K ph α H d v
    | .none, .none => True
    | _, _ => False
  | [], _, h => by cases h; trivial
  | (k', d) :: r, _, h => by
    cases h with
    | @cons _ q _ l2 a b =>
      obtain ⟨k2, v⟩ := q
      obtain ⟨e, t⟩ := a
      have e : k' = k2 := e
      subst e
      by_cases z : k' = k
      · have h1 : valD ((k', d) :: r) k = some d := by simp [valD, z]
        have h2 : valV ((k', v) :: l2) k = some v := valV_pos z
        rw [h1, h2]
        exact t
      · have h1 : valD ((k', d) :: r) k = valD r k := by simp [valD, z]
        have h2 : valV ((k', v) :: l2) k = valV l2 k := valV_neg z
        rw [h1, h2]
        exact val_of b
/-- in: a text in a text, a flat value in a tuple of such, a key in a dict -/
def rInA (K : PySem.W.Frag) (neg : Bool) : R2 := fun x y H Q => (((∃ i j, x = .str i ∧ y = .str j ∧ Q (.bl (if neg then !inStr i j else inStr i j)) H) ∨ rIn K neg x y H Q) ∨ ∃ b ws k, y = .ref b ∧ x = kV k ∧ H b = some (.dK ws) ∧ Q (.bl (if neg then !(valV ws k).isSome else (valV ws k).isSome)) H) ∨
  ∃ d ds, Dp K H x d ∧ Dp K H y (.list ds) ∧ SeqAt.shaped d = true ∧ SeqAt.shaped (.list ds) = true ∧ Q (.bl (if neg then !ds.any fun z => PyData.eqv z d else ds.any fun z => PyData.eqv z d)) H
theorem o_in_ (neg : Bool) {dx dy dz : D} {x y : V} {Q : VK} (a : g.At α H S) (tx : g.Tl α H dx x) (ty : g.Tl α H dy y) {b : Bool} (hz : inD S dx dy = some b) (e : dz = .p (.bool (if neg then !b else b)))
    (k : ∀ v, g.Tl α H dz v → Q v H) : rInA g.K neg x y H Q := by
  subst e
  have k : Q (.bl (if neg then !b else b)) H := k _ (.bl _)
  unfold inD at hz
  split at hz
  · cases hz
    cases tx
    cases ty
    exact .inl (.inl (.inl ⟨_, _, rfl, rfl, k⟩))
  · split at hz
    · rename_i hf
      rw [Bool.and_eq_true] at hf
      cases hz
      cases ty with
      | tup hq ha =>
        refine .inl (.inl (.inr ⟨_, _, rfl, .inr hq.sq, flat_of tx hf.1, flats_of ha hf.2, ?_⟩))
        rw [inV_of tx hf.1 ha hf.2]
        exact k
    · cases hz
  · rename_i j
    split at hz
    · rename_i kvs hj
      obtain ⟨p, ws, h1, h2, h3⟩ := At.dic a hj
      obtain ⟨p', h1', rfl⟩ := ty
      rw [h1] at h1'
      cases h1'
      cases hk : keyOf dx with
      | none => simp [hk] at hz
      | some key =>
        simp [hk] at hz
        have vo := val_of (k := key) h3
        refine .inl (.inr ⟨p, ws, key, rfl, key_V tx hk, h2, ?_⟩)
        have e : (valV ws key).isSome = b := by
          rw [← hz]
          revert vo
          cases valD kvs key <;> cases valV ws key <;> simp
        rw [e]
        exact k
    · rename_i es hj
      cases dx with
      | ref _ => cases hz
      | fn _ => cases hz
      | p dx =>
        cases ep : plainOf es with
        | none => rw [ep] at hz; cases hz
        | some ps =>
          rw [ep] at hz
          have hz : (if SeqAt.shaped dx = true ∧ SeqAt.shaped (.list ps) = true then some (ps.any fun y => PyData.eqv y dx) else none) = some b := hz
          by_cases hs : SeqAt.shaped dx = true ∧ SeqAt.shaped (.list ps) = true
          · rw [if_pos hs] at hz
            cases hz
            obtain ⟨p, xs, h1, h2, h3⟩ := At.lst a hj
            obtain ⟨p', h1', rfl⟩ := ty
            rw [h1] at h1'
            cases h1'
            exact .inr ⟨dx, ps, Tp.dp tx, .lst (SqL.of h2) (TpA.dp (TlA.plain h3 ep)), hs.1, hs.2, k⟩
          · rw [if_neg hs] at hz
            cases hz
    · cases hz
  · cases hz
theorem o_in : OpC g .in_ (rInA g.K false) := by
  intro α H S dx dy dz x y Q a tx ty hz k
  cases e : inD S dx dy with
  | none => have hz : (inD S dx dy).map (fun k => D.p (.bool k)) = some dz := hz; simp [e] at hz
  | some b =>
    have hz : (inD S dx dy).map (fun k => D.p (.bool k)) = some dz := hz
    simp [e] at hz
    exact o_in_ false a tx ty e hz.symm fun v t => k α H (Ext.refl _ _) a v t
theorem o_notin : OpC g .notin (rInA g.K true) := by
  intro α H S dx dy dz x y Q a tx ty hz k
  cases e : inD S dx dy with
  | none => have hz : ((inD S dx dy).map (!·)).map (fun k => D.p (.bool k)) = some dz := hz; simp [e] at hz
  | some b =>
    have hz : ((inD S dx dy).map (!·)).map (fun k => D.p (.bool k)) = some dz := hz
    simp [e] at hz
    exact o_in_ true a tx ty e hz.symm fun v t => k α H (Ext.refl _ _) a v t
theorem tp_none {K : PySem.W.Frag} {d : PyData} {v : V} (t : Tp K H d v) : decide (v = .non) = isNonP d := by
  cases d <;> cases t <;> rfl
theorem o_is : OpC g .is_ (fun x y H Q => rIsB x y H Q ∨ (y = .non ∧ Q (.bl (decide (x = .non))) H)) := by
  intro α H S dx dy dz x y Q a tx ty hz k
  have hz : (cop S .is_ dx dy).map (fun k => D.p (.bool k)) = some dz := hz
  unfold cop at hz
  split at hz <;> first | (simp at hz; done) | skip
  all_goals (try (exfalso; simp_all; done))
  · simp at hz
    subst hz
    cases tx
    cases ty
    exact .inl ⟨_, _, rfl, rfl, k α H (Ext.refl _ _) a _ (.bl _)⟩
  · simp at hz
    subst hz
    cases ty
    exact .inr ⟨rfl, by rw [tp_none tx]; exact k α H (Ext.refl _ _) a _ (.bl _)⟩
theorem o_isnot : OpC g .isnot (fun x y H Q => (∃ a b : Bool, x = .bl a ∧ y = .bl b ∧ Q (.bl (!decide (a = b))) H) ∨ (y = .non ∧ Q (.bl (!decide (x = .non))) H)) := by
  intro α H S dx dy dz x y Q a tx ty hz k
  have hz : (cop S .isnot dx dy).map (fun k => D.p (.bool k)) = some dz := hz
  unfold cop at hz
  split at hz <;> first | (simp at hz; done) | skip
  all_goals (try (exfalso; simp_all; done))
  · simp at hz
    subst hz
    cases tx
    cases ty
    exact .inl ⟨_, _, rfl, rfl, by simpa using k α H (Ext.refl _ _) a _ (.bl _)⟩
  · simp at hz
    subst hz
    cases ty
    exact .inr ⟨rfl, by rw [tp_none tx]; exact k α H (Ext.refl _ _) a _ (.bl _)⟩
end
end Ir
set_option Elab.async false
set_option maxRecDepth 100000
set_option maxHeartbeats 4000001
namespace Ir
open PySem L2 PySem.Spec PyProof.Rows

section
variable {g : Gc} {α α' : List Addr} {H H' : Hp} {S S' : Sto}
/-! ### subscripts -/
theorem atI_P {K : PySem.W.Frag} {ds : List PyData} {xs : List V} {i : Int} {d : PyData} (h : TpA K H ds xs) (e : atI ds i = some d) : ∃ v, atI xs i = some v ∧ Tp K H d v := by
  unfold atI at e ⊢
  rw [← h.length]
  cases q : ixN ds.length i with
  | none => rw [q] at e; cases e
  | some j => rw [q] at e; exact h.get e
theorem atI_D {F : D → V → Prop} {ds : List D} {xs : List V} {i : Int} {d : D} (h : Paired F ds xs) (e : atI ds i = some d) : ∃ v, atI xs i = some v ∧ F d v := by
  unfold atI at e ⊢
  rw [← Paired.length h]
  cases q : ixN ds.length i with
  | none => rw [q] at e; cases e
  | some j => rw [q] at e; exact Paired.get h e
theorem o_get : Op2 g getI (rIx g.K) := by
  intro α H S dx dy dz x y Q a tx ty hz k
  have h : getI S dx dy = some dz := hz
  unfold getI at h
  split at h
  · cases e : atI _ _ with
    | none => rw [e] at h; cases h
    | some d =>
      rw [e] at h
      cases h
      cases ty
      cases tx with
      | tup hq ha =>
        obtain ⟨v, h1, h2⟩ := atI_P ha e
        exact .inr (.inl ⟨_, _, _, v, rfl, rfl, hq.sq, h1, k α H (Ext.refl _ _) a _ h2⟩)
  · split at h
    · rename_i hl
      cases e : atI _ _ with
      | none => rw [e] at h; cases h
      | some c =>
        rw [e] at h
        cases h
        cases tx
        cases ty
        exact .inr (.inr ⟨_, _, c, rfl, rfl, hl, e, k α H (Ext.refl _ _) a _ (.str _)⟩)
    · cases h
  · split at h
    · rename_i hj
      obtain ⟨b, xs, h1, h2, h3⟩ := At.lst a hj
      obtain ⟨b', h1', rfl⟩ := tx
      rw [h1] at h1'
      cases h1'
      cases ty
      obtain ⟨v, h4, h5⟩ := atI_D h3 h
      exact .inl ⟨b, xs, _, v, rfl, rfl, SqL.of h2, h4, k α H (Ext.refl _ _) a v h5⟩
    · cases h
  · cases h
end
section
variable {X : Cx} {g : Gc} {W : WX} {cal : Nat → List D → M D} {pos : Pos}
theorem e_idx {a b : Expr} {ia ib : E} (hK : X.K = g.K) (ha : PE X a (rE g W (evE cal ia))) (hb : PE X b (rE g W (evE cal ib))) (hs : PlainIx b := by exact fun _ _ => rfl) : PE X (.Subscript a b pos) (rE g W (evE cal (.idx ia ib))) := by
  have h := ix_seq (X := X)
  rw [hK] at h
  exact pe_imp (pe_ix h ha hb hs) fun _ _ _ h => tOp_of o_get h
theorem cut_P {K : PySem.W.Frag} {H : Hp} {ds : List PyData} {xs : List V} (h : TpA K H ds xs) (lo hi : Option Int) : TpA K H (cutP ds lo hi) (cutV xs lo hi) := by
  unfold cutP cutV
  rw [h.length]
  exact (h.drop _).take _
theorem cut_whole {xs : List V} {lo hi : Option Int} (h : HT.sIx xs.length 0 lo = 0 ∧ HT.sIx xs.length xs.length hi = xs.length) : cutV xs lo hi = xs := by
  unfold cutV
  rw [h.1, h.2]
  simp
/-- a written part of a slice: left out, or an int -/
def tPt (o : Option Int) : TO := fun _ H Q => Q o H
theorem pt_none : PO X none (tPt none) := ⟨fun pins s σ H Q I h => po_none.run pins s σ H Q I h⟩
theorem pt_int {i : Int} {j : Nat} {p : Pos} : PO X (some (.Constant (.int i) j p)) (tPt (some i)) := ⟨fun pins s σ H Q I h => (po_some pe_int).run pins s σ H Q I ⟨i, rfl, h⟩⟩
theorem pt_neg {i : Int} {j : Nat} {p p2 : Pos} : PO X (some (.UnaryOp .USub (.Constant (.int i) j p) p2)) (tPt (some (-i))) := ⟨fun pins s σ H Q I h => (po_some (pe_un un_neg pe_int)).run pins s σ H Q I ⟨i, rfl, -i, rfl, h⟩⟩
/-- t[lo:hi]: the whole of it is t itself, else a new tuple, its object known -/
def rSlF (K : PySem.W.Frag) : V → Option Int → Option Int → Hp → VK → Prop := fun x lo hi H Q => ∃ a xs, x = .ref a ∧ SqT K H a xs ∧
  (HT.sIx xs.length 0 lo = 0 ∧ HT.sIx xs.length xs.length hi = xs.length → Q (.ref a) H) ∧ ∀ p o, H p = none → o.dict = none → Q (.ref p) (upd H p (.frz o (.tup (cutV xs lo hi))))
theorem sl_tupF : SlR X (rSlF X.K) := by
  intro pins s σ H x v vl vu lo hi sl Q I rx hs pl pu h
  obtain ⟨a, xs, rfl, hx, q1, q2⟩ := h
  cases rx
  obtain ⟨us, r, ht, hz⟩ := I.tuple hx
  have hl : us.toArray.size = xs.length := by rw [List.size_toArray, ← r.length]
  refine ⟨"tuple", _, PyProof.Rows.slot_tuple_getitem.lookup, ht.typeIs, ?_⟩
  by_cases hw : HT.sIx xs.length 0 lo = 0 ∧ HT.sIx xs.length xs.length hi = xs.length
  · exact getItem_tuple_whole ht hs pl pu (by rw [hl]; exact hw) ⟨.ref a, H, I, rfl, q1 hw⟩
  · refine HT.getItem_tuple_cut ht hs pl pu (by rw [hl]; exact hw) ?_ (by rw [hl]; exact hz)
    rw [hl]
    have rc := (r.drop (HT.sIx xs.length 0 lo)).take (HT.sIx xs.length xs.length hi - HT.sIx xs.length 0 lo)
    exact ⟨.ref s.heap.objs.size, _, I.laid (t' := s.toks) (fun b o q => Heap.get?_push_of_some _ q) (Nat.le_refl _) (frz_new rc (Nat.le_trans (cutV_length xs lo hi) hz)), rfl, q2 _ _ (I.hok.fresh (Nat.le_refl _)) rfl⟩
theorem slice_of {x z : D} {v : V} {l h : Option Int} {α1 : List Addr} {S1 : Sto} {H1 : Hp} {Q : VK} (a1 : g.At α1 H1 S1) (tv : g.Tl α1 H1 x v) (hz : sliceD x l h = some z) (k : ∀ α' H', Ext α1 α' H1 H' → g.At α' H' S1 → ∀ v, g.Tl α' H' z v → Q v H') : rSlF g.K v l h H1 Q ∨ rSlS v l h H1 Q := by
  unfold sliceD at hz
  split at hz
  · cases hz
    cases tv with
    | @tup b xs _ hq hv =>
      refine .inl ⟨b, xs, rfl, hq.sq, fun w => ?_, fun p o hp ho => ?_⟩
      · have hc := cut_P hv l h
        rw [cut_whole w] at hc
        exact k α1 H1 (Ext.refl _ _) a1 _ (.tup hq hc)
      · obtain ⟨e2, a2⟩ := At.fresh a1 hp (u := .frz o (.tup (cutV xs l h)))
        exact k α1 _ e2 a2 _ (.tup (.inl ⟨o, upd_same, ho⟩) ((cut_P hv l h).keep (e2.kt a1)))
  · split at hz
    · rename_i hz2
      cases hz
      cases tv
      exact .inr ⟨_, rfl, hz2, k α1 H1 (Ext.refl _ _) a1 _ (.str _)⟩
    · cases hz
  · cases hz
theorem e_slice {a : Expr} {ia : E} {lo hi : Option Expr} {l h : Option Int} {p2 : Pos} (hK : X.K = g.K) (ha : PE X a (rE g W (evE cal ia))) (hl : PO X lo (tPt l)) (hh : PO X hi (tPt h)) : PE X (.Subscript a (.Slice lo hi none p2) pos) (rE g W (evE cal (.slice ia l h))) := by
  have s1 := SlR.or (sl_tupF (X := X)) sl_str
  rw [hK] at s1
  refine pe_imp (pe_slice s1 ha hl hh) fun σ H Q q => ?_
  obtain ⟨α, S, q⟩ := q
  refine ⟨α, S, (rAt.bind (m := evE cal ia) (f := fun x _ => M.opt (sliceD x l h)) q).imp fun x S1 α1 H1 e1 a1 h1 v tv => ?_⟩
  obtain ⟨z, hz, k⟩ := (rAt.opt (o := fun _ => sliceD x l h) h1)
  exact slice_of a1 tv hz k
/-- bounds that are worked out -/
def rB (g : Gc) (W : WX) (m : Sl → M (Option Int)) : TO := fun σ H Q => rM g W m σ H fun l _ _ H' => Q l H'
theorem b_no : PO X none (rB g W (evB cal .no)) := ⟨fun pins s σ H Q I q => po_none.run pins s σ H Q I (by
  obtain ⟨α, S, q⟩ := q
  exact (rAt.here (b := none) q) α H (Ext.refl _ _) q.at_)⟩
theorem b_at {e : Expr} {ie : E} (h : PE X e (rE g W (evE cal ie))) : PO X (some e) (rB g W (evB cal (.at_ ie))) := ⟨fun pins s σ H Q I q => (po_some h).run pins s σ H Q I (by
  obtain ⟨α, S, q⟩ := q
  refine ⟨α, S, (rAt.bind (m := evE cal ie) (f := fun x _ => M.opt ((asInt x).map some)) q).imp fun x S1 α1 H1 e1 a1 h1 v tv => ?_⟩
  obtain ⟨z, hz, k⟩ := (rAt.opt (o := fun _ => (asInt x).map some) h1)
  obtain ⟨i, hi, rfl⟩ := Option.map_eq_some_iff.mp hz
  unfold asInt at hi
  split at hi
  · cases hi
    cases tv
    exact ⟨_, rfl, k α1 H1 (Ext.refl _ _) a1⟩
  · cases hi)⟩
theorem e_slx {a : Expr} {ia : E} {lo hi : Option Expr} {l h : Bd} {p2 : Pos} (hK : X.K = g.K) (ha : PE X a (rE g W (evE cal ia))) (hl : PO X lo (rB g W (evB cal l))) (hh : PO X hi (rB g W (evB cal h))) : PE X (.Subscript a (.Slice lo hi none p2) pos) (rE g W (evE cal (.slx ia l h))) := by
  have s1 := SlR.or (sl_tupF (X := X)) sl_str
  rw [hK] at s1
  refine pe_imp (pe_slice s1 ha hl hh) fun σ H Q q => ?_
  obtain ⟨α, S, q⟩ := q
  refine ⟨α, S, (rAt.bind (m := evE cal ia) (f := fun x ρ => M.bind (evB cal l ρ) fun u => M.bind (evB cal h ρ) fun w => M.opt (sliceD x u w)) q).imp fun x S1 α1 H1 e1 a1 h1 v tv => ?_⟩
  refine ⟨α1, S1, (rAt.bind (m := evB cal l) (f := fun u ρ => M.bind (evB cal h ρ) fun w => M.opt (sliceD x u w)) h1).imp fun u S2 α2 H2 e2 a2 h2 => ?_⟩
  refine ⟨α2, S2, (rAt.bind (m := evB cal h) (f := fun w _ => M.opt (sliceD x u w)) h2).imp fun w S3 α3 H3 e3 a3 h3 => ?_⟩
  obtain ⟨z, hz, k⟩ := (rAt.opt (o := fun _ => sliceD x u w) h3)
  exact slice_of a3 ((tv.ext e2 a1).ext e3 a2) hz k

/-! ### arguments, displays -/
theorem a_nil : PA X [] (rA g W (evEs cal .nil)) := pa_imp pa_nil fun σ H Q h => by
  obtain ⟨α, S, ρ, a, r, h⟩ := h
  exact h α H (Ext.refl _ _) a [] .nil
theorem a_cons {e : Expr} {es : List Expr} {i : E} {is : Es} (h1 : PE X e (rE g W (evE cal i))) (h2 : PA X es (rA g W (evEs cal is))) (hs : starEach (e :: es) X.env = (false, eval e X.env) :: starEach es X.env := by rfl) : PA X (e :: es) (rA g W (evEs cal (.cons i is))) := pa_imp (pa_cons h1 h2 hs) fun σ H Q h => by
  obtain ⟨α, S, h⟩ := h
  refine ⟨α, S, (rAt.bind (m := evE cal i) (f := fun d ρ => M.bind (evEs cal is ρ) fun ds => M.pure (d :: ds)) h).imp fun d S1 α1 H1 e1 a1 h1 v tv => ⟨α1, S1, (rAt.bind (m := evEs cal is) (f := fun ds _ => M.pure (d :: ds)) h1).imp fun ds S2 α2 H2 e2 a2 h2 vs tvs => ?_⟩⟩
  exact h2.here α2 H2 (Ext.refl _ _) a2 _ (.cons (tv.ext e2 a1) tvs)
def tTupF (t : TA) : TE := fun σ H Q => t σ H fun xs H1 => xs.length ≤ sizeLine ∧ ∀ p o, H1 p = none → o.dict = none → Q (.ref p) (upd H1 p (.frz o (.tup xs)))
theorem pe_tupF {es : List Expr} {t : TA} {k : Nat} (h : PA X es t) : PE X (.Tuple es k pos) (tTupF t) := by
  refine ⟨fun pins s σ H Q I q => ?_⟩
  refine wpAny_Tuple_spliced (thn (h.run pos pins s σ H _ I q) fun us s1 ⟨xs, H1, I1, r, z, q⟩ => ⟨by rw [← r.length]; exact z, ?_⟩)
  exact ⟨.ref s1.heap.objs.size, _, I1.laid (t' := s1.toks) (fun b u e => Heap.get?_push_of_some _ e) (Nat.le_refl _) (frz_new r z), rfl, q _ _ (I1.hok.fresh (Nat.le_refl _)) rfl⟩
theorem e_tup {es : List Expr} {is : Es} {k : Nat} (h : PA X es (rA g W (evEs cal is))) : PE X (.Tuple es k pos) (rE g W (evE cal (.tup is))) := pe_imp (pe_tupF h) fun σ H Q q => by
  obtain ⟨α, S, q⟩ := q
  refine ⟨α, S, (rAt.bind (m := evEs cal is) (f := fun ds _ => M.opt (if ds.length ≤ sizeLine then (plainOf ds).map fun ps => D.p (.tuple ps) else none)) q).imp fun ds S1 α1 H1 e1 a1 h1 vs tvs => ?_⟩
  obtain ⟨z, hz, k⟩ := (rAt.opt (o := fun _ => if ds.length ≤ sizeLine then (plainOf ds).map fun ps => D.p (.tuple ps) else none) h1)
  have hz : (if ds.length ≤ sizeLine then (plainOf ds).map fun ps => D.p (.tuple ps) else none) = some z := hz
  split at hz
  · rename_i hl
    cases e : plainOf ds with
    | none => rw [e] at hz; cases hz
    | some ps =>
      rw [e] at hz
      cases hz
      refine ⟨by rw [← Paired.length tvs]; exact hl, fun p o hp ho => ?_⟩
      obtain ⟨e2, a2⟩ := At.fresh a1 hp (u := .frz o (.tup vs))
      exact k α1 _ e2 a2 _ (.tup (.inl ⟨o, upd_same, ho⟩) ((TlA.plain tvs e).keep (e2.kt a1)))
  · cases hz

/-! ### lists on the way -/
/-- p is new since H -/
def rLn (g : Gc) (W : WX) (m : Sl → M (List D)) : TE := fun σ H Q => ∃ α S, rAt g W α S m σ H fun ds _ α' H' => ∀ p xs, H p = none → p ∉ α' → H' p = some (.lst xs) → g.TlA α' H' ds xs → Q (.ref p) H'
theorem l_disp {es : List Expr} {is : Es} (h : PA X es (rA g W (evEs cal is))) : PE X (.List es pos) (rLn g W (evL cal (.disp is))) := pe_imp (pe_lst h) fun σ H Q q => by
  obtain ⟨α, S, q⟩ := q
  have q1 := q
  obtain ⟨ρ, a, r, w⟩ := q
  have w : wp (M.bind (evEs cal is ρ) (fun ds => M.opt (if ds.length ≤ 100000 then some ds else none)) S) _ _ := w
  refine ⟨α, S, ρ, a, r, wp_mono (wp_bind w) (fun ds S1 h1 α1 H1 e1 a1 vs tvs => ?_) fun _ _ z => z⟩
  unfold M.opt at h1
  by_cases hl : ds.length ≤ 100000
  · simp only [hl, if_true] at h1
    refine ⟨by rw [← Paired.length tvs]; exact Nat.le_trans hl (by rw [sizeLine_eq]; decide), fun p hp => ?_⟩
    obtain ⟨e2, a2⟩ := At.fresh a1 hp (u := .lst vs)
    exact h1 α1 _ (e1.trans e2) a2 p vs (e1.none a1 hp) (a1.notin hp) upd_same (TlA.ext e2 a1 tvs)
  · simp only [hl, if_false] at h1
    exact h1.elim
theorem e_lst {e : Expr} {l : L} (h : PE X e (rLn g W (evL cal l))) : PE X e (rE g W (evE cal (.lst l))) := pe_imp h fun σ H Q q => by
  obtain ⟨α, S, ρ, a, r, w⟩ := q
  have w : wp (M.bind (evL cal l ρ) (fun ds => alloc (.lst ds)) S) _ _ := w
  refine ⟨α, S, ρ, a, r, wp_mono (wp_bind w) (fun ds S1 h1 α1 H1 e1 a1 p xs hp hn hx tx => ?_) fun _ _ z => z⟩
  unfold alloc at h1
  by_cases hb : rbO S1.length (.lst ds) = true
  · simp only [hb, if_true] at h1
    obtain ⟨a2, pre⟩ := At.take_in a1 hn (o := .lst ds) ⟨xs, hx, tx⟩ hb
    refine h1 (α1 ++ [p]) H1 ⟨fun i b h => pre i b (e1.pre i b h), e1.keep, fun b hb => ?_⟩ a2 _ ⟨p, ?_, rfl⟩
    · rcases List.mem_append.mp hb with z | z
      · exact e1.new b z
      · rw [List.mem_singleton] at z
        rw [z]
        exact .inr hp
    · rw [← a1.len, List.getElem?_append_right (Nat.le_refl _)]
      simp
  · simp only [hb] at h1
    exact h1.elim
theorem e_idxL {a b : Expr} {l : L} {ib : E} (hK : X.K = g.K) (ha : PE X a (rLn g W (evL cal l))) (hb : PE X b (rE g W (evE cal ib))) (hs : PlainIx b := by exact fun _ _ => rfl) : PE X (.Subscript a b pos) (rE g W (evE cal (.idxL l ib))) := by
  have h := ix_list (X := X)
  rw [hK] at h
  refine pe_imp (pe_ix h ha hb hs) fun σ H Q q => ?_
  obtain ⟨α, S, q⟩ := q
  refine ⟨α, S, (rAt.bind (m := evL cal l) (f := fun ds ρ => M.bind (evE cal ib ρ) fun y => M.opt ((asInt y).bind fun i => atI ds i)) q).imp fun ds S1 α1 H1 e1 a1 h1 p xs hp hn hx tx => ⟨α1, S1, (rAt.bind (m := evE cal ib) (f := fun y _ => M.opt ((asInt y).bind fun i => atI ds i)) h1).imp fun y S2 α2 H2 e2 a2 h2 u tu => ?_⟩⟩
  obtain ⟨z, hz, k⟩ := rAt.opt (o := fun _ => (asInt y).bind fun i => atI ds i) h2
  have hz : ((asInt y).bind fun i => atI ds i) = some z := hz
  cases y with
  | p d =>
    cases d <;> simp [asInt] at hz
    cases tu
    obtain ⟨v, h4, h5⟩ := atI_D tx hz
    exact ⟨p, xs, _, v, rfl, rfl, SqL.of (e2.keep p _ hx hn), h4, k α2 H2 (Ext.refl _ _) a2 v (h5.ext e2 a1)⟩
  | ref _ => simp [asInt] at hz
  | fn _ => simp [asInt] at hz

/-! ### calls of defs -/
def spI (g : Gc) (m : List D → M D) : Sp := fun vs H Q E => ∃ α S ds, g.At α H S ∧ g.TlA α H ds vs ∧ wp (m ds S) (fun d S' => ∀ α' H', Ext α α' H H' → g.At α' H' S' → ∀ v, g.Tl α' H' d v → Q v H')
  (fun e S' => ∀ cls dx α' H', Ext α α' H H' → g.At α' H' S' → g.TX e cls dx H' → E cls dx H')
/-- where a piece of a def's body is read -/
structure Gd (X : Cx) (g : Gc) (W : WX) (CX : CXT) (cal : Nat → List D → M D) (k : Nat) : Prop where
  K : X.K = g.K
  calm : X.calm = true
  nd : X.N.Nodup
  room : Room k X.A
  pass : ∀ σ, PassesAt CX X σ (WE W σ)
  none : ∀ (l : List Env) (H : Hp) (s : Shared) (e : Value) (s' : Shared), CX l H s (fun _ _ _ => False) e s' → False
  tab : ∀ i f, g.ph i = some f → ∃ fd ps, FnOk X.prog X.w X.K X.mg X.base CX k f fd ps (spI g (cal i)) ∧ PySem.W.keepIn X.K (.ref f) = true ∧ Binds X.K fd ps []
abbrev W0 : WX := fun _ _ _ _ => False
theorem Gd.hu {CX : CXT} {k : Nat} (G : Gd X g W CX cal k) : X.A.units + 64 < cLine := G.room.units
theorem Gd.pass0 {CX : CXT} {k : Nat} (G : Gd X g W CX cal k) : Passes CX X (fun _ _ _ => False) := fun _ _ _ _ _ _ _ h => (G.none _ _ _ _ _ h).elim
theorem Gd.blk {CX : CXT} {k : Nat} (G : Gd X g W CX cal k) (s : Shared) (H : Hp) (scope : Scope) (ce : Env) (fp : List Addr) : Gd (X.blk s H scope ce fp) g W0 CX cal k :=
  ⟨G.K, G.calm, G.nd, G.room, fun _ _ _ _ _ _ _ h => (G.none _ _ _ _ _ h).elim, G.none, G.tab⟩
theorem call_of {ds : List D} {vs : List V} {m : List D → M D} {α : List Addr} {S : Sto} {σ : L2.St} {H : Hp} {Q : VK} {E : XK} (tv : g.TlA α H ds vs) (h : rAt g W α S (fun _ => m ds) σ H (fun d _ α' H' => ∀ v, g.Tl α' H' d v → Q v H'))
    (hE : ∀ cls dx H', W cls dx σ H' → E cls dx H') : spI g m vs H Q E := by
  obtain ⟨ρ, a, r, h⟩ := h
  exact ⟨α, S, ds, a, tv, wp_mono h (fun d S' q => q) fun e S' q cls dx α' H' e1 a1 t => hE _ _ _ (q cls dx α' H' e1 a1 t)⟩
theorem e_call {CX : CXT} {k i : Nat} {f : Addr} {x : Str} {p : Pos} {e : Expr} {es : List Expr} {is : Es} (G : Gd X g W CX cal k) (hph : g.ph i = some f) (hm : X.mg x = some (.ref f)) (ha : PA X (e :: es) (rA g W (evEs cal is)))
    (hg : Gl X x := by rfl) (hdb : (x == ("__debug__" : Str)) = false := by decide) (he : starEach (e :: es) X.env = (false, eval e X.env) :: starEach es X.env := by rfl) (hpl : (backTo pos (starEach es X.env)).any (·.1) = false := by rfl) :
    PE X (.Call (.Name x p) (e :: es) [] pos) (rE g W (evE cal (.call i is))) := by
  obtain ⟨fd, ps, F, hk, hb⟩ := G.tab i f hph
  refine pe_imp (pe_callSD (E := WE W) F G.room hg hm hk hb .nil G.pass ha hdb he hpl) fun σ H Q h => ?_
  obtain ⟨α, S, h⟩ := h
  refine ⟨α, S, (rAt.bind (m := evEs cal is) (f := fun ds _ => cal i ds) h).imp fun ds S1 α1 H1 e1 a1 h1 vs tv => ?_⟩
  show spI g (cal i) (vs ++ []) H1 Q (WE W σ)
  rw [List.append_nil]
  exact call_of tv h1 fun _ _ _ z => z
theorem e_call0 {CX : CXT} {k i : Nat} {f : Addr} {x : Str} {p : Pos} (G : Gd X g W0 CX cal k) (hph : g.ph i = some f) (hm : X.mg x = some (.ref f)) (hg : Gl X x := by rfl) (hdb : (x == ("__debug__" : Str)) = false := by decide) :
    PE X (.Call (.Name x p) [] [] pos) (rE g W0 (evE cal (.call i .nil))) := by
  obtain ⟨fd, ps, F, hk, hb⟩ := G.tab i f hph
  refine pe_imp (pe_call0 (E := fun _ _ _ => False) F G.room hg hm hk hb .nil G.pass0 hdb) fun σ H Q h => ?_
  obtain ⟨α, S, h⟩ := h
  have h1 := rAt.bind (m := fun _ => M.pure []) (f := fun ds _ => cal i ds) h
  have a1 := h1.at_
  exact call_of (ds := []) .nil (h1.here α H (Ext.refl _ _) a1) fun _ _ _ z => z
theorem e_callv {CX : CXT} {k : Nat} (i : Nat) {x : Str} {p : Pos} {e : Expr} {es : List Expr} {is : Es} (G : Gd X g W0 CX cal k) (ha : PA X (e :: es) (rA g W0 (evEs cal is))) (hN : X.N[i]? = some x := by rfl)
    (hv : Vis X.env.scope x := by first | exact Or.inl rfl | exact Or.inr (Or.inl rfl) | exact Or.inr (Or.inr rfl)) (hdb : (x == ("__debug__" : Str)) = false := by decide) (hcd : (x == ("__classdict__" : Str)) = false := by decide)
    (he : starEach (e :: es) X.env = (false, eval e X.env) :: starEach es X.env := by rfl) (hpl : (backTo pos (starEach es X.env)).any (·.1) = false := by rfl) :
    PE X (.Call (.Name x p) (e :: es) [] pos) (rE g W0 (evE cal (.callv i is))) := by
  refine ⟨fun pins s σ H Q I h => ?_⟩
  obtain ⟨α, S, ρ, a, r, h⟩ := h
  have h : wp ((match ρ[i]? with | some (some (.fn f)) => M.bind (evEs cal is ρ) fun ds => cal f ds | _ => M.bad) S) (fun b S' => ∀ α' H', Ext α α' H H' → g.At α' H' S' → ∀ v, g.Tl α' H' b v → Q v H') (exW g W0 α σ H) := h
  cases q : ρ[i]? with
  | none => rw [q] at h; exact h.elim
  | some o =>
    rw [q] at h
    cases o with
    | none => exact h.elim
    | some d =>
      cases d with
      | p _ => exact h.elim
      | ref _ => exact h.elim
      | fn j =>
        obtain ⟨v, hs, f, hf, rfl⟩ := r.at_ i _ q
        obtain ⟨fd, ps, F, hk, hb⟩ := G.tab j f hf
        refine (pe_callL (i := i) (E := fun _ _ _ => False) F G.room hN hv hk hb .nil G.pass0 ha hdb hcd he hpl).run pins s σ H Q I ⟨hs, α, S, ?_⟩
        have h2 : rAt g W0 α S (fun ρ => M.bind (evEs cal is ρ) fun ds => cal j ds) σ H (fun d _ α' H' => ∀ v, g.Tl α' H' d v → Q v H') := ⟨ρ, a, r, h⟩
        refine (rAt.bind (m := evEs cal is) (f := fun ds _ => cal j ds) h2).imp fun ds S1 α1 H1 e1 a1 h1 vs tv => ?_
        show spI g (cal j) (vs ++ []) H1 Q fun _ _ _ => False
        rw [List.append_nil]
        exact call_of tv h1 fun _ _ _ z => z
end
end Ir
set_option Elab.async false
set_option maxRecDepth 100000
set_option maxHeartbeats 4000001
namespace Ir
open PySem L2 PySem.Spec PyProof.Rows
section
variable {X : Cx} {g : Gc} {W : WX} {cal : Nat → List D → M D} {pos : Pos} {K : PySem.W.Frag}
theorem bools_of {ph : Nat → Option Addr} {α : List Addr} {H : Hp} : ∀ {ds : List D} {vs : List V} {bs : List Bool}, TlA K ph α H ds vs → boolsOf ds = some bs → vs = bs.map V.bl
  | [], _, _, h, e => by cases h; cases e; rfl
  | d :: r, _, bs, h, e => by
    cases h with
    | cons a b =>
      cases d with
      | p d =>
        cases d <;> first | (simp [boolsOf] at e; done) | skip
        rename_i b0
        unfold boolsOf at e
        cases q : boolsOf r with
        | none => rw [q] at e; cases e
        | some rs =>
          rw [q] at e
          cases e
          cases a
          rw [bools_of b q]
          rfl
      | ref _ => simp [boolsOf] at e
      | fn _ => simp [boolsOf] at e
theorem dpAll_of {ph : Nat → Option Addr} {α : List Addr} {H : Hp} {ds : List D} {vs : List V} {ps : List PyData} (h : TlA K ph α H ds vs) (e : plainOf ds = some ps) : DpAll K H vs ps := (TlA.plain h e).dp

theorem lst_at {α : List Addr} {H : Hp} {S : Sto} {x : D} {v : V} {ds : List D} (a : g.At α H S) (t : g.Tl α H x v) (h : lstAt S x = some ds) : ∃ b xs, v = .ref b ∧ H b = some (.lst xs) ∧ g.TlA α H ds xs := by
  unfold lstAt at h
  split at h
  · split at h
    · rename_i hj
      cases h
      obtain ⟨b, xs, h1, h2, h3⟩ := At.lst a hj
      obtain ⟨b', h1', rfl⟩ := t
      rw [h1] at h1'
      cases h1'
      exact ⟨b, xs, rfl, h2, h3⟩
    · cases h
  · cases h
theorem dic_at {α : List Addr} {H : Hp} {S : Sto} {x : D} {v : V} {kvs : List (Key × D)} (a : g.At α H S) (t : g.Tl α H x v) (h : dicAt S x = some kvs) : ∃ b ws, v = .ref b ∧ H b = some (.dK ws) ∧ Paired (fun (p : Key × D) (q : Key × V) => p.1 = q.1 ∧ g.Tl α H p.2 q.2) kvs ws := by
  unfold dicAt at h
  split at h
  · split at h
    · rename_i hj
      cases h
      obtain ⟨b, xs, h1, h2, h3⟩ := At.dic a hj
      obtain ⟨b', h1', rfl⟩ := t
      rw [h1] at h1'
      cases h1'
      exact ⟨b, xs, rfl, h2, h3⟩
    · cases h
  · cases h
theorem e_neg {a : Expr} {ia : E} (ha : PE X a (rE g W (evE cal ia))) : PE X (.UnaryOp .USub a pos) (rE g W (evE cal (.neg ia))) := pe_imp (pe_un un_neg ha) fun σ H Q h => by
  obtain ⟨α, S, h⟩ := h
  refine ⟨α, S, (rAt.bind (m := evE cal ia) (f := fun x _ => M.opt ((asInt x).map fun i => D.p (.int (-i)))) h).imp fun x S1 α1 H1 e1 a1 h1 v tv => ?_⟩
  obtain ⟨z, hz, k⟩ := rAt.opt (o := fun _ => (asInt x).map fun i => D.p (.int (-i))) h1
  have hz : ((asInt x).map fun i => D.p (.int (-i))) = some z := hz
  cases x with
  | p d =>
    cases d <;> simp [asInt] at hz
    subst hz
    cases tv
    exact ⟨_, rfl, k α1 H1 (Ext.refl _ _) a1 _ (.int _)⟩
  | ref _ => simp [asInt] at hz
  | fn _ => simp [asInt] at hz
theorem len_of {α : List Addr} {H : Hp} {S : Sto} {x : D} {v : V} {n : Int} (a : g.At α H S) (t : g.Tl α H x v) (h : lenD S x = some n) : ∃ m : Nat, n = (m : Int) ∧ LenV g.K v H m := by
  unfold lenD at h
  split at h
  · cases h
    cases t with
    | tup hq ha => exact ⟨_, rfl, .inr ⟨_, hq.sq, ha.length⟩⟩
  · split at h
    · rename_i hl
      cases h
      cases t
      exact ⟨_, rfl, hl, rfl⟩
    · cases h
  · split at h
    · rename_i hj
      cases h
      obtain ⟨b, xs, h1, h2, h3⟩ := At.lst a hj
      obtain ⟨b', h1', rfl⟩ := t
      rw [h1] at h1'
      cases h1'
      exact ⟨_, rfl, .inl ⟨xs, SqL.of h2, Paired.length h3⟩⟩
    · cases h
  · cases h
theorem e_len {a : Expr} {ia : E} {p : Pos} (hK : X.K = g.K) (hm : X.mg "len" = none) (ha : PE X a (rE g W (evE cal ia))) (hg : Gl X "len" := by rfl) (hs : starEach [a] X.env = (false, eval a X.env) :: starEach [] X.env := by rfl) :
    PE X (.Call (.Name "len" p) [a] [] pos) (rE g W (evE cal (.len ia))) := by
  have h := call_len (X := X)
  rw [hK] at h
  refine pe_imp (pe_callB h hg hm boot_len (pa_cons ha pa_nil hs) (he := hs)) fun σ H Q h => ?_
  obtain ⟨α, S, h⟩ := h
  refine ⟨α, S, (rAt.bind (m := evE cal ia) (f := fun x _ => fun S => M.opt ((lenD S x).map fun n => D.p (.int n)) S) h).imp fun x S1 α1 H1 e1 a1 h1 v tv => ?_⟩
  obtain ⟨z, hz, k⟩ := h1.opt
  cases e : lenD S1 x with
  | none => simp [e] at hz
  | some n =>
    simp [e] at hz
    subst hz
    obtain ⟨m, rfl, hl⟩ := len_of a1 tv e
    exact ⟨v, m, rfl, hl, k α1 H1 (Ext.refl _ _) a1 _ (.int _)⟩
theorem e_all {a : Expr} {l : L} {p : Pos} (G : X.calm = true) (hK : X.K = g.K) (hm : X.mg "all" = none) (ha : PE X a (rLn g W (evL cal l))) (hg : Gl X "all" := by rfl) (hs : starEach [a] X.env = (false, eval a X.env) :: starEach [] X.env := by rfl) :
    PE X (.Call (.Name "all" p) [a] [] pos) (rE g W (evE cal (.all l))) := by
  have h := cr_all (X := X) G
  rw [hK] at h
  refine pe_imp (pe_callB h hg hm boot_all (pa_cons ha pa_nil hs) (he := hs)) fun σ H Q h => ?_
  obtain ⟨α, S, h⟩ := h
  refine ⟨α, S, (rAt.bind (m := evL cal l) (f := fun ds _ => M.opt ((boolsOf ds).map fun bs => D.p (.bool (bs.all id)))) h).imp fun ds S1 α1 H1 e1 a1 h1 q xs hp hn hx tx => ?_⟩
  obtain ⟨z, hz, k⟩ := rAt.opt (o := fun _ => (boolsOf ds).map fun bs => D.p (.bool (bs.all id))) h1
  cases e : boolsOf ds with
  | none => simp [e] at hz
  | some bs =>
    simp [e] at hz
    subst hz
    have e2 := bools_of tx e
    subst e2
    refine ⟨q, bs, rfl, SqL.of hx, ?_⟩
    exact k α1 H1 (Ext.refl _ _) a1 _ (Tp.bl _)
theorem e_any {a : Expr} {l : L} {p : Pos} (G : X.calm = true) (hK : X.K = g.K) (hm : X.mg "any" = none) (ha : PE X a (rLn g W (evL cal l))) (hg : Gl X "any" := by rfl) (hs : starEach [a] X.env = (false, eval a X.env) :: starEach [] X.env := by rfl) :
    PE X (.Call (.Name "any" p) [a] [] pos) (rE g W (evE cal (.any l))) := by
  have h := cr_any (X := X) G
  rw [hK] at h
  refine pe_imp (pe_callB h hg hm boot_any (pa_cons ha pa_nil hs) (he := hs)) fun σ H Q h => ?_
  obtain ⟨α, S, h⟩ := h
  refine ⟨α, S, (rAt.bind (m := evL cal l) (f := fun ds _ => M.opt ((boolsOf ds).map fun bs => D.p (.bool (bs.any id)))) h).imp fun ds S1 α1 H1 e1 a1 h1 q xs hp hn hx tx => ?_⟩
  obtain ⟨z, hz, k⟩ := rAt.opt (o := fun _ => (boolsOf ds).map fun bs => D.p (.bool (bs.any id))) h1
  cases e : boolsOf ds with
  | none => simp [e] at hz
  | some bs =>
    simp [e] at hz
    subst hz
    have e2 := bools_of tx e
    subst e2
    refine ⟨q, bs, rfl, SqL.of hx, ?_⟩
    exact k α1 H1 (Ext.refl _ _) a1 _ (Tp.bl _)

/-! ### isinstance -/
def tyN : Ty → String
  | .int => "int" | .bool => "bool" | .str => "str" | .tuple => "tuple"
theorem tyX_tup {K : PySem.W.Frag} {H : Hp} {a : Addr} {xs : List V} (h : SqT K H a xs) : TyX K H (.ref a) (.type "tuple") := by
  rcases h with (h | ⟨o, h⟩) | ⟨o, its, n, h, hc, _⟩
  · exact .base (.tup h)
  · exact .fTuple h
  · exact .kTuple h hc
theorem isi_of {α : List Addr} {H : Hp} {x : D} {v : V} {t : Ty} {b : Bool} (tv : g.Tl α H x v) (h : isiD x t = some b) : ∃ tt, TyX g.K H v tt ∧ PySem.W.kitOne g.K tt (.type (tyN t)) = some b := by
  cases x with
  | ref _ => cases t <;> simp [isiD] at h
  | fn _ => cases t <;> simp [isiD] at h
  | p d =>
    cases d with
    | none => cases tv; cases t <;> (simp [isiD] at h; subst h; exact ⟨_, .base .non, kit_ty (by decide +kernel)⟩)
    | bool k => cases tv; cases t <;> (simp [isiD] at h; subst h; exact ⟨_, .base (.bl k), kit_ty (by decide +kernel)⟩)
    | int i => cases tv; cases t <;> (simp [isiD] at h; subst h; exact ⟨_, .base (.int i), kit_ty (by decide +kernel)⟩)
    | str s => cases tv; cases t <;> (simp [isiD] at h; subst h; exact ⟨_, .base (.str s), kit_ty (by decide +kernel)⟩)
    | tuple ds =>
      cases tv with
      | tup hq ha => cases t <;> (simp [isiD] at h; subst h; exact ⟨_, tyX_tup hq.sq, kit_ty (by decide +kernel)⟩)
    | list ds => cases t <;> simp [isiD] at h
    | dict ds => cases t <;> simp [isiD] at h
theorem e_isi {a : Expr} {ia : E} {p p2 : Pos} (t : Ty) {T : Str} (hT : bootBuiltins T = some (.type (tyN t))) (hK : X.K = g.K) (hm : X.mg "isinstance" = none) (hmT : X.mg T = none) (ha : PE X a (rE g W (evE cal ia))) (hg : Gl X "isinstance" := by rfl) (hgT : Gl X T := by rfl)
    (hn : T ≠ "__name__" := by decide) (hd : (T == ("__debug__" : Str)) = false := by decide) (hs : starEach [a, .Name T p2] X.env = (false, eval a X.env) :: starEach [.Name T p2] X.env := by rfl) :
    PE X (.Call (.Name "isinstance" p) [a, .Name T p2] [] pos) (rE g W (evE cal (.isi ia t))) := by
  have h := call_isi (X := X)
  rw [hK] at h
  refine pe_imp (pe_callB h hg hm boot_isinstance (pa_cons ha (pa_cons (pe_bltn (v := .ty (tyN t)) hgT hmT hT rfl hn hd) pa_nil) hs) (he := hs)) fun σ H Q h => ?_
  obtain ⟨α, S, h⟩ := h
  refine ⟨α, S, (rAt.bind (m := evE cal ia) (f := fun x _ => M.opt ((isiD x t).map fun k => D.p (.bool k))) h).imp fun x S1 α1 H1 e1 a1 h1 v tv => ?_⟩
  obtain ⟨z, hz, k⟩ := rAt.opt (o := fun _ => (isiD x t).map fun k => D.p (.bool k)) h1
  cases e : isiD x t with
  | none => simp [e] at hz
  | some b =>
    simp [e] at hz
    subst hz
    obtain ⟨tt, h3, h4⟩ := isi_of tv e
    exact ⟨v, _, tt, _, b, rfl, .ty _, h3, h4, k α1 H1 (Ext.refl _ _) a1 _ (.bl _)⟩
theorem e_toInt {a : Expr} {ia : E} {p : Pos} (hm : X.mg "int" = none) (ha : PE X a (rE g W (evE cal ia))) (hg : Gl X "int" := by rfl) (hs : starEach [a] X.env = (false, eval a X.env) :: starEach [] X.env := by rfl) :
    PE X (.Call (.Name "int" p) [a] [] pos) (rE g W (evE cal (.toInt ia))) := by
  refine pe_imp (pe_callTy call_int1 hg hm (by decide +kernel) (pa_cons ha pa_nil hs) (he := hs)) fun σ H Q h => ?_
  obtain ⟨α, S, h⟩ := h
  refine ⟨α, S, (rAt.bind (m := evE cal ia) (f := fun x _ => M.opt ((intOf x).map fun i => D.p (.int i))) h).imp fun x S1 α1 H1 e1 a1 h1 v tv => ?_⟩
  obtain ⟨z, hz, k⟩ := rAt.opt (o := fun _ => (intOf x).map fun i => D.p (.int i)) h1
  cases x with
  | p d =>
    cases d <;> first | (simp [intOf] at hz; done) | skip
    · simp [intOf] at hz
      subst hz
      cases tv
      exact .inr ⟨_, rfl, k α1 H1 (Ext.refl _ _) a1 _ (.int _)⟩
    · simp [intOf] at hz
      subst hz
      cases tv
      exact .inl ⟨_, rfl, k α1 H1 (Ext.refl _ _) a1 _ (.int _)⟩
  | ref _ => simp [intOf] at hz
  | fn _ => simp [intOf] at hz
theorem call_tupleF : CallR X (.type "tuple") (fun xs H Q => ∃ p ys, xs = [.ref p] ∧ SqL X.K H p ys ∧ ∀ l o, H l = none → o.dict = none → Q (.ref l) (upd H l (.frz o (.tup ys)))) := by
  intro pins s σ H xs us Q I r h
  obtain ⟨p, ys, rfl, hq, q⟩ := h
  obtain ⟨u, rfl, rx⟩ := vals1 r
  cases rx
  obtain ⟨ws, r', pl, hz⟩ := I.list hq
  refine call_tuple_list pl.isList (fun h' kp => ?_) (by have := r'.length; simp only [List.size_toArray]; omega)
  have I1 : Inv X pins σ H { s with heap := h' } := I.kept (t' := s.toks) kp
  exact ⟨.ref h'.objs.size, _, I1.laid (t' := s.toks) (fun b o e => Heap.get?_push_of_some _ e) (Nat.le_refl _) (frz_new r' hz), rfl, q _ _ (I1.hok.fresh (Nat.le_refl _)) rfl⟩
theorem e_tupOf {a : Expr} {ia : E} {p : Pos} (hK : X.K = g.K) (hm : X.mg "tuple" = none) (ha : PE X a (rE g W (evE cal ia))) (hg : Gl X "tuple" := by rfl) (hs : starEach [a] X.env = (false, eval a X.env) :: starEach [] X.env := by rfl) :
    PE X (.Call (.Name "tuple" p) [a] [] pos) (rE g W (evE cal (.tupOf ia))) := by
  have h := call_tupleF (X := X)
  rw [hK] at h
  refine pe_imp (pe_callTy h hg hm (by decide +kernel) (pa_cons ha pa_nil hs) (he := hs)) fun σ H Q h => ?_
  obtain ⟨α, S, h⟩ := h
  refine ⟨α, S, (rAt.bind (m := evE cal ia) (f := fun x _ => fun S => M.opt (tupD S x) S) h).imp fun x S1 α1 H1 e1 a1 h1 v tv => ?_⟩
  obtain ⟨z, hz, k⟩ := h1.opt
  obtain ⟨ds, e0, hz⟩ := Option.bind_eq_some_iff.mp hz
  obtain ⟨ps, e, hz⟩ := Option.map_eq_some_iff.mp hz
  subst hz
  obtain ⟨b, xs, rfl, h2, h3⟩ := lst_at a1 tv e0
  refine ⟨b, xs, rfl, SqL.of h2, fun l o hl ho => ?_⟩
  obtain ⟨e2, a2⟩ := At.fresh a1 hl (u := .frz o (.tup xs))
  exact k α1 _ e2 a2 _ (.tup (.inl ⟨o, upd_same, ho⟩) ((TlA.plain h3 e).keep (e2.kt a1)))
theorem l_of {a : Expr} {ia : E} {p : Pos} (hK : X.K = g.K) (hm : X.mg "list" = none) (ha : PE X a (rE g W (evE cal ia))) (hg : Gl X "list" := by rfl) (hs : starEach [a] X.env = (false, eval a X.env) :: starEach [] X.env := by rfl) :
    PE X (.Call (.Name "list" p) [a] [] pos) (rLn g W (evL cal (.of ia))) := by
  have h := call_list_of (X := X)
  rw [hK] at h
  refine pe_imp (pe_callTy h hg hm (by decide +kernel) (pa_cons ha pa_nil hs) (he := hs)) fun σ H Q h => ?_
  obtain ⟨α, S, ρ, a0, r, w⟩ := h
  have w : wp (M.bind (evE cal ia ρ) (fun x => fun S => M.opt (ofD S x) S) S) _ _ := w
  refine ⟨α, S, ρ, a0, r, wp_mono (wp_bind w) (fun x S1 h1 α1 H1 e1 a1 v tv => ?_) fun _ _ z => z⟩
  cases e : ofD S1 x with
  | none => simp only [M.opt, e] at h1; exact h1.elim
  | some ds =>
    simp only [M.opt, e] at h1
    have fin : ∀ {b : Addr} {xs : List V}, (SqL g.K H1 b xs ∨ SqT g.K H1 b xs) → g.TlA α1 H1 ds xs → ∃ p ys, [V.ref b] = [.ref p] ∧ (SqL g.K H1 p ys ∨ SqT g.K H1 p ys) ∧ ∀ l, H1 l = none → Q (.ref l) (upd H1 l (.lst ys)) := fun {b xs} hq tx => by
      refine ⟨b, xs, rfl, hq, fun l hl => ?_⟩
      obtain ⟨e2, a2⟩ := At.fresh a1 hl (u := .lst xs)
      exact h1 α1 _ (e1.trans e2) a2 l xs (e1.none a1 hl) (a1.notin hl) upd_same (TlA.ext e2 a1 tx)
    unfold ofD at e
    split at e
    · obtain ⟨b, xs, rfl, h2, h3⟩ := lst_at a1 tv e
      exact fin (.inl (SqL.of h2)) h3
    · cases e
      cases tv with
      | tup hq hx => exact fin (.inr hq.sq) (TpA.toTl hx)
    · cases e
      cases tv with
      | lst hq hx => exact fin (.inl hq.sq) (TpA.toTl hx)
    · cases e
end
end Ir
set_option Elab.async false
set_option maxRecDepth 100000
set_option maxHeartbeats 4000001
/-! Loops, comprehensions, statements, a def's body. -/
namespace Ir
open PySem L2 PySem.Spec PyProof.Rows

/-! ### targets -/
/-- σ' is σ but at vs -/
structure Ag (vs : List Nat) (σ σ' : L2.St) : Prop where
  len : σ'.length = σ.length
  at_ : ∀ j, j ∉ vs → σ'[j]? = σ[j]?
theorem wipe_get : ∀ (vs : List Nat) (σ : L2.St) (j : Nat), (wipe σ vs)[j]? = if j ∈ vs ∧ j < σ.length then some none else σ[j]?
  | [], σ, j => by simp [wipe]
  | v :: vs, σ, j => by
    unfold wipe
    by_cases e : v = j
    · subst e
      by_cases h : v < σ.length
      · rw [List.getElem?_set_self (by rw [wipe_length]; exact h)]
        simp [h]
      · rw [List.getElem?_eq_none (by rw [List.length_set, wipe_length]; omega), if_neg (by omega), List.getElem?_eq_none (by omega)]
    · rw [List.getElem?_set_ne e, wipe_get vs σ j]
      have : (j ∈ v :: vs) ↔ j ∈ vs := by
        rw [List.mem_cons]
        exact ⟨fun h => h.resolve_left fun z => e z.symm, .inr⟩
      simp [this]
theorem Ag.wipe {vs : List Nat} {σ σ' : L2.St} (a : Ag vs σ σ') : wipe σ' vs = wipe σ vs := by
  apply List.ext_getElem?
  intro j
  rw [wipe_get, wipe_get, a.len]
  by_cases h : j ∈ vs
  · by_cases l : j < σ.length
    · simp [h, l]
    · simp only [h, l, and_false, if_false]
      rw [List.getElem?_eq_none (by rw [a.len]; omega), List.getElem?_eq_none (by omega)]
  · simp [h, a.at_ j h]
theorem Ag.refl (vs : List Nat) (σ : L2.St) : Ag vs σ σ := ⟨rfl, fun _ _ => rfl⟩
theorem Ag.set {vs : List Nat} {σ σ' : L2.St} {i : Nat} {x : Option V} (h : i ∈ vs) (a : Ag vs (σ.set i x) σ') : Ag vs σ σ' := ⟨by rw [a.len, List.length_set], fun j hj => by rw [a.at_ j hj, List.getElem?_set_ne (fun z => hj (by rw [← z]; exact h))]⟩
theorem Ag.mono {vs ws : List Nat} {σ σ' : L2.St} (h : ∀ i ∈ vs, i ∈ ws) (a : Ag vs σ σ') : Ag ws σ σ' := ⟨a.len, fun j hj => a.at_ j fun z => hj (h j z)⟩
/-- what a turn hands to its target: a tuple that is taken apart at once may be any -/
def TlS (g : Gc) (one : Bool) (α : List Addr) (H : Hp) (d : D) (v : V) : Prop := g.Tl α H d v ∨ (one = false ∧ ∃ a xs ds, d = .p (.tuple ds) ∧ v = .ref a ∧ SqT g.K H a xs ∧ TpA g.K H ds xs)
def rG (g : Gc) (tg : List Nat) (one : Bool) : TG := fun v σ H Q => ∃ α S ρ d ρ', g.At α H S ∧ g.Sr α H σ ρ ∧ TlS g one α H d v ∧ tgt tg one d ρ = some ρ' ∧ ∀ σ', g.Sr α H σ' ρ' → Ag tg σ σ' → Q σ' H
def rGs (g : Gc) (tg : List Nat) : TGs := fun vs σ H Q => ∃ α S ρ ds ρ', g.At α H S ∧ g.Sr α H σ ρ ∧ g.TlA α H ds vs ∧ setAll tg ds ρ = some ρ' ∧ ∀ σ', g.Sr α H σ' ρ' → Ag tg σ σ' → Q σ' H
theorem pg_imp {X : Cx} {e : Expr} {t t' : TG} (h : PG X e t) (i : ∀ v σ H Q, t' v σ H Q → t v σ H Q) : PG X e t' := ⟨fun pins s σ H v u Q I r q => h.run pins s σ H v u Q I r (i v σ H Q q)⟩
theorem pgs_imp {X : Cx} {e : List Expr} {t t' : TGs} (h : PGs X e t) (i : ∀ v σ H Q, t' v σ H Q → t v σ H Q) : PGs X e t' := ⟨fun pins s σ H v u Q I r q => h.run pins s σ H v u Q I r (i v σ H Q q)⟩
section
variable {X : Cx} {g : Gc} {W : WX} {cal : Nat → List D → M D} {pos : Pos}
theorem g_one (i : Nat) {x : Str} (hN : X.N.Nodup) (hi : X.N[i]? = some x := by rfl) (hx : Loc X.env.scope x := by first | exact Or.inl rfl | exact Or.inr rfl) (hf : X.fn x = true ∨ X.env.scope.names.lookup x = some .local := by first | exact .inl rfl | exact .inr rfl) :
    PG X (.Name x pos) (rG g [i] true) := pg_imp (pg_name hN hi hx hf) fun v σ H Q q => by
  obtain ⟨α, S, ρ, d, ρ', a, r, t, e, k⟩ := q
  have e : some (ρ.set i (some d)) = some ρ' := e
  cases e
  have t : g.Tl α H d v := t.resolve_right fun z => by cases z.1
  exact k _ (r.set t) ((Ag.refl _ _).set (List.mem_singleton.mpr rfl))
theorem g_nil : PGs X [] (rGs g []) := pgs_imp pgs_nil fun v σ H Q q => by
  obtain ⟨α, S, ρ, ds, ρ', a, r, t, e, k⟩ := q
  cases ds with
  | nil =>
    cases t
    cases e
    exact ⟨rfl, k σ r (Ag.refl _ _)⟩
  | cons d ds => cases e
theorem g_cons (i : Nat) {is : List Nat} {x : Str} {es : List Expr} (hN : X.N.Nodup) (h2 : PGs X es (rGs g is)) (hi : X.N[i]? = some x := by rfl) (hx : Loc X.env.scope x := by first | exact Or.inl rfl | exact Or.inr rfl)
    (hf : X.fn x = true ∨ X.env.scope.names.lookup x = some .local := by first | exact .inl rfl | exact .inr rfl) (hs : (assignEach (.Name x pos :: es) X.env).map (·.2) = assign (.Name x pos) X.env :: (assignEach es X.env).map (·.2) := by rfl) :
    PGs X (.Name x pos :: es) (rGs g (i :: is)) := pgs_imp (pgs_cons (pg_name hN hi hx hf) h2 hs) fun v σ H Q q => by
  obtain ⟨α, S, ρ, ds, ρ', a, r, t, e, k⟩ := q
  cases ds with
  | nil => cases e
  | cons d ds =>
    cases t with
    | cons t1 t2 =>
      refine ⟨_, _, rfl, α, S, _, ds, ρ', a, r.set t1, t2, e, fun σ' r' ag => k σ' r' ?_⟩
      exact (ag.mono fun j h => List.mem_cons_of_mem _ h).set (List.mem_cons_self ..)
theorem g_tup {es : List Expr} {k : Nat} {is : List Nat} (hK : X.K = g.K) (hc : X.calm = true) (h : PGs X es (rGs g is)) (hn : (assignEach es X.env).length = is.length := by rfl) (hst : (assignEach es X.env).findIdx? (·.1) = none := by rfl) :
    PG X (.Tuple es k pos) (rG g is false) := by
  have h1 := pg_tup (pos := pos) (k := k) hc h hn hst
  rw [hK] at h1
  refine pg_imp h1 fun v σ H Q q => ?_
  obtain ⟨α, S, ρ, d, ρ', a, r, t, e, k⟩ := q
  unfold tgt at e
  rw [if_neg (by decide)] at e
  split at e
  · split at e
    · rename_i hl
      rcases t with t | ⟨_, b, xs, ds, e2, rfl, hq, ha⟩
      · cases t with
        | tup hq ha => exact ⟨_, _, rfl, hq.sq, by rw [← ha.length]; exact hl, α, S, ρ, _, ρ', a, r, TpA.toTl ha, e, k⟩
      · cases e2
        exact ⟨b, xs, rfl, hq, by rw [← ha.length]; exact hl, α, S, ρ, _, ρ', a, r, TpA.toTl ha, e, k⟩
    · cases e
  · cases e
end

/-! ### what is walked -/
def Wk (g : Gc) (one : Bool) (src : Src) (J : It) (α0 : List Addr) (H0 : Hp) : Prop := ∀ i α H S, Ext α0 α H0 H → g.At α H S →
  (∀ d, src.at i S = some (some d) → J.go i H ∧ ∀ x H', J.yld i H x H' → Ext α α H H' ∧ g.At α H' S ∧ TlS g one α H' d x) ∧ (src.at i S = some none → J.stop i H)
def rI (g : Gc) (W : WX) (one : Bool) (m : Sl → M Src) : TI := fun σ H R => rM g W m σ H fun src _ α' H' => ∀ J, Wk g one src J α' H' → R J H'
theorem sq_ext {g : Gc} {α α' : List Addr} {H H' : Hp} {S : Sto} {a : Addr} {xs : List V} (e : Ext α α' H H') (x : g.At α H S) (h : SqT g.K H a xs) : SqT g.K H' a xs := sqT_keep (e.kt x) h
theorem tpa_get {K : PySem.W.Frag} {H : Hp} {ds : List PyData} {xs : List V} (h : TpA K H ds xs) {i : Nat} (e : ds[i]? = none) : xs.length ≤ i := by
  rw [← h.length]
  exact List.getElem?_eq_none_iff.mp e
theorem map_at {A B : Type} {f : A → B} {l : List A} {i : Nat} {b : B} (h : (l.map f)[i]? = some b) : ∃ a, l[i]? = some a ∧ f a = b := by
  rw [List.getElem?_map] at h
  exact Option.map_eq_some_iff.mp h
theorem map_none {A B : Type} {f : A → B} {l : List A} {i : Nat} (h : (l.map f)[i]? = none) : l[i]? = none := by
  rw [List.getElem?_map] at h
  exact Option.map_eq_none_iff.mp h
section
variable {X : Cx} {g : Gc} {W : WX} {cal : Nat → List D → M D} {pos : Pos} {tg : Expr} {one : Bool}
theorem i_tup {e : Expr} {ie : E} (hK : X.K = g.K) (h : PE X e (rE g W (evE cal ie))) : PI X tg e (rI g W one (evI cal (.tup ie))) := by
  have h1 := pi_tup (tg := tg) h
  rw [hK] at h1
  refine pi_imp h1 fun σ H R q => ?_
  obtain ⟨α, S, q⟩ := q
  refine ⟨α, S, (rAt.bind (m := evE cal ie) (f := fun x _ => M.opt (srcTup x)) q).imp fun x S1 α1 H1 e1 a1 h1 v tv => ?_⟩
  obtain ⟨z, hz, k⟩ := rAt.opt (o := fun _ => srcTup x) h1
  have hz : srcTup x = some z := hz
  unfold srcTup at hz
  split at hz
  · rename_i ds _
    cases hz
    cases tv with
    | @tup a xs _ hq ha =>
      refine ⟨a, rfl, ⟨xs, hq.sq⟩, k α1 H1 (Ext.refl _ _) a1 _ fun i α2 H2 S2 e2 a2 => ⟨fun d hd => ?_, fun hd => ?_⟩⟩
      · have hd : (ds.map D.p)[i]? = some d := Option.some.inj hd
        obtain ⟨p, hp, rfl⟩ := map_at hd
        obtain ⟨v, hv, tv⟩ := ha.get hp
        refine ⟨⟨xs, v, sq_ext e2 a1 hq.sq, hv⟩, fun y H' hy => ?_⟩
        obtain ⟨rfl, hy⟩ := hy
        have e3 := hy xs (sq_ext e2 a1 hq.sq)
        rw [hv] at e3
        cases e3
        exact ⟨Ext.refl _ _, a2, .inl (tv.keep (e2.kt a1))⟩
      · have hd : (ds.map D.p)[i]? = none := Option.some.inj hd
        exact ⟨xs, sq_ext e2 a1 hq.sq, tpa_get ha (map_none hd)⟩
  all_goals (cases hz; done)
theorem i_lst {e : Expr} {ie : E} (hK : X.K = g.K) (h : PE X e (rE g W (evE cal ie))) : PI X tg e (rI g W one (evI cal (.lst ie))) := by
  have h1 := pi_list (tg := tg) h
  rw [hK] at h1
  refine pi_imp h1 fun σ H R q => ?_
  obtain ⟨α, S, q⟩ := q
  refine ⟨α, S, (rAt.bind (m := evE cal ie) (f := fun x _ => fun S => M.opt (srcLst S x) S) q).imp fun x S1 α1 H1 e1 a1 h1 v tv => ?_⟩
  obtain ⟨z, hz, k⟩ := h1.opt
  unfold srcLst at hz
  split at hz
  · split at hz
    · rename_i j _ ds hj
      cases hz
      obtain ⟨a, xs, h4, h2, h3⟩ := At.lst a1 hj
      obtain ⟨a', h4', rfl⟩ := tv
      rw [h4] at h4'
      cases h4'
      refine ⟨a, rfl, ⟨xs, SqL.of h2⟩, k α1 H1 (Ext.refl _ _) a1 _ fun i α2 H2 S2 e2 a2 => ?_⟩
      cases ej : S2[j]? with
      | none => exact ⟨fun d hd => by simp [Src.at, ej] at hd, fun hd => by simp [Src.at, ej] at hd⟩
      | some o =>
        cases o with
        | dic _ => exact ⟨fun d hd => by simp [Src.at, ej] at hd, fun hd => by simp [Src.at, ej] at hd⟩
        | lst ds =>
          obtain ⟨b, ys, h5, h6, h7⟩ := At.lst a2 ej
          have h8 := e2.pre j a h4
          rw [h5] at h8
          cases h8
          have only : ∀ zs, SqL g.K H2 a zs → True := fun _ _ => trivial
          refine ⟨fun d hd => ?_, fun hd => ?_⟩
          · simp [Src.at, ej] at hd
            obtain ⟨v, hv, tv⟩ := Paired.get h7 hd
            refine ⟨⟨ys, v, SqL.of h6, hv⟩, fun y H' hy => ?_⟩
            obtain ⟨rfl, hy⟩ := hy
            have e3 := hy ys (SqL.of h6)
            rw [hv] at e3
            cases e3
            exact ⟨Ext.refl _ _, a2, .inl tv⟩
          · simp [Src.at, ej] at hd
            refine ⟨ys, SqL.of h6, ?_⟩
            rw [← Paired.length h7]
            exact hd
    all_goals (cases hz; done)
  all_goals (cases hz; done)
theorem i_str {e : Expr} {ie : E} (h : PE X e (rE g W (evE cal ie))) : PI X tg e (rI g W one (evI cal (.str ie))) := by
  refine pi_imp (pi_str h) fun σ H R q => ?_
  obtain ⟨α, S, q⟩ := q
  refine ⟨α, S, (rAt.bind (m := evE cal ie) (f := fun x _ => M.opt (srcStr x)) q).imp fun x S1 α1 H1 e1 a1 h1 v tv => ?_⟩
  obtain ⟨z, hz, k⟩ := rAt.opt (o := fun _ => srcStr x) h1
  have hz : srcStr x = some z := hz
  unfold srcStr at hz
  split at hz
  · rename_i z0 _
    cases hz
    cases tv
    refine ⟨z0, rfl, k α1 H1 (Ext.refl _ _) a1 _ fun i α2 H2 S2 e2 a2 => ⟨fun d hd => ?_, fun hd => ?_⟩⟩
    · obtain ⟨c, hc, rfl⟩ := map_at (Option.some.inj hd)
      have hc2 : z0.cps[i]? = some c := by rw [← Array.getElem?_toList]; exact hc
      refine ⟨(Array.getElem?_eq_some_iff.mp hc2).1, fun y H' hy => ?_⟩
      obtain ⟨rfl, c', hc', rfl⟩ := hy
      rw [hc2] at hc'
      cases hc'
      exact ⟨Ext.refl _ _, a2, .inl (.str _)⟩
    · have hn := map_none (Option.some.inj hd)
      have := List.getElem?_eq_none_iff.mp hn
      rwa [Array.length_toList] at this
  all_goals (cases hz; done)
theorem i_rng {a : Expr} {ia : E} {p : Pos} (hm : X.mg "range" = none) (h : PE X a (rE g W (evE cal ia))) (hg : Gl X "range" := by rfl) (hs : starEach [a] X.env = [(false, eval a X.env)] := by rfl) : PI X tg (.Call (.Name "range" p) [a] [] pos) (rI g W one (evI cal (.rng ia))) := by
  refine pi_imp (pi_range1 hg hm (pa_cons h pa_nil (by rw [hs]; rfl)) hs) fun σ H R q => ?_
  obtain ⟨α, S, q⟩ := q
  refine ⟨α, S, (rAt.bind (m := evE cal ia) (f := fun x _ => M.opt (srcRng x)) q).imp fun x S1 α1 H1 e1 a1 h1 v tv => ?_⟩
  obtain ⟨z, hz, k⟩ := rAt.opt (o := fun _ => srcRng x) h1
  have hz : srcRng x = some z := hz
  unfold srcRng at hz
  split at hz
  · rename_i n _
    split at hz
    · rename_i hb
      cases hz
      cases tv
      refine ⟨n, rfl, by omega, by omega, k α1 H1 (Ext.refl _ _) a1 _ fun i α2 H2 S2 e2 a2 => ⟨fun d hd => ?_, fun hd => ?_⟩⟩
      · obtain ⟨j, hj, rfl⟩ := map_at (Option.some.inj hd)
        have hl := (List.getElem?_eq_some_iff.mp hj).1
        rw [List.length_range] at hl
        rw [List.getElem?_range hl] at hj
        cases hj
        refine ⟨hl, fun y H' hy => ?_⟩
        obtain ⟨rfl, rfl⟩ := hy
        rw [Int.zero_add]
        exact ⟨Ext.refl _ _, a2, .inl (.int _)⟩
      · have hn := List.getElem?_eq_none_iff.mp (map_none (Option.some.inj hd))
        rw [List.length_range] at hn
        exact hn
    all_goals (cases hz; done)
  all_goals (cases hz; done)
theorem zip_at {A B : Type} : ∀ {l : List A} {m : List B} {i : Nat}, match (l.zip m)[i]? with
    | some q => l[i]? = some q.1 ∧ m[i]? = some q.2
    | none => l.length ≤ i ∨ m.length ≤ i
  | [], m, i => by simp
  | a :: l, [], i => by simp
  | a :: l, b :: m, 0 => by simp
  | a :: l, b :: m, i + 1 => by
    have h := zip_at (l := l) (m := m) (i := i)
    rw [List.zip_cons_cons, List.getElem?_cons_succ]
    revert h
    cases (l.zip m)[i]? with
    | none => simp
    | some q => simp
theorem zip_some {A B : Type} {l : List A} {m : List B} {i : Nat} {q : A × B} (h : (l.zip m)[i]? = some q) : l[i]? = some q.1 ∧ m[i]? = some q.2 := by
  have z := zip_at (l := l) (m := m) (i := i)
  rw [h] at z
  exact z
theorem zip_none {A B : Type} {l : List A} {m : List B} {i : Nat} (h : (l.zip m)[i]? = none) : l.length ≤ i ∨ m.length ≤ i := by
  have z := zip_at (l := l) (m := m) (i := i)
  rw [h] at z
  exact z
theorem i_zip {a b : Expr} {ia ib : E} {elts : List Expr} {kk : Nat} {p tpos : Pos} (hK : X.K = g.K) (hm : X.mg "zip" = none) (h1 : PE X a (rE g W (evE cal ia))) (h2 : PE X b (rE g W (evE cal ib))) (hg : Gl X "zip" := by rfl)
    (hs : starEach [a, b] X.env = (false, eval a X.env) :: starEach [b] X.env := by rfl) (hs2 : starEach [b] X.env = (false, eval b X.env) :: starEach [] X.env := by rfl) (hpl : (backTo pos (starEach [b] X.env)).any (·.1) = false := by rfl) :
    PI X (.Tuple elts kk tpos) (.Call (.Name "zip" p) [a, b] [] pos) (rI g W false (evI cal (.zip ia ib))) := by
  have h3 := RZ.pi_zipA (X := X) (elts := elts) (kk := kk) (tpos := tpos) (p := p) (pos := pos) hg hm (pa_cons h1 (pa_cons h2 pa_nil hs2) hs) hs hpl
  rw [hK] at h3
  refine pi_imp h3 fun σ H R q => ?_
  obtain ⟨α, S, q⟩ := q
  refine ⟨α, S, (rAt.bind (m := evE cal ia) (f := fun x ρ => M.bind (evE cal ib ρ) fun y => M.opt (srcZip x y)) q).imp fun x S1 α1 H1 e1 a1 h1 v tv => ⟨α1, S1, (rAt.bind (m := evE cal ib) (f := fun y _ => M.opt (srcZip x y)) h1).imp fun y S2 α2 H2 e2 a2 h2 u tu => ?_⟩⟩
  obtain ⟨z, hz, k⟩ := rAt.opt (o := fun _ => srcZip x y) h2
  have hz : srcZip x y = some z := hz
  have tv := tv.ext e2 a1
  unfold srcZip at hz
  split at hz
  · cases hz
    cases tv with
    | @tup c xs _ hq ha =>
      cases tu with
      | @tup d ys _ hr hb =>
        refine ⟨c, d, xs, ys, rfl, .inr ⟨hq.sq, hr.sq, k α2 H2 (Ext.refl _ _) a2 _ fun i α3 H3 S3 e3 a3 => ⟨fun dd hd => ?_, fun hd => ?_⟩⟩⟩
        · obtain ⟨q, hq1, rfl⟩ := map_at (Option.some.inj hd)
          have hz2 := zip_some hq1
          obtain ⟨v1, hv1, t1⟩ := ha.get hz2.1
          obtain ⟨v2, hv2, t2⟩ := hb.get hz2.2
          have s1 := sq_ext e3 a2 hq.sq
          have s2 := sq_ext e3 a2 hr.sq
          refine ⟨⟨xs, ys, v1, v2, s1, s2, hv1, hv2⟩, fun y H' hy => ?_⟩
          obtain ⟨T, y1, y2, rfl, hT, rfl, g1, g2⟩ := hy
          have e4 := g1 xs s1
          have e5 := g2 ys s2
          rw [hv1] at e4
          rw [hv2] at e5
          cases e4
          cases e5
          obtain ⟨e6, a6⟩ := At.fresh a3 hT (u := .tup [v1, v2])
          exact ⟨e6, a6, .inr ⟨rfl, T, _, _, rfl, rfl, .inl (.inl upd_same), .cons (t1.keep ((e3.trans e6).kt a2)) (.cons (t2.keep ((e3.trans e6).kt a2)) .nil)⟩⟩
        · have hn := map_none (Option.some.inj hd)
          have hz2 := zip_none hn
          refine ⟨xs, ys, sq_ext e3 a2 hq.sq, sq_ext e3 a2 hr.sq, ?_⟩
          rw [← ha.length, ← hb.length]
          exact hz2
  all_goals (cases hz; done)

/-! ### comprehensions -/
theorem calm_wp {β : Type} {m : M β} {S : Sto} {ok : β → Sto → Prop} {ex ex' : Ex → Sto → Prop} (h : wp (M.calm m S) ok ex) : wp (m S) ok ex' := by
  unfold M.calm at h
  cases e : m S with
  | val a S' => rw [e] at h; exact h
  | exc x S' => rw [e] at h; exact h.elim
  | bad => rw [e] at h; exact h.elim
theorem tLc_of {it : Wi} {tgs : List Nat} {ie : E} {σ : L2.St} {H : Hp} {Q : VK} (h : rLn g W (evL cal (.lc it tgs one ie)) σ H Q) :
    tLc (rI g W one (evI cal it)) (rG g tgs one) tYes (rE g W0 (evE cal ie)) tgs σ H Q := by
  obtain ⟨α, S, ρ, a, r, w⟩ := h
  have w : wp (M.bind (evI cal it ρ) (fun src => fun S => match src.size S with
    | some n => if n ≤ 100000 then lcGo src (fun d => M.calm (match tgt tgs one d (wipeD ρ tgs) with
        | some ρ' => evE cal ie ρ'
        | none => M.bad)) n 0 [] S else .bad
    | none => .bad) S) _ _ := w
  refine ⟨α, S, ρ, a, r, wp_mono (wp_bind w) (fun src S1 h1 α1 H1 e1 a1 J wk p hp => ?_) fun _ _ z => z⟩
  cases hn : src.size S1 with
  | none => rw [hn] at h1; exact h1.elim
  | some n =>
    rw [hn] at h1
    by_cases hl : n ≤ 100000
    · simp only [hl, if_true] at h1
      obtain ⟨ef, af⟩ := At.fresh a1 hp (u := .lst [])
      have hp0 : H p = none := e1.none a1 hp
      -- turn i, m turns are left, the heap H2: the rest of the run ends well
      let Wf : Nat → Nat → Hp → Prop := fun i m H2 => ∃ α2 S2 acc xs, Ext α1 α2 H1 H2 ∧ g.At α2 H2 S2 ∧ p ∉ α2 ∧ H2 p = some (.lst xs) ∧ g.TlA α2 H2 acc xs ∧ acc.length + m ≤ 100000 ∧
        wp (lcGo src (fun d => M.calm (match tgt tgs one d (wipeD ρ tgs) with | some ρ' => evE cal ie ρ' | none => M.bad)) m i acc S2)
          (fun ds S' => ∀ α' H', Ext α α' H H' → g.At α' H' S' → ∀ p xs, H p = none → p ∉ α' → H' p = some (.lst xs) → g.TlA α' H' ds xs → Q (.ref p) H') (exW g W α σ H)
      refine ⟨Wf, ⟨n, α1, S1, [], [], ef, af, a1.notin hp, upd_same, .nil, by simpa using hl, h1⟩, ?_⟩
      rintro i m H2 ⟨α2, S2, acc, xs, e2, a2, np, hx, tx, hl2, w2⟩
      have wki := wk i α2 H2 S2 e2 a2
      cases hat : src.at i S2 with
      | none => cases m <;> (simp only [lcGo, hat] at w2; exact w2.elim)
      | some o =>
        cases o with
        | none =>
          refine .inl ⟨wki.2 hat, ?_⟩
          have w3 : ∀ α' H', Ext α α' H H' → g.At α' H' S2 → ∀ p xs, H p = none → p ∉ α' → H' p = some (.lst xs) → g.TlA α' H' acc xs → Q (.ref p) H' := by
            cases m <;> (simp only [lcGo, hat] at w2; exact w2)
          exact w3 α2 H2 (e1.trans e2) a2 p xs hp0 np hx tx
        | some d =>
          cases m with
          | zero => simp only [lcGo, hat] at w2; exact w2.elim
          | succ m =>
            simp only [lcGo, hat] at w2
            obtain ⟨go, yl⟩ := wki.1 d hat
            refine .inr ⟨go, Wf (i + 1) m, fun H' q => ⟨m, Nat.lt_succ_self _, q⟩, fun x H' hy => ?_⟩
            obtain ⟨ey, ay, ty⟩ := yl x H' hy
            have w3 := wp_bind w2
            have w4 := calm_wp (ex' := fun _ _ => False) w3
            cases ht : tgt tgs one d (wipeD ρ tgs) with
            | none => rw [ht] at w4; exact w4.elim
            | some ρ' =>
              rw [ht] at w4
              have eH := (e1.trans (e2.trans ey))
              refine ⟨α2, S2, wipeD ρ tgs, d, ρ', ay, ((r.ext eH a).wipe tgs), ty, ht, fun σ' r' ag => ⟨ag.wipe.trans (Ag.wipe (σ := σ) (σ' := L2.wipe σ tgs) ⟨wipe_length _ _, fun j hj => by rw [wipe_get, if_neg (fun z => hj z.1)]⟩), ?_⟩⟩
              dsimp only [tYes]
              rw [if_pos rfl]
              refine ⟨α2, S2, ρ', ay, r', wp_mono w4 (fun z S3 w5 α3 H3 e3 a3 v tv => ?_) fun _ _ z => z.elim⟩
              have hx' : H' p = some (.lst xs) := ey.keep p _ hx np
              have hx3 : H3 p = some (.lst xs) := e3.keep p _ hx' np
              have np3 : p ∉ α3 := e3.notin hx' np
              have tx3 : g.TlA α3 H3 acc xs := TlA.ext (ey.trans e3) a2 tx
              have hlen : xs.length = acc.length := (Paired.length tx).symm
              refine ⟨xs, hx3, by rw [hlen]; exact Nat.lt_of_lt_of_le (by omega : acc.length < 100001) (by rw [sizeLine_eq]; decide), α3, S3, acc ++ [z], xs ++ [v], ?_, a3.apart hx3 np3, np3, upd_same, ?_, by rw [List.length_append, List.length_singleton]; omega, w5⟩
              · have ee := (e2.trans (ey.trans e3))
                exact ⟨ee.pre, fun b o hb n => by rw [upd_ne (fun z => by rw [z, hp] at hb; cases hb)]; exact ee.keep b o hb n, ee.new⟩
              · have kt : KT H3 (upd H3 p (.lst (xs ++ [v]))) := KT.lst hx3
                exact Paired.app (Paired.mapP tx3 fun _ _ q => q.keep kt) (.cons (tv.keep kt) .nil)
    · simp only [hl, if_false] at h1
      exact h1.elim
theorem l_lc {elt tg iter : Expr} {scope : Scope} {it : Wi} {ie : E} (own : List (Str × Nat)) {CX : CXT} {k : Nat} (G : Gd X g W CX cal k) (hi : PI X tg iter (rI g W one (evI cal it))) (ok : blkC X.N X.env.scope scope own = true)
    (hg : ∀ (s : Shared) (H : Hp) (C : Addr) (cl : List (Str × Addr)) (fp : List Addr), PG (X.blk s H scope (compEnvC scope cl C X.env) fp) tg (rG g (own.map (·.2)) one))
    (he : ∀ (s : Shared) (H : Hp) (C : Addr) (cl : List (Str × Addr)) (fp : List Addr), Gd (X.blk s H scope (compEnvC scope cl C X.env) fp) g W0 CX cal k → PE (X.blk s H scope (compEnvC scope cl C X.env) fp) elt (rE g W0 (evE cal ie)))
    (hs : ∀ x, foldedSetIterable iter X.env x = pure x := by intro _; rfl) : PE X (.ListComp elt [⟨tg, iter, [], 0⟩] scope pos) (rLn g W (evL cal (.lc it (own.map (·.2)) one ie))) :=
  pe_imp (pe_lc G.calm G.nd hi (blkOk_by ok) hg (fun _ _ _ _ _ => pts_nil) (fun s H C cl fp => he s H C cl fp (G.blk s H scope _ fp)) hs) fun _ _ _ q => tLc_of q
theorem tLcf_of {it : Wi} {tgs : List Nat} {ic ie : E} {σ : L2.St} {H : Hp} {Q : VK} (h : rLn g W (evL cal (.lcf it tgs one ic ie)) σ H Q) :
    tLc (rI g W one (evI cal it)) (rG g tgs one) (rT g W0 (evE cal ic)) (rE g W0 (evE cal ie)) tgs σ H Q := by
  obtain ⟨α, S, ρ, a, r, w⟩ := h
  have w : wp (M.bind (evI cal it ρ) (fun src => fun S => match src.size S with
    | some n => if n ≤ 100000 then lcGoF src (fun d => M.calm (match tgt tgs one d (wipeD ρ tgs) with
        | some ρ' => M.bind (evE cal ic ρ') fun x => M.bind (M.opt (asBool x)) fun k => if k = true then M.bind (evE cal ie ρ') fun z => M.pure (some z) else M.pure none
        | none => M.bad)) n 0 [] S else .bad
    | none => .bad) S) _ _ := w
  refine ⟨α, S, ρ, a, r, wp_mono (wp_bind w) (fun src S1 h1 α1 H1 e1 a1 J wk p hp => ?_) fun _ _ z => z⟩
  cases hn : src.size S1 with
  | none => rw [hn] at h1; exact h1.elim
  | some n =>
    rw [hn] at h1
    by_cases hl : n ≤ 100000
    · simp only [hl, if_true] at h1
      obtain ⟨ef, af⟩ := At.fresh a1 hp (u := .lst [])
      have hp0 : H p = none := e1.none a1 hp
      -- turn i, m turns are left, the heap H2: the rest of the run ends well
      let Wf : Nat → Nat → Hp → Prop := fun i m H2 => ∃ α2 S2 acc xs, Ext α1 α2 H1 H2 ∧ g.At α2 H2 S2 ∧ p ∉ α2 ∧ H2 p = some (.lst xs) ∧ g.TlA α2 H2 acc xs ∧ acc.length + m ≤ 100000 ∧
        wp (lcGoF src (fun d => M.calm (match tgt tgs one d (wipeD ρ tgs) with | some ρ' => (M.bind (evE cal ic ρ') fun x => M.bind (M.opt (asBool x)) fun k => if k = true then M.bind (evE cal ie ρ') fun z => M.pure (some z) else M.pure none) | none => M.bad)) m i acc S2)
          (fun ds S' => ∀ α' H', Ext α α' H H' → g.At α' H' S' → ∀ p xs, H p = none → p ∉ α' → H' p = some (.lst xs) → g.TlA α' H' ds xs → Q (.ref p) H') (exW g W α σ H)
      refine ⟨Wf, ⟨n, α1, S1, [], [], ef, af, a1.notin hp, upd_same, .nil, by simpa using hl, h1⟩, ?_⟩
      rintro i m H2 ⟨α2, S2, acc, xs, e2, a2, np, hx, tx, hl2, w2⟩
      have wki := wk i α2 H2 S2 e2 a2
      cases hat : src.at i S2 with
      | none => cases m <;> (simp only [lcGoF, hat] at w2; exact w2.elim)
      | some o =>
        cases o with
        | none =>
          refine .inl ⟨wki.2 hat, ?_⟩
          have w3 : ∀ α' H', Ext α α' H H' → g.At α' H' S2 → ∀ p xs, H p = none → p ∉ α' → H' p = some (.lst xs) → g.TlA α' H' acc xs → Q (.ref p) H' := by
            cases m <;> (simp only [lcGoF, hat] at w2; exact w2)
          exact w3 α2 H2 (e1.trans e2) a2 p xs hp0 np hx tx
        | some d =>
          cases m with
          | zero => simp only [lcGoF, hat] at w2; exact w2.elim
          | succ m =>
            simp only [lcGoF, hat] at w2
            obtain ⟨go, yl⟩ := wki.1 d hat
            refine .inr ⟨go, Wf (i + 1) m, fun H' q => ⟨m, Nat.lt_succ_self _, q⟩, fun x H' hy => ?_⟩
            obtain ⟨ey, ay, ty⟩ := yl x H' hy
            have w3 := wp_bind w2
            have w4 := calm_wp (ex' := fun _ _ => False) w3
            cases ht : tgt tgs one d (wipeD ρ tgs) with
            | none => rw [ht] at w4; exact w4.elim
            | some ρ' =>
              rw [ht] at w4
              have eH := (e1.trans (e2.trans ey))
              refine ⟨α2, S2, wipeD ρ tgs, d, ρ', ay, ((r.ext eH a).wipe tgs), ty, ht, fun σ' r' ag => ⟨ag.wipe.trans (Ag.wipe (σ := σ) (σ' := L2.wipe σ tgs) ⟨wipe_length _ _, fun j hj => by rw [wipe_get, if_neg (fun z => hj z.1)]⟩), ?_⟩⟩
              have hx' : H' p = some (.lst xs) := ey.keep p _ hx np
              refine ⟨α2, S2, ρ', ay, r', wp_mono (wp_bind w4) (fun x3 S3 w5 α3 H3 e3 a3 => ?_) fun _ _ z => z.elim⟩
              have hx3 : H3 p = some (.lst xs) := e3.keep p _ hx' np
              have np3 : p ∉ α3 := e3.notin hx' np
              have tx3 : g.TlA α3 H3 acc xs := TlA.ext (ey.trans e3) a2 tx
              have ee3 := e2.trans (ey.trans e3)
              have w6 := wp_bind w5
              cases eb : asBool x3 with
              | none => simp only [M.opt, eb] at w6; exact w6.elim
              | some b =>
                simp only [M.opt, eb] at w6
                refine ⟨b, asBool_of eb, ?_⟩
                cases b with
                | false =>
                  rw [if_neg (by decide)]
                  exact ⟨α3, S3, acc, xs, ee3, a3, np3, hx3, tx3, by omega, w6⟩
                | true =>
                  rw [if_pos rfl]
                  refine ⟨α3, S3, ρ', a3, r'.ext e3 ay, wp_mono (wp_bind w6) (fun z S4 w7 α4 H4 e4 a4 v tv => ?_) fun _ _ z => z.elim⟩
                  have hx4 : H4 p = some (.lst xs) := e4.keep p _ hx3 np3
                  have np4 : p ∉ α4 := e4.notin hx3 np3
                  have tx4 : g.TlA α4 H4 acc xs := TlA.ext e4 a3 tx3
                  have hlen : xs.length = acc.length := (Paired.length tx).symm
                  refine ⟨xs, hx4, by rw [hlen]; exact Nat.lt_of_lt_of_le (by omega : acc.length < 100001) (by rw [sizeLine_eq]; decide), α4, S4, acc ++ [z], xs ++ [v], ?_, a4.apart hx4 np4, np4, upd_same, ?_, by rw [List.length_append, List.length_singleton]; omega, w7⟩
                  · have ee := ee3.trans e4
                    exact ⟨ee.pre, fun b o hb n => by rw [upd_ne (fun z => by rw [z, hp] at hb; cases hb)]; exact ee.keep b o hb n, ee.new⟩
                  · have kt : KT H4 (upd H4 p (.lst (xs ++ [v]))) := KT.lst hx4
                    exact Paired.app (Paired.mapP tx4 fun _ _ q => q.keep kt) (.cons (tv.keep kt) .nil)
    · simp only [hl, if_false] at h1
      exact h1.elim
theorem l_lcf {elt tg iter c : Expr} {scope : Scope} {it : Wi} {ic ie : E} (own : List (Str × Nat)) {CX : CXT} {k : Nat} (G : Gd X g W CX cal k) (hi : PI X tg iter (rI g W one (evI cal it))) (ok : blkC X.N X.env.scope scope own = true)
    (hg : ∀ (s : Shared) (H : Hp) (C : Addr) (cl : List (Str × Addr)) (fp : List Addr), PG (X.blk s H scope (compEnvC scope cl C X.env) fp) tg (rG g (own.map (·.2)) one))
    (hc : ∀ (s : Shared) (H : Hp) (C : Addr) (cl : List (Str × Addr)) (fp : List Addr), Gd (X.blk s H scope (compEnvC scope cl C X.env) fp) g W0 CX cal k → PT (X.blk s H scope (compEnvC scope cl C X.env) fp) c (rT g W0 (evE cal ic)))
    (he : ∀ (s : Shared) (H : Hp) (C : Addr) (cl : List (Str × Addr)) (fp : List Addr), Gd (X.blk s H scope (compEnvC scope cl C X.env) fp) g W0 CX cal k → PE (X.blk s H scope (compEnvC scope cl C X.env) fp) elt (rE g W0 (evE cal ie)))
    (hs : ∀ x, foldedSetIterable iter X.env x = pure x := by intro _; rfl) : PE X (.ListComp elt [⟨tg, iter, [c], 0⟩] scope pos) (rLn g W (evL cal (.lcf it (own.map (·.2)) one ic ie))) :=
  pe_imp (pe_lc G.calm G.nd hi (blkOk_by ok) hg (fun s H C cl fp => pts_one (hc s H C cl fp (G.blk s H scope _ fp))) (fun s H C cl fp => he s H C cl fp (G.blk s H scope _ fp)) hs) fun _ _ _ q => tLcf_of q
end
end Ir
set_option Elab.async false
set_option maxRecDepth 100000
set_option maxHeartbeats 4000001
/-! Statements, a def's body, the table of defs. -/
namespace Ir
open PySem L2 PySem.Spec PyProof.Rows

def ends (g : Gc) (D : Ends) (σ' : L2.St) (α' : List Addr) (H' : Hp) : Ctl → Prop
  | .next => D.nx σ' H'
  | .brk => D.bk σ' H'
  | .cont => D.ct σ' H'
  | .ret d => ∀ v, g.Tl α' H' d v → D.rt v H'
def exA (g : Gc) (W : WX) (α : List Addr) (H : Hp) (e : Ex) (S' : Sto) : Prop := ∀ cls dx α' H' σ', Ext α α' H H' → g.At α' H' S' → g.TX e cls dx H' → W cls dx σ' H'
def sAt (g : Gc) (W : WX) (α : List Addr) (S : Sto) (m : Sl → M (Ctl × Sl)) : TS := fun D σ H => ∃ ρ, g.At α H S ∧ g.Sr α H σ ρ ∧ wp (m ρ S) (fun c S' => ∀ α' H' σ', Ext α α' H H' → g.At α' H' S' → g.Sr α' H' σ' c.2 → ends g D σ' α' H' c.1) (exA g W α H)
def rS (g : Gc) (W : WX) (m : Sl → M (Ctl × Sl)) : TS := fun D σ H => ∃ α S, sAt g W α S m D σ H
section
variable {g : Gc} {W : WX} {α : List Addr} {S : Sto} {β γ : Type} {σ : L2.St} {H : Hp}
/-- an expression, then the rest -/
theorem sAt.bind {m : Sl → M β} {f : β → Sl → M (Ctl × Sl)} {D : Ends} (h : sAt g W α S (fun ρ => M.bind (m ρ) fun b => f b ρ) D σ H) : rAt g W α S m σ H (fun b S' α' H' => sAt g W α' S' (f b) D σ H') := by
  obtain ⟨ρ, a, r, h⟩ := h
  refine ⟨ρ, a, r, wp_mono (wp_bind h) (fun b S' q α' H' e a' => ⟨ρ, a', r.ext e a, wp_mono q (fun c S2 q2 α2 H2 σ2 e2 a2 r2 => q2 α2 H2 σ2 (e.trans e2) a2 r2) fun x S2 z cls dx α2 H2 σ2 e2 a2 t => z cls dx α2 H2 σ2 (e.trans e2) a2 t⟩) fun x S' z cls dx α' H' e a' t => z cls dx α' H' σ e a' t⟩
theorem sAt.here {c : Ctl} {D : Ends} (h : sAt g W α S (fun ρ => M.pure (c, ρ)) D σ H) : ends g D σ α H c := by
  obtain ⟨ρ, a, r, h⟩ := h
  exact h α H σ (Ext.refl _ _) a r
/-- a statement, then the rest -/
theorem sAt.seq {m : Sl → M (Ctl × Sl)} {f : Sl → M (Ctl × Sl)} {D : Ends} (h : sAt g W α S (fun ρ => M.bind (m ρ) fun c => match c with | (.next, ρ') => f ρ' | c => M.pure c) D σ H) : sAt g W α S m { D with nx := rS g W f D } σ H := by
  obtain ⟨ρ, a, r, h⟩ := h
  refine ⟨ρ, a, r, wp_mono (wp_bind h) (fun c S' q α' H' σ' e a' r' => ?_) fun _ _ z => z⟩
  obtain ⟨c, ρ'⟩ := c
  cases c with
  | next => exact ⟨α', S', ρ', a', r', wp_mono q (fun c S2 q2 α2 H2 σ2 e2 a2 r2 => q2 α2 H2 σ2 (e.trans e2) a2 r2) fun x S2 z cls dx α2 H2 σ2 e2 a2 t => z cls dx α2 H2 σ2 (e.trans e2) a2 t⟩
  | brk => exact q α' H' σ' e a' r'
  | cont => exact q α' H' σ' e a' r'
  | ret d => exact q α' H' σ' e a' r'
end
section
variable {X : Cx} {g : Gc} {W : WX} {cal : Nat → List D → M D} {pos : Pos}
theorem ss_nil : PSs X [] (rS g W (exSs cal .nil)) := pss_imp pss_nil fun D σ H h => by
  obtain ⟨α, S, h⟩ := h
  exact h.here (c := .next)
theorem ss_cons {st : Stmt} {rest : List Stmt} {i : Ir.St} {is : Ss} (h1 : PS X st (rS g W (exS cal i))) (h2 : PSs X rest (rS g W (exSs cal is))) : PSs X (st :: rest) (rS g W (exSs cal (.cons i is))) := pss_imp (pss_cons h1 h2) fun D σ H h => by
  obtain ⟨α, S, h⟩ := h
  exact ⟨α, S, sAt.seq (m := exS cal i) (f := exSs cal is) h⟩
theorem asg_of {m : Sl → M D} {i : Nat} {D : Ends} {σ : L2.St} {H : Hp} (h : rS g W (fun ρ => M.bind (m ρ) fun d => M.pure (.next, ρ.set i (some d))) D σ H) : tAsg (rE g W m) (gName i) D σ H := by
  obtain ⟨α, S, h⟩ := h
  refine ⟨α, S, (sAt.bind (m := m) (f := fun d ρ => M.pure (.next, ρ.set i (some d))) h).imp fun d S1 α1 H1 e1 a1 h1 v tv => ?_⟩
  obtain ⟨ρ, a, r, h1⟩ := h1
  exact h1 α1 H1 _ (Ext.refl _ _) a (r.set tv)
theorem s_asg (i : Nat) {x : Str} {e : Expr} {ie : E} {p : Pos} (hN : X.N.Nodup) (he : PE X e (rE g W (evE cal ie))) (hi : X.N[i]? = some x := by rfl) (hx : Loc X.env.scope x := by first | exact Or.inl rfl | exact Or.inr rfl)
    (hs : swapsWith e (some (.Name x p)) pos.line X.env = pure false := by rfl) (hf : X.fn x = true ∨ X.env.scope.names.lookup x = some .local := by first | exact .inl rfl | exact .inr rfl) : PS X (.Assign [.Name x p] e pos) (rS g W (exS cal (.asg i ie))) :=
  ps_imp (ps_set hN hi hx he hs hf) fun _ _ _ h => asg_of h
/-- name = [.. for ..] -/
theorem s_asgLc (i : Nat) {y : Str} {py : Pos} {elt tg iter : Expr} {scope : Scope} {cpos : Pos} {it : Wi} {one : Bool} {ie : E} (own : List (Str × Nat)) {CX : CXT} {k : Nat} (G : Gd X g W CX cal k) (hi : PI X tg iter (rI g W one (evI cal it))) (ok : blkC X.N X.env.scope scope own = true)
    (hg : ∀ (s : Shared) (H : Hp) (C : Addr) (cl : List (Str × Addr)) (fp : List Addr), PG (X.blk s H scope (compEnvC scope cl C X.env) fp) tg (rG g (own.map (·.2)) one))
    (he : ∀ (s : Shared) (H : Hp) (C : Addr) (cl : List (Str × Addr)) (fp : List Addr), Gd (X.blk s H scope (compEnvC scope cl C X.env) fp) g W0 CX cal k → PE (X.blk s H scope (compEnvC scope cl C X.env) fp) elt (rE g W0 (evE cal ie)))
    (hsw : swapsWith (.ListComp elt [⟨tg, iter, [], 0⟩] scope cpos) (some (.Name y py)) pos.line X.env = pure true) (hy : X.N[i]? = some y := by rfl) (hyl : X.env.scope.names.lookup y = some .local := by rfl)
    (hs : ∀ x, foldedSetIterable iter X.env x = pure x := by intro _; rfl) : PS X (.Assign [.Name y py] (.ListComp elt [⟨tg, iter, [], 0⟩] scope cpos) pos) (rS g W (exS cal (.asg i (.lst (.lc it (own.map (·.2)) one ie))))) :=
  ps_imp (ps_setLc G.calm G.nd hy hyl hsw hi (blkOk_by ok) hg (fun _ _ _ _ _ => pts_nil) (fun s H C cl fp => he s H C cl fp (G.blk s H scope _ fp)) hs) fun D σ H h => by
    refine tLc_of (it := it) (ie := ie) ?_
    obtain ⟨α, S, ρ, a, r, w⟩ := h
    have w : wp (M.bind (M.bind (evL cal (.lc it (own.map (·.2)) one ie) ρ) fun ds => alloc (.lst ds)) (fun d => M.pure (Ctl.next, ρ.set i (some d))) S) _ _ := w
    refine ⟨α, S, ρ, a, r, wp_mono (wp_bind (wp_bind w)) (fun ds S1 h1 α1 H1 e1 a1 p xs hp hn hx tx => ?_) fun x S' z cls dx α' H' e a' t => z cls dx α' H' σ e a' t⟩
    unfold alloc at h1
    by_cases hb : rbO S1.length (.lst ds) = true
    · simp only [hb, if_true] at h1
      obtain ⟨a2, pre⟩ := At.take_in a1 hn (o := .lst ds) ⟨xs, hx, tx⟩ hb
      have e2 : Ext α (α1 ++ [p]) H H1 := ⟨fun i b h => pre i b (e1.pre i b h), e1.keep, fun b hb => by
        rcases List.mem_append.mp hb with z | z
        · exact e1.new b z
        · rw [List.mem_singleton] at z
          rw [z]
          exact .inr hp⟩
      refine h1 (α1 ++ [p]) H1 (σ.set i (some (.ref p))) e2 a2 ((r.ext e2 a).set ⟨p, ?_, rfl⟩)
      rw [← a1.len, List.getElem?_append_right (Nat.le_refl _)]
      simp
    · simp only [hb] at h1
      exact h1.elim
theorem s_asgLcf (i : Nat) {y : Str} {py : Pos} {elt tg iter : Expr} {scope : Scope} {cpos : Pos} {it : Wi} {one : Bool} {ic ie : E} {c : Expr} (own : List (Str × Nat)) {CX : CXT} {k : Nat} (G : Gd X g W CX cal k) (hi : PI X tg iter (rI g W one (evI cal it))) (ok : blkC X.N X.env.scope scope own = true)
    (hg : ∀ (s : Shared) (H : Hp) (C : Addr) (cl : List (Str × Addr)) (fp : List Addr), PG (X.blk s H scope (compEnvC scope cl C X.env) fp) tg (rG g (own.map (·.2)) one))
    (hc : ∀ (s : Shared) (H : Hp) (C : Addr) (cl : List (Str × Addr)) (fp : List Addr), Gd (X.blk s H scope (compEnvC scope cl C X.env) fp) g W0 CX cal k → PT (X.blk s H scope (compEnvC scope cl C X.env) fp) c (rT g W0 (evE cal ic)))
    (he : ∀ (s : Shared) (H : Hp) (C : Addr) (cl : List (Str × Addr)) (fp : List Addr), Gd (X.blk s H scope (compEnvC scope cl C X.env) fp) g W0 CX cal k → PE (X.blk s H scope (compEnvC scope cl C X.env) fp) elt (rE g W0 (evE cal ie)))
    (hsw : swapsWith (.ListComp elt [⟨tg, iter, [c], 0⟩] scope cpos) (some (.Name y py)) pos.line X.env = pure true) (hy : X.N[i]? = some y := by rfl) (hyl : X.env.scope.names.lookup y = some .local := by rfl)
    (hs : ∀ x, foldedSetIterable iter X.env x = pure x := by intro _; rfl) : PS X (.Assign [.Name y py] (.ListComp elt [⟨tg, iter, [c], 0⟩] scope cpos) pos) (rS g W (exS cal (.asg i (.lst (.lcf it (own.map (·.2)) one ic ie))))) :=
  ps_imp (ps_setLc G.calm G.nd hy hyl hsw hi (blkOk_by ok) hg (fun s H C cl fp => pts_one (hc s H C cl fp (G.blk s H scope _ fp))) (fun s H C cl fp => he s H C cl fp (G.blk s H scope _ fp)) hs) fun D σ H h => by
    refine tLcf_of (it := it) (ic := ic) (ie := ie) ?_
    obtain ⟨α, S, ρ, a, r, w⟩ := h
    have w : wp (M.bind (M.bind (evL cal (.lcf it (own.map (·.2)) one ic ie) ρ) fun ds => alloc (.lst ds)) (fun d => M.pure (Ctl.next, ρ.set i (some d))) S) _ _ := w
    refine ⟨α, S, ρ, a, r, wp_mono (wp_bind (wp_bind w)) (fun ds S1 h1 α1 H1 e1 a1 p xs hp hn hx tx => ?_) fun x S' z cls dx α' H' e a' t => z cls dx α' H' σ e a' t⟩
    unfold alloc at h1
    by_cases hb : rbO S1.length (.lst ds) = true
    · simp only [hb, if_true] at h1
      obtain ⟨a2, pre⟩ := At.take_in a1 hn (o := .lst ds) ⟨xs, hx, tx⟩ hb
      have e2 : Ext α (α1 ++ [p]) H H1 := ⟨fun i b h => pre i b (e1.pre i b h), e1.keep, fun b hb => by
        rcases List.mem_append.mp hb with z | z
        · exact e1.new b z
        · rw [List.mem_singleton] at z
          rw [z]
          exact .inr hp⟩
      refine h1 (α1 ++ [p]) H1 (σ.set i (some (.ref p))) e2 a2 ((r.ext e2 a).set ⟨p, ?_, rfl⟩)
      rw [← a1.len, List.getElem?_append_right (Nat.le_refl _)]
      simp
    · simp only [hb] at h1
      exact h1.elim
theorem s_unp {tg e : Expr} {is : List Nat} {ie : E} (he : PE X e (rE g W (evE cal ie))) (hg : PG X tg (rG g is false)) (hs : swapsWithSole [tg] e pos.line X.env = pure false := by rfl) (hw : swappedStores [tg] e X.env = pure none := by rfl)
    (h1 : (assignEach [tg] X.env).map (·.2) = [assign tg X.env] := by rfl) : PS X (.Assign [tg] e pos) (rS g W (exS cal (.unp is ie))) := ps_imp (ps_asg he hg hs hw h1) fun D σ H h => by
  obtain ⟨α, S, h⟩ := h
  refine ⟨α, S, (sAt.bind (m := evE cal ie) (f := fun d ρ => M.bind (M.opt (tgt is false d ρ)) fun ρ' => M.pure (.next, ρ')) h).imp fun d S1 α1 H1 e1 a1 h1 v tv => ?_⟩
  obtain ⟨ρ, a, r, h1⟩ := h1
  cases ht : tgt is false d ρ with
  | none => simp only [M.bind, M.opt, ht] at h1; exact h1.elim
  | some ρ' =>
    simp only [M.bind, M.opt, ht] at h1
    exact ⟨α1, S1, ρ, d, ρ', a, r, .inl tv, ht, fun σ' r' _ => h1 α1 H1 σ' (Ext.refl _ _) a r'⟩
theorem s_expr {e : Expr} {ie : E} (he : PE X e (rE g W (evE cal ie))) (hs : swapsWith e none pos.line X.env = pure false := by rfl) : PS X (.Expr e pos) (rS g W (exS cal (.expr ie))) := ps_imp (ps_expr he hs) fun D σ H h => by
  obtain ⟨α, S, h⟩ := h
  exact ⟨α, S, (sAt.bind (m := evE cal ie) (f := fun _ ρ => M.pure (.next, ρ)) h).imp fun d S1 α1 H1 e1 a1 h1 v tv => h1.here (c := .next)⟩
theorem s_ret {e : Expr} {ie : E} (he : PE X e (rE g W (evE cal ie))) : PS X (.Return (some e) pos) (rS g W (exS cal (.ret ie))) := ps_imp (ps_ret he) fun D σ H h => by
  obtain ⟨α, S, h⟩ := h
  exact ⟨α, S, (sAt.bind (m := evE cal ie) (f := fun d ρ => M.pure (.ret d, ρ)) h).imp fun d S1 α1 H1 e1 a1 h1 v tv => h1.here (c := .ret d) v tv⟩
theorem s_ite {c : Expr} {a b : List Stmt} {ic : E} {ia ib : Ss} (hc : PT X c (rT g W (evE cal ic))) (ha : PSs X a (rS g W (exSs cal ia))) (hb : PSs X b (rS g W (exSs cal ib))) : PS X (.If c a b pos) (rS g W (exS cal (.ite ic ia ib))) := ps_imp (ps_if hc ha hb) fun D σ H h => by
  obtain ⟨α, S, h⟩ := h
  refine ⟨α, S, (sAt.bind (m := evE cal ic) (f := fun x ρ => M.bind (M.opt (asBool x)) fun k => if k = true then exSs cal ia ρ else exSs cal ib ρ) h).imp fun x S1 α1 H1 e1 a1 h1 => ?_⟩
  obtain ⟨ρ, a, r, h1⟩ := h1
  cases hk : asBool x with
  | none => simp only [M.bind, M.opt, hk] at h1; exact h1.elim
  | some k =>
    simp only [M.bind, M.opt, hk] at h1
    refine ⟨k, asBool_of hk, ?_⟩
    cases k with
    | true => exact ⟨α1, S1, ρ, a, r, h1⟩
    | false => exact ⟨α1, S1, ρ, a, r, h1⟩
theorem s_for {tg iter : Expr} {body : List Stmt} {it : Wi} {tgs : List Nat} {one : Bool} {ib : Ss} (hp : PassesOwn (model X.prog X.w) X.A X.env X.xe) (hc : X.calm = true) (hi : PI X tg iter (rI g W one (evI cal it))) (hg : PG X tg (rG g tgs one)) (hb : PSs X body (rS g W (exSs cal ib)))
    (hs : ∀ x, foldedSetIterable iter X.env x = pure x := by intro _; rfl) : PS X (.For tg iter body [] pos) (rS g W (exS cal (.for_ it tgs one ib))) := ps_imp (ps_for hp hc hi hg hb hs) fun D σ H h => by
  obtain ⟨α, S, h⟩ := h
  refine ⟨α, S, (sAt.bind (m := evI cal it) (f := fun src ρ => fun S => match src.size S with
    | some n => forGo src (fun d ρ' => match tgt tgs one d ρ' with
        | some ρ'' => exSs cal ib ρ''
        | none => M.bad) n 0 ρ S
    | none => .bad) h).imp fun src S1 α1 H1 e1 a1 h1 J wk => ?_⟩
  obtain ⟨ρ1, a, r, h1⟩ := h1
  cases hn : src.size S1 with
  | none => simp only [hn] at h1; exact h1.elim
  | some n =>
    simp only [hn] at h1
    let Wf : Nat → Nat → L2.St → Hp → Prop := fun i m σ2 H2 => ∃ α2 S2 ρ2, Ext α1 α2 H1 H2 ∧ g.At α2 H2 S2 ∧ g.Sr α2 H2 σ2 ρ2 ∧
      wp (forGo src (fun d ρ' => match tgt tgs one d ρ' with | some ρ'' => exSs cal ib ρ'' | none => M.bad) m i ρ2 S2)
        (fun c S' => ∀ α' H' σ', Ext α1 α' H1 H' → g.At α' H' S' → g.Sr α' H' σ' c.2 → ends g D σ' α' H' c.1) (exA g W α1 H1)
    refine ⟨Wf, ⟨n, α1, S1, ρ1, Ext.refl _ _, a, r, h1⟩, ?_⟩
    rintro i m σ2 H2 ⟨α2, S2, ρ2, e2, a2, r2, w2⟩
    have wki := wk i α2 H2 S2 e2 a2
    cases hat : src.at i S2 with
    | none => cases m <;> (simp only [forGo, hat] at w2; exact w2.elim)
    | some o =>
      cases o with
      | none =>
        refine .inl ⟨wki.2 hat, ?_⟩
        have w3 : ∀ α' H' σ', Ext α1 α' H1 H' → g.At α' H' S2 → g.Sr α' H' σ' ρ2 → ends g D σ' α' H' .next := by
          cases m <;> (simp only [forGo, hat] at w2; exact w2)
        exact w3 α2 H2 σ2 e2 a2 r2
      | some d =>
        cases m with
        | zero => simp only [forGo, hat] at w2; exact w2.elim
        | succ m =>
          simp only [forGo, hat] at w2
          obtain ⟨go, yl⟩ := wki.1 d hat
          refine .inr ⟨go, Wf (i + 1) m, fun σ' H' q => ⟨m, Nat.lt_succ_self _, q⟩, fun x H' hy => ?_⟩
          obtain ⟨ey, ay, ty⟩ := yl x H' hy
          have w3 := wp_bind w2
          cases ht : tgt tgs one d ρ2 with
          | none => rw [ht] at w3; exact w3.elim
          | some ρ' =>
            rw [ht] at w3
            refine ⟨α2, S2, ρ2, d, ρ', ay, r2.ext ey a2, ty, ht, fun σ' r' _ => ⟨α2, S2, ρ', ay, r', wp_mono w3 (fun c S3 w4 α3 H3 σ3 e3 a3 r3 => ?_) fun x S3 z cls dx α3 H3 σ3 e3 a3 t => z cls dx α3 H3 σ3 (e2.trans (ey.trans e3)) a3 t⟩⟩
            have ee := e2.trans (ey.trans e3)
            obtain ⟨c, ρ3⟩ := c
            cases c with
            | next => exact ⟨α3, S3, ρ3, ee, a3, r3, w4⟩
            | cont => exact ⟨α3, S3, ρ3, ee, a3, r3, w4⟩
            | brk => exact w4 α3 H3 σ3 ee a3 r3
            | ret d => exact w4 α3 H3 σ3 ee a3 r3
end
end Ir
set_option Elab.async false
set_option maxRecDepth 100000
set_option maxHeartbeats 4000001
/-! A def by its body; the table of all defs by levels. -/
namespace Ir
open PySem L2 PySem.Spec PyProof.Rows
section
variable {g : Gc} {α α' : List Addr} {H H' : Hp} {S' : Sto}
theorem ext_cut (e : Ext α α' H H') : Ext α (α'.take α.length) H H' := ⟨fun i a h => by
    rw [List.getElem?_take_of_lt (List.getElem?_eq_some_iff.mp h).1]
    exact e.pre i a h, e.keep, fun a h => e.new a (List.mem_of_mem_take h)⟩
theorem fix_ok {n : Nat} {d : D} {v : V} {Q : VK} {ex : Ex → Sto → Prop} (hn : α.length = n) (e : Ext α α' H H') (a : g.At α' H' S') (t : g.Tl α' H' d v)
    (w : wp (fix n d S') (fun d' S'' => ∀ α'' H'', Ext α α'' H H'' → g.At α'' H'' S'' → ∀ v, g.Tl α'' H'' d' v → Q v H'') ex) : Q v H' := by
  subst hn
  have ec := ext_cut e
  have ac := At.cut a α.length
  unfold fix at w
  cases d with
  | p d => exact w _ H' ec ac v t
  | fn i => exact w _ H' ec ac v t
  | ref j =>
    obtain ⟨b, hb, rfl⟩ := t
    by_cases hj : j < α.length
    · simp only [hj, if_true] at w
      exact w _ H' ec ac _ ⟨b, by rw [List.getElem?_take_of_lt hj]; exact hb, rfl⟩
    · simp only [hj, if_false] at w
      have hlt : j < S'.length := by rw [← a.len]; exact (List.getElem?_eq_some_iff.mp hb).1
      have ho : S'[j]? = some S'[j] := List.getElem?_eq_getElem hlt
      simp only [ho] at w
      by_cases hr : rbO α.length S'[j] = true
      · simp only [hr, if_true] at w
        have hl : (S'.take α.length).length = α.length := by rw [List.length_take]; omega
        have nin : b ∉ α'.take α.length := fun m => by
          obtain ⟨i, hi, e1⟩ := List.getElem_of_mem m
          have e2 : (α'.take α.length)[i]? = some b := by rw [List.getElem?_eq_getElem hi, e1]
          have hi2 : i < α.length := by rw [List.length_take] at hi; omega
          rw [List.getElem?_take_of_lt hi2] at e2
          have := nd_at a.nd e2 hb
          omega
        obtain ⟨a3, pre⟩ := At.take_in ac nin (o := S'[j]) ((a.obj j _ b ho hb).cut hr) (by rw [hl]; exact hr)
        refine w (α'.take α.length ++ [b]) H' ⟨fun i c h => pre i c (ec.pre i c h), ec.keep, fun c hc => ?_⟩ a3 _ ⟨b, ?_, rfl⟩
        · rcases List.mem_append.mp hc with z | z
          · exact ec.new c z
          · rw [List.mem_singleton] at z
            rw [z]
            exact e.new b (mem_at hb)
        · have hl2 : (α'.take α.length).length = α.length := by
            have := (List.getElem?_eq_some_iff.mp hb).1
            rw [List.length_take]
            omega
          rw [List.getElem?_append_right (by omega), hl2]
          simp
      · simp only [hr] at w
        exact w α' H' e a _ ⟨b, hb, rfl⟩
theorem sr_start : ∀ {ds : List D} {vs : List V} (n : Nat), g.TlA α H ds vs → g.Sr α H (vs.map some ++ List.replicate n none) (ds.map some ++ List.replicate n none) := fun {ds vs} n h => by
  refine ⟨by rw [List.length_append, List.length_append, List.length_map, List.length_map, Paired.length h]; simp, fun i d hi => ?_⟩
  by_cases hl : i < ds.length
  · rw [List.getElem?_append_left (by rw [List.length_map]; exact hl)] at hi
    rw [List.getElem?_append_left (by rw [List.length_map, ← Paired.length h]; exact hl)]
    obtain ⟨d', hd, e⟩ := map_at hi
    cases e
    obtain ⟨v, hv, t⟩ := Paired.get h hd
    exact ⟨v, by rw [List.getElem?_map, hv]; rfl, t⟩
  · rw [List.getElem?_append_right (by rw [List.length_map]; omega)] at hi
    have := List.getElem?_eq_some_iff.mp hi
    obtain ⟨hlt, e⟩ := this
    rw [List.getElem_replicate] at e
    cases e
end
section
variable {P : Program} {w : World} {g : Gc} {mg : Str → Option Value} {base : Heap} {cal : Nat → List D → M D}
/-- the defs, all at one level -/
def Tb (P : Program) (w : World) (g : Gc) (mg : Str → Option Value) (base : Heap) (cal : Nat → List D → M D) (k : Nat) : Prop :=
  ∀ i f, g.ph i = some f → ∃ fd ps, FnOk P w g.K mg base CX0 k f fd ps (spI g (cal i)) ∧ PySem.W.keepIn g.K (.ref f) = true ∧ Binds g.K fd ps []
theorem fn_ok {x qual : Str} {st : Stmt} {f : Addr} {fd : FuncData} {N ps : List Str} {k : Nat} {fn : Fn} (F : Fun g.K x qual st f fd) (S : FnScope N ps (defScope st)) (tb : Tb P w g mg base cal k) (har : fn.ar = ps.length) (hsz : fn.sz = N.length)
    (hb : ∀ (cdv : Value) (A : Around) (outer : List Env) (s : Shared) (H : Hp) (E : XK), Gd (cxOf CX0 P w g.K mg base N qual (defScope st) f cdv A outer s H E).nox g W0 CX0 cal k →
      PSs (cxOf CX0 P w g.K mg base N qual (defScope st) f cdv A outer s H E).nox (defBody st) (rS g W0 (exSs cal fn.body))) : FnOk P w g.K mg base CX0 (k + 1) f fd ps (spI g (callF cal fn)) := by
  have hl : ∀ {α : List Addr} {H : Hp} {ds : List D} {vs : List V} {S : Sto} {ok : D → Sto → Prop} {ex : Ex → Sto → Prop}, g.TlA α H ds vs → wp (callF cal fn ds S) ok ex → ds.length = fn.ar := fun {α H ds vs S ok ex} t q => by
    unfold callF at q
    by_cases h : ds.length = fn.ar
    · exact h
    · simp only [h, if_false] at q
      exact q.elim
  refine F.ok S (fun vs H Q E h => ?_) (fun cdv A outer s H vs Q E hr h => ?_)
  · obtain ⟨α, S, ds, a, t, q⟩ := h
    rw [← har, ← hl t q, Paired.length t]
  · obtain ⟨α, S0, ds, a, t, q⟩ := h
    have hlen := hl t q
    refine ⟨_, hb cdv A outer s H E ⟨rfl, rfl, S.nd, hr, fun _ _ _ _ _ _ _ z => z.elim, fun _ _ _ _ _ z => z, tb⟩, α, S0, ds.map some ++ List.replicate (fn.sz - fn.ar) none, a, ?_, ?_⟩
    · unfold L2.start
      have e : N.length - vs.length = fn.sz - fn.ar := by rw [hsz, ← hlen, Paired.length t]
      rw [e]
      exact sr_start _ t
    · unfold callF at q
      simp only [hlen, if_true] at q
      cases r : exSs cal fn.body (ds.map some ++ List.replicate (fn.sz - fn.ar) none) S0 with
      | bad => rw [r] at q; exact q.elim
      | exc e S' => rw [r] at q; exact q.elim
      | val c S' =>
        rw [r] at q
        obtain ⟨c, ρ'⟩ := c
        cases c with
        | brk => exact q.elim
        | cont => exact q.elim
        | next => exact fun α' H' σ' e a' _ => fix_ok a.len e a' (d := .p .none) (v := .non) .non q
        | ret d => exact fun α' H' σ' e a' _ v tv => fix_ok a.len e a' tv q
theorem tb_zero (h : ∀ i f, g.ph i = some f → ∃ fd ps, (∀ vs H Q E, spI g (fun _ _ => .bad) vs H Q E → vs.length = ps.length) ∧ PySem.W.keepIn g.K (.ref f) = true ∧ Binds g.K fd ps []) : Tb P w g mg base (fun _ _ _ => .bad) 0 := fun i f hf => by
  obtain ⟨fd, ps, hl, hk, hb⟩ := h i f hf
  refine ⟨fd, ps, ⟨hl, fun A outer s H args us vs Q E _ _ _ _ hs => ?_⟩, hk, hb⟩
  obtain ⟨α, S, ds, a, t, q⟩ := hs
  exact q.elim
end
end Ir
set_option Elab.async false
set_option maxRecDepth 100000
set_option maxHeartbeats 4000001
/-! Lists compared, cut, joined; methods of lists and dicts. -/
namespace Ir
open PySem L2 PySem.Spec PyProof.Rows
section
variable {X : Cx} {g : Gc} {W : WX} {cal : Nat → List D → M D} {pos : Pos}
theorem eqL_of {neg : Bool} {ds es : List D} {z : D} {α : List Addr} {H : Hp} {p q : Addr} {xs ys : List V} {Q : VK} (h : eqLD neg ds es = some z) (hx : H p = some (.lst xs)) (hy : H q = some (.lst ys)) (tx : g.TlA α H ds xs) (ty : g.TlA α H es ys) (k : ∀ v, g.Tl α H z v → Q v H) :
    if neg = true then rNeD g.K (.ref p) (.ref q) H Q else rEqD g.K (.ref p) (.ref q) H Q := by
  obtain ⟨ps, e1, h⟩ := Option.bind_eq_some_iff.mp h
  obtain ⟨qs, e2, h⟩ := Option.bind_eq_some_iff.mp h
  by_cases hs : SeqAt.shaped (.list ps) = true ∧ SeqAt.shaped (.list qs) = true
  · simp only [hs, and_self, if_true] at h
    cases h
    have d1 : Dp g.K H (.ref p) (.list ps) := .lst (SqL.of hx) (dpAll_of tx e1)
    have d2 : Dp g.K H (.ref q) (.list qs) := .lst (SqL.of hy) (dpAll_of ty e2)
    have ev : PyData.eqv (.list ps) (.list qs) = PyData.eqvAll ps qs := by rw [PyData.eqv]
    cases neg with
    | true =>
      rw [if_pos rfl]
      exact ⟨_, _, d1, d2, hs.1, hs.2, by rw [ev]; exact k _ (.bl _)⟩
    | false =>
      rw [if_neg (by decide)]
      exact ⟨_, _, d1, d2, hs.1, hs.2, by rw [ev]; exact k _ (.bl _)⟩
  · rw [if_neg hs] at h
    cases h
theorem tL_of {neg : Bool} {ma : Sl → M D} {mb : Sl → M (List D)} {σ : L2.St} {H : Hp} {Q : VK} (h : rE g W (fun ρ => M.bind (ma ρ) fun x => M.bind (mb ρ) fun es => fun S => M.opt ((lstAt S x).bind fun ds => eqLD neg ds es) S) σ H Q) :
    tOp (fun x y H Q => if neg = true then rNeD g.K x y H Q else rEqD g.K x y H Q) (rE g W ma) (rLn g W mb) σ H Q := by
  obtain ⟨α, S, h⟩ := h
  refine ⟨α, S, h.bind.imp fun x S1 α1 H1 e1 a1 h1 v tv => ⟨α1, S1, (rAt.bind (m := mb) (f := fun es _ => fun S => M.opt ((lstAt S x).bind fun ds => eqLD neg ds es) S) h1).imp fun es S2 α2 H2 e2 a2 h2 p ys hp hn hy ty => ?_⟩⟩
  obtain ⟨z, hz, k⟩ := h2.opt
  obtain ⟨ds, e0, hz⟩ := Option.bind_eq_some_iff.mp hz
  obtain ⟨b, xs, rfl, h5, h6⟩ := lst_at a2 (tv.ext e2 a1) e0
  exact eqL_of hz h5 hy h6 ty fun v t => k α2 H2 (Ext.refl _ _) a2 v t
theorem op_eqN (hu : X.A.units + 64 < cLine) : OpR X (compareOp .NotEq) (fun x y H Q => if true = true then rNeD X.K x y H Q else rEqD X.K x y H Q) := by
  have h := op_neD (X := X) hu
  intro pins s σ H x y v u Q I rx ry q
  rw [if_pos rfl] at q
  exact h pins s σ H x y v u Q I rx ry q
theorem op_eqE (hu : X.A.units + 64 < cLine) : OpR X (compareOp .Eq) (fun x y H Q => if false = true then rNeD X.K x y H Q else rEqD X.K x y H Q) := by
  have h := op_eqD (X := X) hu
  intro pins s σ H x y v u Q I rx ry q
  rw [if_neg (by decide)] at q
  exact h pins s σ H x y v u Q I rx ry q
theorem e_neL {a b : Expr} {ia : E} {l : L} {CX : CXT} {k : Nat} (G : Gd X g W CX cal k) (ha : PE X a (rE g W (evE cal ia))) (hb : PE X b (rLn g W (evL cal l))) (hm : behindInMarks .NotEq b = false := by first | exact nomark _ (by decide) (by decide) | rfl) :
    PE X (.Compare a [.NotEq] [b] pos) (rE g W (evE cal (.eqL true ia l))) := by
  have h := op_eqN (X := X) G.hu
  rw [G.K] at h
  exact pe_imp (pe_cmpR h ha hb hm) fun _ _ _ q => tL_of q
theorem t_neL {a b : Expr} {ia : E} {l : L} {CX : CXT} {k : Nat} (G : Gd X g W CX cal k) (ha : PE X a (rE g W (evE cal ia))) (hb : PE X b (rLn g W (evL cal l))) (hm : behindInMarks .NotEq b = false := by first | exact nomark _ (by decide) (by decide) | rfl) :
    PT X (.Compare a [.NotEq] [b] pos) (rT g W (evE cal (.eqL true ia l))) := by
  have h := op_eqN (X := X) G.hu
  rw [G.K] at h
  exact pt_imp (pt_cmpR h ha hb hm) fun _ _ _ q => t_of (fun _ z => tL_of z) q
theorem t_eqL {a b : Expr} {ia : E} {l : L} {CX : CXT} {k : Nat} (G : Gd X g W CX cal k) (ha : PE X a (rE g W (evE cal ia))) (hb : PE X b (rLn g W (evL cal l))) (hm : behindInMarks .Eq b = false := by first | exact nomark _ (by decide) (by decide) | rfl) :
    PT X (.Compare a [.Eq] [b] pos) (rT g W (evE cal (.eqL false ia l))) := by
  have h := op_eqE (X := X) G.hu
  rw [G.K] at h
  exact pt_imp (pt_cmpR h ha hb hm) fun _ _ _ q => t_of (fun _ z => tL_of z) q
theorem tLL_of {neg : Bool} {ma mb : Sl → M (List D)} {σ : L2.St} {H : Hp} {Q : VK} (h : rE g W (fun ρ => M.bind (ma ρ) fun ds => M.bind (mb ρ) fun es => M.opt (eqLD neg ds es)) σ H Q) :
    tOp (fun x y H Q => if neg = true then rNeD g.K x y H Q else rEqD g.K x y H Q) (rLn g W ma) (rLn g W mb) σ H Q := by
  obtain ⟨α, S, h⟩ := h
  refine ⟨α, S, h.bind.imp fun ds S1 α1 H1 e1 a1 h1 q xs hq hnq hx tx => ⟨α1, S1, (rAt.bind (m := mb) (f := fun es _ => M.opt (eqLD neg ds es)) h1).imp fun es S2 α2 H2 e2 a2 h2 p ys hp hn hy ty => ?_⟩⟩
  obtain ⟨z, hz, k⟩ := rAt.opt (o := fun _ => eqLD neg ds es) h2
  exact eqL_of hz (e2.keep q _ hx hnq) hy (TlA.ext e2 a1 tx) ty fun v t => k α2 H2 (Ext.refl _ _) a2 v t
theorem t_neLL {a b : Expr} {l l2 : L} {CX : CXT} {k : Nat} (G : Gd X g W CX cal k) (ha : PE X a (rLn g W (evL cal l))) (hb : PE X b (rLn g W (evL cal l2))) (hm : behindInMarks .NotEq b = false := by first | exact nomark _ (by decide) (by decide) | rfl) :
    PT X (.Compare a [.NotEq] [b] pos) (rT g W (evE cal (.eqLL true l l2))) := by
  have h := op_eqN (X := X) G.hu
  rw [G.K] at h
  exact pt_imp (pt_cmpR h ha hb hm) fun _ _ _ q => t_of (fun _ z => tLL_of z) q
theorem strs_tl {α : List Addr} {H : Hp} : ∀ ts : List Str, g.TlA α H (ts.map fun t => D.p (.str t)) (ts.map V.str)
  | [] => .nil
  | _ :: ts => .cons (.str _) (strs_tl ts)
theorem l_split {o : Expr} {io : E} {sep : Str} {j : Nat} {p2 apos : Pos} (ho : PE X o (rE g W (evE cal io))) (hbase : attributeBase o "split" X.env (eval o X.env) = eval o X.env := by rfl) (hline : (apos.endLine == pos.line) = true := by rfl) :
    PE X (.Call (.Attribute o "split" apos) [.Constant (.str sep) j p2] [] pos) (rLn g W (evL cal (.split io sep))) := pe_imp (pe_split ho pe_str rfl hbase hline) fun σ H Q h => by
  obtain ⟨α, S, ρ, a0, r, w⟩ := h
  have w : wp (M.bind (evE cal io ρ) (fun x => M.opt (splitD sep x)) S) _ _ := w
  refine ⟨α, S, ρ, a0, r, wp_mono (wp_bind w) (fun x S1 h1 α1 H1 e1 a1 v tv => ?_) fun _ _ z => z⟩
  cases e : splitD sep x with
  | none => simp only [M.opt, e] at h1; exact h1.elim
  | some ds =>
    simp only [M.opt, e] at h1
    unfold splitD at e
    split at e
    · split at e
      · rename_i hs
        cases e
        cases tv
        refine ⟨⟨_, rfl⟩, _, _, rfl, rfl, ?_, ?_, fun p hp => ?_⟩
        · simpa using hs.1
        · have := hs.2
          rw [sizeLine_eq]
          omega
        · obtain ⟨e2, a2⟩ := At.fresh a1 hp (u := .lst ((Txt.split _ sep).map V.str))
          refine h1 α1 _ (e1.trans e2) a2 p _ (e1.none a1 hp) (a1.notin hp) upd_same ?_
          exact strs_tl _
      · cases e
    · cases e
theorem l_cat {a b : Expr} {ia ib : E} (ha : PE X a (rE g W (evE cal ia))) (hb : PE X b (rE g W (evE cal ib))) : PE X (.BinOp a .Add b pos) (rLn g W (evL cal (.cat ia ib))) := pe_imp (pe_op op_cat ha hb) fun σ H Q h => by
  obtain ⟨α, S, ρ, a0, r, w⟩ := h
  have w : wp (M.bind (evE cal ia ρ) (fun x => M.bind (evE cal ib ρ) fun y => fun S => M.opt (catD S x y) S) S) _ _ := w
  refine ⟨α, S, ρ, a0, r, wp_mono (wp_bind w) (fun x S1 h1 α1 H1 e1 a1 v tv => ⟨α1, S1, ρ, a1, r.ext e1 a0, wp_mono (wp_bind h1) (fun y S2 h2 α2 H2 e2 a2 u tu => ?_) fun x S3 z cls dx α3 H3 e3 a3 t => z cls dx α3 H3 (e1.trans e3) a3 t⟩) fun _ _ z => z⟩
  cases e : catD S2 x y with
  | none => simp only [M.opt, e] at h2; exact h2.elim
  | some ds =>
    simp only [M.opt, e] at h2
    obtain ⟨d1, q1, e⟩ := Option.bind_eq_some_iff.mp e
    obtain ⟨d2, q2, e⟩ := Option.bind_eq_some_iff.mp e
    by_cases hl : d1.length + d2.length ≤ 100000
    · rw [if_pos hl] at e
      cases e
      obtain ⟨b1, xs, rfl, h5, h6⟩ := lst_at a2 (tv.ext e2 a1) q1
      obtain ⟨b2, ys, rfl, h7, h8⟩ := lst_at a2 tu q2
      refine ⟨b1, b2, xs, ys, rfl, rfl, h5, h7, by rw [← Paired.length h6, ← Paired.length h8, sizeLine_eq]; omega, fun p hp => ?_⟩
      have e12 := e1.trans e2
      obtain ⟨e3, a3⟩ := At.fresh a2 hp (u := .lst (xs ++ ys))
      exact h2 α2 _ (e12.trans e3) a3 p _ (e12.none a2 hp) (a2.notin hp) upd_same (Paired.app (TlA.ext e3 a2 h6) (TlA.ext e3 a2 h8))
    · rw [if_neg hl] at e
      cases e
theorem e_popAt {a b : Expr} {ia ib : E} {apos : Pos} (hK : X.K = g.K) (ha : PE X a (rE g W (evE cal ia))) (hb : PE X b (rE g W (evE cal ib))) (hbase : attributeBase a "pop" X.env (eval a X.env) = eval a X.env := by rfl)
    (hfew : ((backTo pos (starEach [b] X.env)).all (fun x => !x.1) && (backToKw pos (keywordEach [] X.env)).all (fun x => x.1.isSome)
      && decide (([b] : List Expr).length + ([] : List Keyword).length + (if ([] : List Keyword).isEmpty then 0 else 1) < 30)) = true := by rfl)
    (hline : (apos.endLine == pos.line) = true := by rfl) (hs : starEach [b] X.env = (false, eval b X.env) :: starEach [] X.env := by rfl) :
    PE X (.Call (.Attribute a "pop" apos) [b] [] pos) (rE g W (evE cal (.popAt ia ib))) := by
  have h := pe_bm PySem.F.plainAttrs_list PySem.F.slot_list_pop PySem.F.type_list_pop mt_popAt ha (pa_cons hb pa_nil hs) hbase hfew hline hs
  rw [hK] at h
  refine pe_imp h fun σ H Q h => ?_
  obtain ⟨α, S, h⟩ := h
  refine ⟨α, S, (rAt.bind (m := evE cal ia) (f := fun x ρ => M.bind (fun S => M.opt (lstAt S x) S) fun _ => M.bind (evE cal ib ρ) fun y => popD x y) h).imp fun x S1 α1 H1 e1 a1 h1 v tv => ?_⟩
  obtain ⟨ds, hds, k⟩ := (rAt.bind (m := fun _ => fun S => M.opt (lstAt S x) S) (f := fun _ ρ => M.bind (evE cal ib ρ) fun y => popD x y) h1).opt
  obtain ⟨b0, xs0, rfl, h5, h6⟩ := lst_at a1 tv hds
  refine ⟨.inl ⟨rfl, _, SqL.of h5⟩, α1, S1, (rAt.bind (m := evE cal ib) (f := fun y _ => popD x y) (k α1 H1 (Ext.refl _ _) a1)).imp fun y S2 α2 H2 e2 a2 h2 u tu => ?_⟩
  obtain ⟨ρ, a, r, w⟩ := h2
  have tv := tv.ext e2 a1
  have bad : ∀ {ok : D → Sto → Prop} {ex : Ex → Sto → Prop}, wp ((M.bad : M D) S2) ok ex → False := fun q => q
  cases x with
  | p _ => exact (bad w).elim
  | fn _ => exact (bad w).elim
  | ref j =>
    cases y with
    | ref _ => exact (bad w).elim
    | fn _ => exact (bad w).elim
    | p y =>
      cases y with
      | none => exact (bad w).elim
      | bool _ => exact (bad w).elim
      | str _ => exact (bad w).elim
      | list _ => exact (bad w).elim
      | tuple _ => exact (bad w).elim
      | dict _ => exact (bad w).elim
      | int i =>
        cases tu
        unfold popD at w
        by_cases hi : i = 0
        · subst hi
          simp only [if_true] at w
          cases ej : S2[j]? with
          | none => simp only [ej] at w; exact w.elim
          | some o =>
            cases o with
            | dic _ => simp only [ej] at w; exact w.elim
            | lst ds =>
              cases ds with
              | nil => simp only [ej] at w; exact w.elim
              | cons d ds =>
                simp only [ej] at w
                obtain ⟨b1, xs, h7, h8, h9⟩ := At.lst a2 ej
                obtain ⟨b2, h7', e⟩ := tv
                cases e
                rw [h7] at h7'
                cases h7'
                cases h9 with
                | @cons _ z _ zs t1 t2 =>
                  refine ⟨b0, z :: zs, 0, 0, z, rfl, rfl, h8, by decide, by decide, ?_, rfl, ?_⟩
                  · rw [List.length_cons]
                    exact seqIndex_of (by decide) (by omega)
                  · have hw := a2.wf j _ ej
                    have hb2 : rbO j (.lst ds) = true := by
                      have hw : (d :: ds).all (rb j) = true := hw
                      show ds.all (rb j) = true
                      rw [List.all_cons, Bool.and_eq_true] at hw
                      exact hw.2
                    obtain ⟨e6, a6⟩ := At.upd a2 h7 hb2 (u := .lst zs) fun H' kt hu => ⟨_, hu, Paired.mapP t2 fun _ _ q => q.keep kt⟩
                    exact w α2 _ e6 a6 z (t1.ext e6 a2)
        · simp only [hi, if_false] at w
          exact w.elim
theorem e_append {a b : Expr} {ia ib : E} {apos : Pos} (hK : X.K = g.K) (ha : PE X a (rE g W (evE cal ia))) (hb : PE X b (rE g W (evE cal ib))) (hbase : attributeBase a "append" X.env (eval a X.env) = eval a X.env := by rfl)
    (hfew : ((backTo pos (starEach [b] X.env)).all (fun x => !x.1) && (backToKw pos (keywordEach [] X.env)).all (fun x => x.1.isSome)
      && decide (([b] : List Expr).length + ([] : List Keyword).length + (if ([] : List Keyword).isEmpty then 0 else 1) < 30)) = true := by rfl)
    (hline : (apos.endLine == pos.line) = true := by rfl) (hs : starEach [b] X.env = (false, eval b X.env) :: starEach [] X.env := by rfl) :
    PE X (.Call (.Attribute a "append" apos) [b] [] pos) (rE g W (evE cal (.append ia ib))) := by
  have h := pe_bm PySem.F.plainAttrs_list PySem.F.slot_list_append PySem.F.type_list_append mt_append ha (pa_cons hb pa_nil hs) hbase hfew hline hs
  rw [hK] at h
  refine pe_imp h fun σ H Q h => ?_
  obtain ⟨α, S, h⟩ := h
  refine ⟨α, S, (rAt.bind (m := evE cal ia) (f := fun x ρ => M.bind (fun S => M.opt (lstAt S x) S) fun _ => M.bind (evE cal ib ρ) fun y => appD x y) h).imp fun x S1 α1 H1 e1 a1 h1 v tv => ?_⟩
  obtain ⟨ds, hds, k⟩ := (rAt.bind (m := fun _ => fun S => M.opt (lstAt S x) S) (f := fun _ ρ => M.bind (evE cal ib ρ) fun y => appD x y) h1).opt
  obtain ⟨b0, xs0, rfl, h5, h6⟩ := lst_at a1 tv hds
  refine ⟨.inl ⟨rfl, _, SqL.of h5⟩, α1, S1, (rAt.bind (m := evE cal ib) (f := fun y _ => appD x y) (k α1 H1 (Ext.refl _ _) a1)).imp fun y S2 α2 H2 e2 a2 h2 u tu => ?_⟩
  obtain ⟨ρ, a, r, w⟩ := h2
  have tv := tv.ext e2 a1
  have bad : ∀ {ok : D → Sto → Prop} {ex : Ex → Sto → Prop}, wp ((M.bad : M D) S2) ok ex → False := fun q => q
  cases x with
  | p _ => exact (bad w).elim
  | fn _ => exact (bad w).elim
  | ref j =>
    unfold appD at w
    cases ej : S2[j]? with
    | none => simp only [ej] at w; exact w.elim
    | some o =>
      cases o with
      | dic _ => simp only [ej] at w; exact w.elim
      | lst ds =>
        simp only [ej] at w
        by_cases hb : rb j y = true ∧ ds.length < 100000
        · simp only [hb, and_self, if_true] at w
          obtain ⟨b1, xs, h7, h8, h9⟩ := At.lst a2 ej
          obtain ⟨b2, h7', e⟩ := tv
          cases e
          rw [h7] at h7'
          cases h7'
          refine ⟨b0, xs, u, rfl, rfl, h8, by rw [← Paired.length h9, sizeLine_eq]; omega, ?_⟩
          have hw := a2.wf j _ ej
          have hb2 : rbO j (.lst (ds ++ [y])) = true := by
            have hw : ds.all (rb j) = true := hw
            show (ds ++ [y]).all (rb j) = true
            rw [List.all_append, Bool.and_eq_true]
            exact ⟨hw, by simp [hb.1]⟩
          obtain ⟨e6, a6⟩ := At.upd a2 h7 hb2 (u := .lst (xs ++ [u])) fun H' kt hu => ⟨_, hu, Paired.app (Paired.mapP h9 fun _ _ q => q.keep kt) (.cons (tu.keep kt) .nil)⟩
          exact w α2 _ e6 a6 .non .non
        · simp only [hb, if_false] at w
          exact w.elim
theorem e_dget {a b : Expr} {ia ib : E} {apos : Pos} {CX : CXT} {k : Nat} (G : Gd X g W CX cal k) (ha : PE X a (rE g W (evE cal ia))) (hb : PE X b (rE g W (evE cal ib))) (m : M1 X a "get" apos b pos := by exact ⟨rfl, rfl, rfl, rfl⟩) :
    PE X (.Call (.Attribute a "get" apos) [b] [] pos) (rE g W (evE cal (.dget ia ib))) := pe_imp (pe_dget1 (by have := G.hu; omega) ha hb m) fun σ H Q h => by
  obtain ⟨α, S, h⟩ := h
  refine ⟨α, S, (rAt.bind (m := evE cal ia) (f := fun x ρ => M.bind (fun S => M.opt (dicAt S x) S) fun _ => M.bind (evE cal ib ρ) fun y => fun S => M.opt (dgetD S x y) S) h).imp fun x S1 α1 H1 e1 a1 h1 v tv => ?_⟩
  obtain ⟨kvs, hds, k⟩ := (rAt.bind (m := fun _ => fun S => M.opt (dicAt S x) S) (f := fun _ ρ => M.bind (evE cal ib ρ) fun y => fun S => M.opt (dgetD S x y) S) h1).opt
  obtain ⟨b0, ws0, rfl, h5, h6⟩ := dic_at a1 tv hds
  refine ⟨b0, rfl, .inl ⟨ws0, .inl h5⟩, α1, S1, (rAt.bind (m := evE cal ib) (f := fun y _ => fun S => M.opt (dgetD S x y) S) (k α1 H1 (Ext.refl _ _) a1)).imp fun y S2 α2 H2 e2 a2 h2 u tu => ?_⟩
  obtain ⟨z, hz, k2⟩ := h2.opt
  obtain ⟨kv2, q1, hz⟩ := Option.bind_eq_some_iff.mp hz
  obtain ⟨key, q2, hz⟩ := Option.map_eq_some_iff.mp hz
  subst hz
  obtain ⟨b1, ws, e, h7, h8⟩ := dic_at a2 (tv.ext e2 a1) q1
  cases e
  rw [key_V tu q2]
  refine ⟨valV ws key, .k h7, k2 α2 H2 (Ext.refl _ _) a2 _ ?_⟩
  have vo := val_of (k := key) h8
  revert vo
  cases valD kv2 key <;> cases valV ws key <;> intro vo
  · exact .non
  · exact vo.elim
  · exact vo.elim
  · exact vo
end
end Ir
set_option Elab.async false
set_option maxRecDepth 100000
set_option maxHeartbeats 4000001
/-! How many unlike keys a comprehension in braces finds. -/
namespace Ir
open PySem L2 PySem.Spec PyProof.Rows
section
variable {K : PySem.W.Frag} {ph : Nat → Option Addr} {α α' : List Addr} {H H' : Hp} {S : Sto}
/-- neither a tuple nor locked -/
def Soft : HO → Prop
  | .tup _ => False
  | .frz _ _ => False
  | _ => True
theorem KT.soft {p : Addr} {o u : HO} (h : H p = some o) (n : Soft o) : KT H (L2.upd H p u) :=
  ⟨fun a _ q => by rw [upd_ne (fun z => by rw [z, h] at q; cases q; exact n)]; exact q, fun a _ _ q => by rw [upd_ne (fun z => by rw [z, h] at q; cases q; exact n)]; exact q⟩
theorem At.apartS (x : At K ph α H S) {p : Addr} {o u : HO} (hp : H p = some o) (n : Soft o) (hn : p ∉ α) : At K ph α (L2.upd H p u) S :=
  ⟨x.len, x.nd, fun i w b hi hb => (x.obj i w b hi hb).keep (KT.soft hp n) (upd_ne fun z => hn (by rw [← z]; exact mem_at hb)), x.wf⟩
theorem unlike_le : ∀ l : List Str, (unlike l).length ≤ l.length
  | [] => Nat.le_refl _
  | x :: l => by
    have ih := unlike_le l
    unfold unlike
    split
    · rw [List.length_cons]
      omega
    · rw [List.length_cons, List.length_cons]
      omega
theorem unlike_snoc (z : Str) : ∀ l : List Str, (unlike (l ++ [z])).length = (unlike l).length + (if z ∈ l then 0 else 1)
  | [] => by simp [unlike]
  | x :: l => by
    have ih := unlike_snoc z l
    rw [List.cons_append]
    unfold unlike
    by_cases h1 : x ∈ l
    · rw [if_pos (List.mem_append_left _ h1), if_pos h1, ih]
      by_cases h2 : z ∈ l
      · rw [if_pos h2, if_pos (List.mem_cons_of_mem _ h2)]
      · by_cases e : z = x
        · subst e; exact absurd h1 h2
        · rw [if_neg h2, if_neg (by rw [List.mem_cons]; rintro (q | q); exact e q; exact h2 q)]
    · by_cases e : x = z
      · subst e
        rw [if_pos (List.mem_append_right _ (List.mem_singleton.mpr rfl)), if_neg h1, ih, if_neg h1, if_pos (List.mem_cons_self ..), List.length_cons]
      · have h3 : x ∉ l ++ [z] := by
          rw [List.mem_append, List.mem_singleton]
          rintro (q | q)
          · exact h1 q
          · exact e q
        rw [if_neg h3, if_neg h1, List.length_cons, List.length_cons, ih]
        by_cases h2 : z ∈ l
        · rw [if_pos h2, if_pos (List.mem_cons_of_mem _ h2)]
        · rw [if_neg h2, if_neg (by rw [List.mem_cons]; rintro (q | q); exact e q.symm; exact h2 q)]
end
/-- {elt for target in iter}: D the new set -/
def tSk (P : Program) (w : World) (wi : TI) (gg : TG) (te : TE) (vs : List Nat) : TE := fun σ H Q => wi σ H fun J H1 => ∀ D, H1 D = none →
  ∃ W : Nat → Nat → Hp → Prop, (∃ m, W 0 m (upd H1 D (SetK P w D (fun _ => false) 0))) ∧
    ∀ i m H, W i m H → (J.stop i H ∧ Q (.ref D) H) ∨
      (J.go i H ∧ ∃ Nx : Hp → Prop, (∀ H', Nx H' → ∃ m', m' < m ∧ W (i + 1) m' H') ∧ ∀ x H', J.yld i H x H' → gg x (wipe σ vs) H' fun σ2 H2 => wipe σ2 vs = wipe σ vs ∧
        te σ2 H2 fun y H4 => ∃ (k : Key) (T : Key → Bool) (n : Nat), y = kV k ∧ H4 D = some (SetK P w D T n) ∧ n + 1 < scanBound ∧ Nx (upd H4 D (SetK P w D (fun j => T j || decide (j = k)) (if T k = true then n else n + 1))))
theorem fresh_set (P : Program) (w : World) (h : Heap) : (h.push { cls := .type "set", dict := none, data := .set #[] 0 (.fresh 0 0 (!w.params.followText "set-order")) }).SetOf (mixKind P w) h.objs.size (fun _ => false) 0 := by
  refine ⟨_, #[], 0, _, Heap.get?_push_size _ rfl, ⟨rfl, rfl, rfl⟩, rfl, ?_, fun k => ?_, ?_, rfl, rfl⟩
  · intro e he
    simp at he
  · simp
  · decide
section
variable {X : Cx}
theorem pe_sk {elt tg iter : Expr} {scope : Scope} {own : List (Str × Nat)} {pos : Pos} {wi : TI} {gg : TG} {te : TE} (hc : X.calm = true) (hN : X.N.Nodup) (hi : PI X tg iter wi) (ok : BlkOk X.N X.env.scope scope own)
    (hg : ∀ (s : Shared) (H : Hp) (C : Addr) (cl : List (Str × Addr)) (fp : List Addr), PG (X.blk s H scope (compEnvC scope cl C X.env) fp) tg gg)
    (he : ∀ (s : Shared) (H : Hp) (C : Addr) (cl : List (Str × Addr)) (fp : List Addr), PE (X.blk s H scope (compEnvC scope cl C X.env) fp) elt te)
    (hs : ∀ x, foldedSetIterable iter X.env x = pure x := by intro _; rfl) : PE X (.SetComp elt [⟨tg, iter, [], 0⟩] scope pos) (tSk X.prog X.w wi gg te (own.map (·.2))) := by
  refine ⟨fun pins s σ H Q I h => ?_⟩
  rw [PpSet.eval_SetComp]
  have fr : ∀ y ∈ scope.names, y.2 = .free → ∃ c, X.env.cells.lookup y.1 = some c := fun y hy e => (ok.free y hy e).elim (fun k => I.ok.has _ (.inl k)) fun k => I.ok.has _ (.inr k)
  refine wpAny_comprehension_free (use := none) rfl hs (closure_ok fr) ok.kind (fun y hy e => by rw [ok.uniq y hy, e]) (thn (hi.run pins s σ H _ I h) fun xv sa hx => thn hx fun itv sb hb => ?_)
  obtain ⟨it, fp, tn, J, Hb, rfl, Ib, T, stb, fb, q⟩ := hb
  refine PpSet.newSet_ok (newEnv_comp ?_)
  -- the set
  obtain ⟨W, ⟨m0, w0⟩, turn⟩ := q sb.heap.objs.size (Ib.hok.fresh (Nat.le_refl _))
  generalize eS : SetK X.prog X.w sb.heap.objs.size (fun _ => false) 0 = o0 at w0
  have new : ObjOk X.prog X.w (upd Hb sb.heap.objs.size o0) (sb.heap.push { cls := .type "set", dict := none, data := .set #[] 0 (.fresh 0 0 (!X.w.params.followText "set-order")) }) sb.heap.objs.size o0 := by
    rw [← eS]
    exact setK_new (fresh_set _ _ _)
  have Ic : Inv X pins σ (upd Hb sb.heap.objs.size o0) { sb with heap := sb.heap.push { cls := .type "set", dict := none, data := .set #[] 0 (.fresh 0 0 (!X.w.params.followText "set-order")) } } := Ib.laid (t' := sb.toks) (fun b o e => Heap.get?_push_of_some _ e) (Nat.le_refl _) new
  have below : ∀ b ∈ fp, b < sb.heap.objs.size := fun b hb => let ⟨_, e, _⟩ := T.obj _ _ stb b hb; Heap.lt_size e
  have hsz : (sb.heap.push { cls := .type "set", dict := none, data := .set #[] 0 (.fresh 0 0 (!X.w.params.followText "set-order")) }).objs.size = sb.heap.objs.size + 1 := Heap.size_push _ _
  generalize eD : sb.heap.objs.size = D at *
  generalize eC : ({ sb with heap := sb.heap.push { cls := .type "set", dict := none, data := .set #[] 0 (.fresh 0 0 (!X.w.params.followText "set-order")) } } : Shared) = sc at *
  have eHeap : sc.heap = sb.heap.push { cls := .type "set", dict := none, data := .set #[] 0 (.fresh 0 0 (!X.w.params.followText "set-order")) } := by rw [← eC]
  have fc : ∀ b ∈ fp, FpOk X pins (upd Hb D o0) b ∧ b < sc.heap.objs.size := fun b hb => by
    have lt := below b hb
    refine ⟨⟨?_, (fb b hb).2⟩, by rw [eHeap, hsz]; exact Nat.lt_succ_of_lt lt⟩
    rw [upd_ne (Nat.ne_of_lt lt)]
    exact (fb b hb).1
  have stc : tn 0 sc.heap := T.keep _ _ _ stb fun b _ o e => by rw [eHeap]; exact Heap.get?_push_of_some _ e
  generalize eH : upd Hb D o0 = Hc at *
  have Id := block_start Ic ok hN fc
  have pg := hg sc Hc sc.heap.objs.size (cellsFrom (sc.heap.objs.size + 1) scope.names (cloFrom X.env.cells scope.names [])) fp
  have pe := he sc Hc sc.heap.objs.size (cellsFrom (sc.heap.objs.size + 1) scope.names (cloFrom X.env.cells scope.names [])) fp
  show codeAny _ _ (.compStart (.SetComp elt [⟨tg, iter, [], 0⟩] scope pos) 0 (.ref it) (.ref D) (compEnvC scope (cellsFrom (sc.heap.objs.size + 1) scope.names (cloFrom X.env.cells scope.names [])) sc.heap.objs.size X.env)) (compPost (model X.prog X.w) X.A X.xe none (EP X pins σ Q) (.ref D) sc.heap.objs.size) { sc with heap := pushCells (sc.heap.push { cls := .type "dict", data := .dict #[] }) scope.names }
  generalize eE : compEnvC scope (cellsFrom (sc.heap.objs.size + 1) scope.names (cloFrom X.env.cells scope.names [])) sc.heap.objs.size X.env = ce at Id pg pe ⊢
  have eL : ce.locals = sc.heap.objs.size := by rw [← eE]; rfl
  have std : tn 0 (pushCells (sc.heap.push { cls := .type "dict", data := .dict #[] }) scope.names) := T.keep _ _ _ stc fun b _ o e => pushCells_keeps _ _ _ _ (Heap.get?_push_of_some _ e)
  have fps : ∀ {σ' : L2.St} {H' : Hp} {s' : Shared}, Inv (X.blk sc Hc scope ce fp) [] σ' H' s' → (∀ b ∈ fp, H' b = none) → ∀ b ∈ fp, FpOk (X.blk sc Hc scope ce fp) [] H' b := fun {σ' H' s'} I' n b hb =>
    ⟨n b hb, (I'.ok.exf b hb).1, I'.ok.exfs b hb, .inl hb, fun x c e => (I'.ok.exf b hb).2 x c e, fun p hp => by cases hp⟩
  have loop : codeAny (model X.prog X.w) X.A (.compLoop (.SetComp elt [⟨tg, iter, [], 0⟩] scope pos) 0 (.ref it) (.ref D) ce) (compPost (model X.prog X.w) X.A X.xe none (EP X pins σ Q) (.ref D) sc.heap.objs.size) { sc with heap := pushCells (sc.heap.push { cls := .type "dict", data := .dict #[] }) scope.names } := by
    refine PpSet.compLoopS_any (fun n s' => ∃ i H', Inv (X.blk sc Hc scope ce fp) [] (wipe σ (own.map (·.2))) H' s' ∧ tn i s'.heap ∧ (∀ b ∈ fp, H' b = none) ∧ W i n H') ?_ m0 ⟨0, Hc, Id, std, fun b hb => (fc b hb).1.1, w0⟩
    rintro n s5 ⟨i, H5, I5, st5, n5, w5⟩
    rcases turn i n H5 w5 with ⟨stop, qq⟩ | ⟨go, Nx, hNx, step⟩
    · refine thnF (T.done (X.blk sc Hc scope ce fp) rfl rfl rfl hc i [] s5 _ H5 (fun _ _ => False) I5 (fps I5 n5) st5 stop) fun r s6 ⟨hr, I6⟩ => ?_
      subst hr
      have back : Inv X pins σ H5 s6 := Ic.call' (ch := fp) I6.os I6.base I6.hok I6.bare fun b hb => let z := (fc b hb).1.2; ⟨z.2.2.1, z.1, z.2.2.2.1, z.2.2.2.2⟩
      obtain ⟨m, hn, _⟩ := I6.loc
      have hn : s6.heap.Ns ce.locals m := hn
      have nC : H5 ce.locals = none := I6.free
      rw [eL] at hn nC
      obtain ⟨f0, f1, f2, f3, f4, f5⟩ := Ic.fpOk (Nat.le_refl _) nC
      exact ⟨m, hn, fun h'' sb' => ⟨.ref D, H5, back.turned (t' := s6.toks) (fun b o hb e => (sb'.2 b hb).trans e) f0 f1 f3 f4 f5, rfl, qq⟩⟩
    · refine thnF (T.item (X.blk sc Hc scope ce fp) rfl rfl rfl hc i [] s5 _ H5 (fun _ _ => False) I5 (fps I5 n5) st5 go) fun r s6 ⟨u, hr, h6⟩ => ?_
      subst hr
      refine thnF h6 fun _ s7 ⟨x, H7, I7, r7, y7, st7, n7⟩ => ?_
      refine thnF (pg.run _ s7 _ H7 x u _ (I7.pinned (fps I7 n7) (T.obj _ _ st7)) r7 (step x H7 y7)) fun _ s8 ⟨σ8, H8, I8, hw8, q8⟩ => ?_
      refine wpAny_tests_nil ?_
      rw [if_pos rfl]
      refine thnF (pe.run _ s8 σ8 H8 _ I8 q8) fun z s9 ⟨yv, H9, I9, r9, k, T0, n0, ey, hD9, room, nx⟩ => ?_
      subst ey
      refine call_set_add (kV_is r9) (key_scan r9) (setK_get (X := X.blk sc Hc scope ce fp) I9 hD9) room fun h' sb' new' => ?_
      have there : ∃ o, h'.get? D = some o := let ⟨o, _, _, _, ho, _⟩ := new'; ⟨o, ho⟩
      have I10 := I9.write (e := D) (t' := s9.toks + 1) (by rw [hD9]; trivial) (.inl rfl) (fun b o hb ho => (sb'.2 b hb).trans ho) there (setK_new (P := X.prog) (w := X.w) new')
      obtain ⟨m', hm, w'⟩ := hNx _ nx
      have pin' : ∀ b ∈ fp, ∀ o, s7.heap.get? b = some o → h'.get? b = some o ∧ _ = none := fun b hb o e => let z := I10.pin (b, o) (List.mem_append_right _ (List.mem_append_right _ (mem_pinsAt hb e))); ⟨z.1, z.2.1⟩
      refine ⟨m', hm, i + 1, _, (I10.unpinned (pins := [])).weak (by rw [← hw8, wipe_length]) fun j v e => ?_, T.keep _ _ _ st7 fun b hb o e => (pin' b hb o e).1, fun b hb => ?_, w'⟩
      · rw [← hw8] at e
        exact (wipe_some e).1
      · obtain ⟨o, e, _⟩ := T.obj _ _ st7 b hb
        exact (pin' b hb o e).2
  exact PpSet.codeAny_compStart_set loop (T.self X.A 0 _ _ _ std loop)
theorem len_sk {X : Cx} : CallR X (.builtin "len") (fun xs H Q => ∃ (p : Addr) (T : Key → Bool) (n : Nat), xs = [.ref p] ∧ H p = some (SetK X.prog X.w p T n) ∧ Q (.int n) H) := by
  intro pins s σ H xs us Q I r h
  obtain ⟨p, T, n, rfl, hp, q⟩ := h
  obtain ⟨u, rfl, ru⟩ := vals1 r
  cases ru
  obtain ⟨o, es, ep, t, ho, hex, hd, _, _, hb, hf, hn⟩ := setK_get I hp
  have hb : es.size < 4096 := hb
  exact call_len_set ho hex hd hf (by omega) ⟨.int n, H, I.tok _, ⟨_, by rw [hn]⟩, q⟩
theorem strs_back : ∀ zs : List Str, plainOf (zs.map fun z => D.p (.str z)) = some (zs.map .str) ∧ strsOf (zs.map PyData.str) = some zs
  | [] => ⟨rfl, rfl⟩
  | z :: zs => by
    have h := strs_back zs
    exact ⟨by simp [plainOf, h.1], by simp [strsOf, h.2]⟩
theorem strD_of {x d : D} (h : strD x = some d) : ∃ z, x = .p (.str z) ∧ d = .p (.str z) := by
  unfold strD at h
  split at h
  · cases h
    exact ⟨_, rfl, rfl⟩
  · cases h
variable {g : Gc} {W : WX} {cal : Nat → List D → M D} {pos : Pos}
theorem tSk_of {it : Wi} {tgs : List Nat} {one : Bool} {ie : E} {σ : L2.St} {H : Hp} {Q : VK} {P : Program} {w : World} (h : rE g W (evE cal (.lensc it tgs one ie)) σ H Q) :
    tSk P w (rI g W one (evI cal it)) (rG g tgs one) (rE g W0 (evE cal ie)) tgs σ H (fun v H' => ∃ (p : Addr) (T : Key → Bool) (n : Nat), [v] = [V.ref p] ∧ H' p = some (SetK P w p T n) ∧ Q (.int n) H') := by
  obtain ⟨α, S, ρ, a, r, q⟩ := h
  have q : wp (M.bind (evI cal it ρ) (fun src => M.bind (fun S => match src.size S with
    | some n => if n ≤ 1000 then lcGo src (fun d => M.calm (M.bind (match tgt tgs one d (wipeD ρ tgs) with
        | some ρ' => evE cal ie ρ'
        | none => M.bad) fun x => M.opt (strD x))) n 0 [] S else .bad
    | none => .bad) fun ds => M.opt (lensetLD ds)) S) _ _ := q
  refine ⟨α, S, ρ, a, r, wp_mono (wp_bind q) (fun src S1 h0 α1 H1 e1 a1 J wk p hp => ?_) fun _ _ z => z⟩
  have h1 := wp_bind h0
  cases hn : src.size S1 with
  | none => simp only [hn] at h1; exact h1.elim
  | some n =>
    simp only [hn] at h1
    by_cases hl : n ≤ 1000
    · simp only [hl, if_true] at h1
      obtain ⟨ef, af⟩ := At.fresh a1 hp (u := SetK P w p (fun _ => false) 0)
      let Wf : Nat → Nat → Hp → Prop := fun i m H2 => ∃ α2 S2 zs T, Ext α1 α2 H1 H2 ∧ g.At α2 H2 S2 ∧ p ∉ α2 ∧ H2 p = some (SetK P w p T (unlike zs).length) ∧ (∀ k : Key, T k = true ↔ ∃ z ∈ zs, k = .inr z) ∧ zs.length + m ≤ 1000 ∧
        wp (lcGo src (fun d => M.calm (M.bind (match tgt tgs one d (wipeD ρ tgs) with | some ρ' => evE cal ie ρ' | none => M.bad) fun x => M.opt (strD x))) m i (zs.map fun z => D.p (.str z)) S2)
          (fun ds S' => wp (M.opt (lensetLD ds) S') (fun d S' => ∀ α' H', Ext α α' H H' → g.At α' H' S' → ∀ v, g.Tl α' H' d v → Q v H') (exW g W α σ H)) (exW g W α σ H)
      refine ⟨Wf, ⟨n, α1, S1, [], fun _ => false, ef, af, a1.notin hp, upd_same, fun k => by simp, by simpa using hl, h1⟩, ?_⟩
      rintro i m H2 ⟨α2, S2, zs, T, e2, a2, np, hx, hT, hl2, w2⟩
      have wki := wk i α2 H2 S2 e2 a2
      cases hat : src.at i S2 with
      | none => cases m <;> (simp only [lcGo, hat] at w2; exact w2.elim)
      | some o =>
        cases o with
        | none =>
          refine .inl ⟨wki.2 hat, p, T, _, rfl, hx, ?_⟩
          have w3 : wp (M.opt (lensetLD (zs.map fun z => D.p (.str z))) S2) (fun d S' => ∀ α' H', Ext α α' H H' → g.At α' H' S' → ∀ v, g.Tl α' H' d v → Q v H') (exW g W α σ H) := by
            cases m <;> (simp only [lcGo, hat] at w2; exact w2)
          have hz : lensetLD (zs.map fun z => D.p (.str z)) = some (.p (.int (unlike zs).length)) := by
            unfold lensetLD
            rw [(strs_back zs).1]
            show (strsOf (zs.map PyData.str)).bind _ = _
            rw [(strs_back zs).2]
            show (if zs.length ≤ 1000 then some _ else none) = _
            rw [if_pos (by omega)]
          unfold M.opt at w3
          simp only [hz] at w3
          exact w3 α2 H2 (e1.trans e2) a2 _ (.int _)
        | some d =>
          cases m with
          | zero => simp only [lcGo, hat] at w2; exact w2.elim
          | succ m =>
            simp only [lcGo, hat] at w2
            obtain ⟨go, yl⟩ := wki.1 d hat
            refine .inr ⟨go, Wf (i + 1) m, fun H' q => ⟨m, Nat.lt_succ_self _, q⟩, fun x H' hy => ?_⟩
            obtain ⟨ey, ay, ty⟩ := yl x H' hy
            have w4 := wp_bind (calm_wp (ex' := fun _ _ => False) (wp_bind w2))
            cases ht : tgt tgs one d (wipeD ρ tgs) with
            | none => simp only [ht] at w4; exact w4.elim
            | some ρ' =>
              simp only [ht] at w4
              have eH := (e1.trans (e2.trans ey))
              refine ⟨α2, S2, wipeD ρ tgs, d, ρ', ay, ((r.ext eH a).wipe tgs), ty, ht, fun σ' r' ag => ⟨ag.wipe.trans (Ag.wipe (σ := σ) (σ' := L2.wipe σ tgs) ⟨wipe_length _ _, fun j hj => by rw [wipe_get, if_neg (fun z => hj z.1)]⟩), ?_⟩⟩
              refine ⟨α2, S2, ρ', ay, r', wp_mono w4 (fun z S3 w5 α3 H3 e3 a3 v tv => ?_) fun _ _ z => z.elim⟩
              have hx' : H' p = some (SetK P w p T (unlike zs).length) := ey.keep p _ hx np
              have hx3 : H3 p = some (SetK P w p T (unlike zs).length) := e3.keep p _ hx' np
              have np3 : p ∉ α3 := e3.notin hx' np
              cases hz : strD z with
              | none => unfold M.opt at w5; simp only [hz] at w5; exact w5.elim
              | some dz =>
                unfold M.opt at w5
                simp only [hz] at w5
                obtain ⟨t, rfl, rfl⟩ := strD_of hz
                cases tv
                have ul := unlike_snoc t zs
                refine ⟨.inr t, T, _, rfl, hx3, ?_, α3, S3, zs ++ [t], fun j => T j || decide (j = .inr t), ?_, a3.apartS hx3 True.intro np3, np3, ?_, fun k => ?_, ?_, ?_⟩
                · have := unlike_le zs
                  unfold scanBound
                  omega
                · have ee := (e2.trans (ey.trans e3))
                  exact ⟨ee.pre, fun b o hb n => by rw [upd_ne (fun z => by rw [z, hp] at hb; cases hb)]; exact ee.keep b o hb n, ee.new⟩
                · rw [upd_same, ul]
                  by_cases hm : t ∈ zs
                  · rw [if_pos ((hT _).mpr ⟨t, hm, rfl⟩), if_pos hm]
                    rfl
                  · rw [if_neg (fun z => by obtain ⟨u, hu, e⟩ := (hT _).mp z; cases e; exact hm hu), if_neg hm]
                · rw [Bool.or_eq_true, hT, decide_eq_true_eq]
                  constructor
                  · rintro (⟨z, hz, e⟩ | e)
                    · exact ⟨z, List.mem_append_left _ hz, e⟩
                    · exact ⟨t, List.mem_append_right _ (List.mem_singleton.mpr rfl), e⟩
                  · rintro ⟨z, hz, e⟩
                    rcases List.mem_append.mp hz with z1 | z1
                    · exact .inl ⟨z, z1, e⟩
                    · rw [List.mem_singleton] at z1
                      rw [z1] at e
                      exact .inr e
                · rw [List.length_append, List.length_singleton]
                  omega
                · rw [List.map_append]
                  exact w5
    · simp only [hl, if_false] at h1
      exact h1.elim
theorem e_lensc {elt tg iter : Expr} {scope : Scope} {cpos p : Pos} {it : Wi} {one : Bool} {ie : E} (own : List (Str × Nat)) {CX : CXT} {k : Nat} (G : Gd X g W CX cal k) (hm : X.mg "len" = none) (hi : PI X tg iter (rI g W one (evI cal it))) (ok : blkC X.N X.env.scope scope own = true)
    (hg : ∀ (s : Shared) (H : Hp) (C : Addr) (cl : List (Str × Addr)) (fp : List Addr), PG (X.blk s H scope (compEnvC scope cl C X.env) fp) tg (rG g (own.map (·.2)) one))
    (he : ∀ (s : Shared) (H : Hp) (C : Addr) (cl : List (Str × Addr)) (fp : List Addr), Gd (X.blk s H scope (compEnvC scope cl C X.env) fp) g W0 CX cal k → PE (X.blk s H scope (compEnvC scope cl C X.env) fp) elt (rE g W0 (evE cal ie)))
    (hgl : Gl X "len" := by rfl) (hs : ∀ x, foldedSetIterable iter X.env x = pure x := by intro _; rfl) :
    PE X (.Call (.Name "len" p) [.SetComp elt [⟨tg, iter, [], 0⟩] scope cpos] [] pos) (rE g W (evE cal (.lensc it (own.map (·.2)) one ie))) :=
  pe_imp (pe_callB len_sk hgl hm boot_len (pa_cons (pe_sk G.calm G.nd hi (blkOk_by ok) hg (fun s H C cl fp => he s H C cl fp (G.blk s H scope _ fp)) hs) pa_nil)) fun σ H Q q => tSk_of q
end
end Ir
set_option Elab.async false
set_option maxRecDepth 100000
set_option maxHeartbeats 4000001
/-! dict of a tuple of pairs; get of a written dict; len(set(..)) of a tuple of texts. -/
namespace Ir
open PySem L2 PySem.Spec PyProof.Rows
section
variable {X : Cx} {g : Gc} {W : WX} {cal : Nat → List D → M D} {pos : Pos}
/-- the pairs by their values -/
theorem prs_of {pins : List (Addr × Obj)} {σ : L2.St} {H : Hp} {s : Shared} (I : Inv X pins σ H s) : ∀ {ps : List Addr} {kvs : List (Key × V)}, Paired (fun p kv => SqT X.K H p [kV kv.1, kv.2]) ps kvs →
    ∃ (prs : List (Key × Value)) (vs : List (Value × Value)), KV kvs prs ∧ prs.length = ps.length ∧ vs.length = ps.length ∧
      ∀ (j : Nat) (q : Value × Value), vs[j]? = some q → ∃ (b : Addr) (k : Key), ps[j]? = some b ∧ prs[j]? = some (k, q.2) ∧ IsTup s.heap b #[q.1, q.2] ∧ keyIs k q.1 = true
  | _, _, .nil => ⟨[], [], .nil, rfl, rfl, fun j q e => by simp at e⟩
  | _, _, .cons (a := p) (b := kv) h t => by
    obtain ⟨prs, vs, r, h1, h2, hp⟩ := prs_of I t
    obtain ⟨its, rv, ht, _⟩ := I.tuple h
    obtain ⟨u, y, rfl, ru, ry⟩ := vals2 rv
    refine ⟨(kv.1, y) :: prs, (u, y) :: vs, .cons ⟨rfl, ry⟩ r, by rw [List.length_cons, List.length_cons, h1], by rw [List.length_cons, List.length_cons, h2], fun j q e => ?_⟩
    cases j with
    | zero =>
      cases (Option.some.inj e : (u, y) = q)
      exact ⟨p, kv.1, rfl, rfl, ht, kV_is (P := X.prog) (w := X.w) ru⟩
    | succ j =>
      obtain ⟨b, k, e1, e2, e3, e4⟩ := hp j q (by simpa using e)
      exact ⟨b, k, by simpa using e1, by simpa using e2, e3, e4⟩
theorem call_dictT (hc : X.calm = true) : CallR X (.type "dict") (fun xs H Q => ∃ (a : Addr) (ps : List Addr) (kvs : List (Key × V)), xs = [.ref a] ∧ Ht X.K H a (ps.map V.ref) ∧ Paired (fun p kv => SqT X.K H p [kV kv.1, kv.2]) ps kvs ∧ kvs.length ≤ 1000 ∧
    ∀ p, H p = none → Q (.ref p) (upd H p (.dK (mergeK [] kvs)))) := by
  intro pins s σ H xs us Q I r q
  obtain ⟨a, ps, kvs, rfl, hq, hp, hl, q⟩ := q
  obtain ⟨u, rfl, rx⟩ := vals1 r
  cases rx
  -- the argument's object
  have ob : ∃ (o : Obj) (n : Nat), s.heap.get? a = some o ∧ o.cls = .type "tuple" ∧ o.dict = none ∧ o.data = .seq (ps.map Value.ref).toArray n := by
    rcases hq with ⟨o, h1, h2⟩ | ⟨o, its, n, h1, h2, h3, h4, h5, h6⟩
    · obtain ⟨h3, h4, its, rv, o', h5, h6, n, h7⟩ := I.hok a _ h1
      rw [h3] at h5
      cases h5
      rw [refs_at rv] at h7
      exact ⟨o, n, h3, h6, h2, h7⟩
    · have e := refs_at h6
      exact ⟨o, n, I.kIn a o h1, h2, h3, by rw [h4, ← e]⟩
  obtain ⟨o, n, h1, h2, h3, h4⟩ := ob
  obtain ⟨prs, vs, rel, hl1, hl2, hpr⟩ := prs_of I hp
  have PA := PySem.PairArg.tuple (prog := X.prog) (w := X.w) a (ps.map Value.ref).toArray (fun j => ps.getD j 0) vs
  have okA : PlainSeq "tuple" s.heap a (ps.map Value.ref).toArray ∧ PairItems s.heap (ps.map Value.ref).toArray (fun j => ps.getD j 0) vs := by
    refine ⟨⟨o, n, h1, h2, h3, h4⟩, by simp [hl2], fun j k v e => ?_⟩
    obtain ⟨b, key, e1, e2, e3, e4⟩ := hpr j (k, v) e
    have eb : ps.getD j 0 = b := by rw [List.getD_eq_getElem?_getD, e1]; rfl
    exact ⟨by simp [e1], .inl (by show s.heap.IsTuple (ps.getD j 0) _; rw [eb]; exact e3)⟩
  have lenK : (mergeK [] kvs).length ≤ sizeLine := by
    have := length_mergeK kvs []
    rw [List.length_nil] at this
    rw [sizeLine_eq]
    omega
  have hn : vs.length = prs.length := by rw [hl1, hl2]
  refine PySem.call_dict_pairs (knd := mixKind X.prog X.w) (kvs := prs) PA (I.ok.hd hc) okA ⟨hn.symm, fun i key v e => ?_⟩ ?_ fun h' tk hd' hk => ?_
  · obtain ⟨b, k, e1, e2, e3, e4⟩ := hpr i (key, v) e
    exact ⟨k, e2, e4⟩
  · rw [hn, ← rel.length, sizeLine_eq]
    omega
  · refine ⟨.ref s.heap.objs.size, _, I.laid (t' := tk) (fun b o e => hk b o (fun z => by cases z) e) (Nat.le_refl _) (o := .dK (mergeK [] kvs)) ?_, rfl, q _ (I.hok.fresh (Nat.le_refl _))⟩
    exact ⟨lenK, beq_eq_false_iff_ne.mpr (Nat.ne_of_gt I.big), merged [] prs, KV.merge rel .nil, hd'⟩
/-- the dict of the store and the layer's, side by side -/
abbrev DP (g : Gc) (α : List Addr) (H : Hp) : List (Key × D) → List (Key × V) → Prop := Paired fun p q => p.1 = q.1 ∧ g.Tl α H p.2 q.2
theorem dp_any {α : List Addr} {H : Hp} {k : Key} : ∀ {kvs : List (Key × D)} {ws : List (Key × V)}, DP g α H kvs ws → (kvs.any fun kv => decide (kv.1 = k)) = ws.any fun kv => decide (kv.1 = k)
  | [], _, h => by cases h; rfl
  | _ :: _, _, h => by
    cases h with
    | cons a b => rw [List.any_cons, List.any_cons, dp_any b, a.1]
theorem dp_map {α : List Addr} {H : Hp} {k : Key} {d : D} {v : V} (t : g.Tl α H d v) : ∀ {kvs : List (Key × D)} {ws : List (Key × V)}, DP g α H kvs ws → DP g α H (kvs.map fun kv => if kv.1 = k then (kv.1, d) else kv) (ws.map fun kv => if kv.1 = k then (kv.1, v) else kv)
  | [], _, h => by cases h; exact .nil
  | (k1, d1) :: _, _, h => by
    cases h with
    | @cons _ q _ _ a b =>
      obtain ⟨k2, v2⟩ := q
      obtain ⟨e, a⟩ := a
      cases (e : k1 = k2)
      refine .cons ?_ (dp_map t b)
      show (if k1 = k then (k1, d) else (k1, d1)).1 = (if k1 = k then (k1, v) else (k1, v2)).1 ∧ g.Tl α H (if k1 = k then (k1, d) else (k1, d1)).2 (if k1 = k then (k1, v) else (k1, v2)).2
      by_cases z : k1 = k
      · rw [if_pos z, if_pos z]; exact ⟨rfl, t⟩
      · rw [if_neg z, if_neg z]; exact ⟨rfl, a⟩
theorem dp_put {α : List Addr} {H : Hp} {k : Key} {d : D} {v : V} (t : g.Tl α H d v) {kvs : List (Key × D)} {ws : List (Key × V)} (h : DP g α H kvs ws) : DP g α H (putD kvs k d) (putK ws k v) := by
  unfold putD putK
  rw [dp_any h]
  by_cases z : (ws.any fun kv => decide (kv.1 = k)) = true
  · rw [if_pos z, if_pos z]
    exact dp_map t h
  · rw [if_neg z, if_neg z]
    exact Paired.app h (.cons ⟨rfl, t⟩ .nil)
theorem dp_merge {α : List Addr} {H : Hp} : ∀ {more : List (Key × D)} {mv : List (Key × V)} {kvs : List (Key × D)} {ws : List (Key × V)}, DP g α H more mv → DP g α H kvs ws → DP g α H (more.foldl (fun acc kv => putD acc kv.1 kv.2) kvs) (mv.foldl (fun acc kv => putK acc kv.1 kv.2) ws)
  | [], _, _, _, h, k => by cases h; exact k
  | (k1, d1) :: _, _, _, _, h, k => by
    cases h with
    | @cons _ q _ _ a b =>
      obtain ⟨k2, v2⟩ := q
      obtain ⟨e, a⟩ := a
      cases (e : k1 = k2)
      have z := dp_merge b (dp_put (k := k1) a k)
      exact z
theorem pairs_tp {H : Hp} {α : List Addr} : ∀ {ds : List PyData} {xs : List V} {kvs : List (Key × D)}, TpA g.K H ds xs → pairsOf ds = some kvs →
    ∃ (ps : List Addr) (ws : List (Key × V)), xs = ps.map V.ref ∧ Paired (fun p kv => SqT g.K H p [kV kv.1, kv.2]) ps ws ∧ DP g α H kvs ws
  | [], _, _, h, e => by cases h; cases e; exact ⟨[], [], rfl, .nil, .nil⟩
  | d :: ds, _, kvs, h, e => by
    cases h with
    | @cons _ v _ vs a b =>
      cases d <;> first | (simp [pairsOf] at e; done) | skip
      rename_i qs
      match qs, e, a with
      | [], e, _ => simp [pairsOf] at e
      | [_], e, _ => simp [pairsOf] at e
      | _ :: _ :: _ :: _, e, _ => simp [pairsOf] at e
      | [kd, vd], e, a =>
        have e : ((keyOf (.p kd)).bind fun k => (pairsOf ds).map ((k, .p vd) :: ·)) = some kvs := e
        obtain ⟨key, e1, e⟩ := Option.bind_eq_some_iff.mp e
        obtain ⟨kr, e2, e⟩ := Option.map_eq_some_iff.mp e
        subst e
        obtain ⟨ps, ws, rfl, h1, h2⟩ := pairs_tp b e2
        cases a with
        | @tup c xs _ hq ha =>
          cases ha with
          | cons t1 r1 =>
            cases r1 with
            | cons t2 r2 =>
              cases r2
              have ek := key_V (ph := g.ph) (α := α) (d := .p kd) t1 e1
              refine ⟨c :: ps, (key, _) :: ws, rfl, .cons ?_ h1, .cons ⟨rfl, t2⟩ h2⟩
              have hq := hq.sq
              rw [ek] at hq
              exact hq
theorem e_dictOf {a : Expr} {ia : E} {p : Pos} (hc : X.calm = true) (hK : X.K = g.K) (hm : X.mg "dict" = none) (ha : PE X a (rE g W (evE cal ia))) (hg : Gl X "dict" := by rfl) (hs : starEach [a] X.env = (false, eval a X.env) :: starEach [] X.env := by rfl) :
    PE X (.Call (.Name "dict" p) [a] [] pos) (rE g W (evE cal (.dictOf ia))) := by
  have h := call_dictT (X := X) hc
  rw [hK] at h
  refine pe_imp (pe_callTy h hg hm (by decide +kernel) (pa_cons ha pa_nil hs) (he := hs)) fun σ H Q h => ?_
  obtain ⟨α, S, ρ, a0, r, w⟩ := h
  have w : wp (M.bind (evE cal ia ρ) (fun x => M.bind (M.opt (dictD x)) fun kvs => alloc (.dic kvs)) S) _ _ := w
  refine ⟨α, S, ρ, a0, r, wp_mono (wp_bind w) (fun x S1 h1 α1 H1 e1 a1 v tv => ?_) fun _ _ z => z⟩
  cases e : dictD x with
  | none => simp only [M.bind, M.opt, e] at h1; exact h1.elim
  | some kvs =>
    simp only [M.bind, M.opt, e] at h1
    unfold dictD at e
    split at e
    · obtain ⟨kv, e2, e⟩ := Option.bind_eq_some_iff.mp e
      by_cases hl : kv.length ≤ 1000
      · rw [if_pos hl] at e
        cases e
        cases tv with
        | tup hq hx =>
          obtain ⟨ps, ws, rfl, h2, h3⟩ := pairs_tp (α := α1) hx e2
          refine ⟨_, ps, ws, rfl, hq, h2, by rw [← Paired.length h3]; exact hl, fun q hq0 => ?_⟩
          obtain ⟨ef, af⟩ := At.fresh a1 hq0 (u := .dK (mergeK [] ws))
          have dm : DP g α1 (upd H1 q (.dK (mergeK [] ws))) (mergeD kv) (mergeK [] ws) := by
            have h3' : DP g α1 (upd H1 q (.dK (mergeK [] ws))) kv ws := Paired.mapP h3 fun _ _ z => ⟨z.1, z.2.ext ef a1⟩
            exact dp_merge h3' .nil
          unfold alloc at h1
          by_cases hb : rbO S1.length (.dic (mergeD kv)) = true
          · simp only [hb, if_true] at h1
            obtain ⟨a2, pre⟩ := At.take_in af (a1.notin hq0) (o := .dic (mergeD kv)) ⟨_, upd_same, dm⟩ hb
            have e12 := e1.trans ef
            refine h1 (α1 ++ [q]) _ ⟨fun i b h => pre i b (e12.pre i b h), e12.keep, fun b hb => ?_⟩ a2 _ ⟨q, ?_, rfl⟩
            · rcases List.mem_append.mp hb with z | z
              · exact e12.new b z
              · rw [List.mem_singleton] at z
                rw [z]
                exact .inr (e1.none a1 hq0)
            · rw [← a1.len, List.getElem?_append_right (Nat.le_refl _)]
              simp
          · simp only [hb] at h1
            exact h1.elim
      · rw [if_neg hl] at e
        cases e
    · cases e

/-! ### get of a dict of the module with text keys -/
structure Wd (g : Gc) (w : World) (mg : Str → Option Value) (x : Str) (kvs : List (Str × PyData)) : Prop where
  ex : ∃ a es n, mg x = some (.ref a) ∧ g.K.lookup a = some ⟨.type "dict", none, .dict es n, #[]⟩ ∧ PySem.W.KeysLit w.params es.toList ∧ (a == sysModules) = false ∧
    Paired (fun (e : DictEntry) (p : Str × PyData) => (∃ t, e.key = .str p.1 t) ∧ ∃ v, RelV v e.val ∧ ∀ H, Tp g.K H p.2 v) es.toList kvs
theorem find_wd {g : Gc} {z : Str} : ∀ {l : List DictEntry} {kvs : List (Str × PyData)}, Paired (fun (e : DictEntry) (p : Str × PyData) => (∃ t, e.key = .str p.1 t) ∧ ∃ v, RelV v e.val ∧ ∀ H, Tp g.K H p.2 v) l kvs →
    ∃ v, RelV v (((l.find? fun e => Value.isStrOf z e.key).map (·.val)).getD .none) ∧ ∀ H, Tp g.K H ((kvs.lookup z).getD .none) v
  | [], _, h => by cases h; exact ⟨.non, rfl, fun _ => .non⟩
  | e :: l, _, h => by
    cases h with
    | @cons _ q _ kvs a b =>
      obtain ⟨x, d⟩ := q
      obtain ⟨⟨t, ek⟩, v, rv, tv⟩ := a
      rw [List.find?_cons, ek]
      by_cases z1 : x = z
      · subst z1
        have e1 : Value.isStrOf x (.str x t) = true := by simp [Value.isStrOf]
        rw [e1]
        have e2 : ((x, d) :: kvs).lookup x = some d := by simp [List.lookup]
        rw [e2]
        exact ⟨v, rv, tv⟩
      · have e1 : Value.isStrOf z (.str x t) = false := by simp [Value.isStrOf, z1]
        rw [e1]
        have e2 : ((x, d) :: kvs).lookup z = kvs.lookup z := by
          rw [List.lookup]
          have : (z == x) = false := by simpa using Ne.symm z1
          rw [this]
        rw [e2]
        exact find_wd b
theorem e_wget {x : Str} {b : Expr} {ib : E} {apos p : Pos} {kvs : List (Str × PyData)} (D : Wd g X.w X.mg x kvs) (hK : X.K = g.K) (hb : PE X b (rE g W (evE cal ib))) (hg : Gl X x := by rfl) (hd : (x == ("__debug__" : Str)) = false := by decide)
    (m : M1 X (.Name x p) "get" apos b pos := by exact ⟨rfl, rfl, rfl, rfl⟩) : PE X (.Call (.Attribute (.Name x p) "get" apos) [b] [] pos) (rE g W (evE cal (.wget kvs ib))) := by
  refine ⟨fun pins s σ H Q I h => ?_⟩
  obtain ⟨a, es, n, h1, h2, h3, h4, h5⟩ := D.ex
  rw [← hK] at h2
  refine wpAny_Call_method m.base m.few m.line PySem.F.plainAttrs_dict PySem.F.slot_dict_get PySem.F.type_dict_get (ld_glob I hg h1 ?_ hd)
  have hm := PySem.W.mapOf_K (prog := X.prog) (w := X.w) I.kIn h2 h3
  refine ⟨hm.typeIs, fun c e => ?_, ?_⟩
  · cases e
    exact ⟨_, I.kIn _ _ h2, rfl⟩
  rw [m.trees]
  obtain ⟨α, S, h⟩ := h
  have h6 : rE g W (evE cal ib) σ H (fun y H1 => ∃ z v, y = .str z ∧ RelV v ((findBy Value.isStrOf es z).getD .none) ∧ Q v H1) := by
    refine ⟨α, S, (rAt.bind (m := evE cal ib) (f := fun y _ => M.opt (wgetD kvs y)) h).imp fun y S1 α1 H1 e1 a1 q v tv => ?_⟩
    obtain ⟨z, hz, k⟩ := rAt.opt (o := fun _ => wgetD kvs y) q
    have hz : wgetD kvs y = some z := hz
    unfold wgetD at hz
    split at hz
    · rename_i z0 _
      cases hz
      cases tv
      obtain ⟨v, r1, r2⟩ := find_wd (z := z0) h5
      refine ⟨z0, v, rfl, ?_, k α1 H1 (Ext.refl _ _) a1 v (r2 H1)⟩
      unfold findBy
      rw [← Array.find?_toList]
      exact r1
    · cases hz
  refine Calls.callWith_builtin rfl (Calls.evalArgs_plain (Calls.spliced_cons (thn (hb.run pins s σ H _ I h6) fun iv s2 ⟨y, H2, I2, ry, z, v, ey, rv, q2⟩ => Calls.spliced_nil ?_)))
  subst ey
  obtain ⟨t, rfl⟩ := ry
  have hm2 := PySem.W.mapOf_K (prog := X.prog) (w := X.w) I2.kIn h2 h3
  exact call_meetsIn PySem.F.slot_dict_get hm2.typeIs PySem.F.entry_dict_get (PySem.F.args_dict_get_2 _ _) (meets_dict_get (strKind X.prog X.w) a (strKind_is X.prog X.w z t) h4) ⟨_, hm2, v, H2, I2.tok _, rv, q2⟩
/-! ### len(set(..)) of at most one text -/
theorem strs_tp {K : PySem.W.Frag} {H : Hp} : ∀ {ds : List PyData} {xs : List V} {zs : List Str}, TpA K H ds xs → strsOf ds = some zs → xs = zs.map V.str
  | [], _, _, h, e => by cases h; cases e; rfl
  | d :: ds, _, _, h, e => by
    cases h with
    | cons a b =>
      cases d <;> first | (simp [strsOf] at e; done) | skip
      unfold strsOf at e
      obtain ⟨r, e1, e⟩ := Option.map_eq_some_iff.mp e
      subst e
      cases a
      rw [strs_tp b e1]
      rfl
theorem unlike_one : ∀ {zs : List Str}, zs.length ≤ 1 → (unlike zs).length = zs.length
  | [], _ => rfl
  | [z], _ => by simp [unlike]
  | _ :: _ :: _, h => by simp at h
theorem e_lenset {a : Expr} {ia : E} {p p2 q : Pos} (hc : X.calm = true) (hK : X.K = g.K) (hm : X.mg "len" = none) (hm2 : X.mg "set" = none) (ha : PE X a (rE g W (evE cal ia))) (hg : Gl X "len" := by rfl) (hg2 : Gl X "set" := by rfl)
    (na : starEach [a] X.env = (false, eval a X.env) :: starEach [] X.env := by rfl) : PE X (.Call (.Name "len" p) [.Call (.Name "set" p2) [a] [] q] [] pos) (rE g W (evE cal (.lenset ia))) := by
  have h := pe_lenSet (pos := pos) (p := p) (p2 := p2) (q := q) hc hg hm hg2 hm2 ha na
  rw [hK] at h
  refine pe_imp h fun σ H Q h => ?_
  obtain ⟨α, S, h⟩ := h
  refine ⟨α, S, (rAt.bind (m := evE cal ia) (f := fun x _ => M.opt (lensetD x)) h).imp fun x S1 α1 H1 e1 a1 h1 v tv => ?_⟩
  obtain ⟨z, hz, k⟩ := rAt.opt (o := fun _ => lensetD x) h1
  have hz : lensetD x = some z := hz
  unfold lensetD at hz
  split at hz
  · obtain ⟨zs, e, hz⟩ := Option.bind_eq_some_iff.mp hz
    by_cases hl : zs.length ≤ 1
    · rw [if_pos hl] at hz
      cases hz
      cases tv with
      | tup hq hx =>
        have e2 := strs_tp hx e
        subst e2
        refine ⟨_, zs, rfl, .inr hq.sq, hl, ?_⟩
        have ul := unlike_one hl
        rw [← ul]
        exact k α1 H1 (Ext.refl _ _) a1 _ (.int _)
    · rw [if_neg hl] at hz
      cases hz
  · cases hz
end
end Ir
set_option Elab.async false
set_option maxRecDepth 100000
set_option maxHeartbeats 4000001
/-! Methods of texts; a list made longer. -/
namespace Ir
open PySem L2 PySem.Spec PyProof.Rows
section
variable {X : Cx} {g : Gc} {W : WX} {cal : Nat → List D → M D} {pos : Pos}
theorem plain_back : ∀ ds : List PyData, plainOf (ds.map D.p) = some ds
  | [] => rfl
  | d :: ds => by
    show (plainOf (ds.map D.p)).map (d :: ·) = some (d :: ds)
    rw [plain_back ds]
    rfl
theorem txt_of {o : TxO} {ia : E} {σ : L2.St} {H : Hp} {Q : VK} (h : rE g W (evE cal (.txt o ia)) σ H Q) : rE g W (evE cal ia) σ H (fun x H1 => (∃ a, x = .str a) ∧ ∃ a, x = .str a ∧ a.length ≤ 5000000 ∧ Q (.str (txO o a)) H1) := by
  obtain ⟨α, S, h⟩ := h
  refine ⟨α, S, (rAt.bind (m := evE cal ia) (f := fun x _ => M.opt (txtD o x)) h).imp fun x S1 α1 H1 e1 a1 h1 v tv => ?_⟩
  obtain ⟨z, hz, k⟩ := rAt.opt (o := fun _ => txtD o x) h1
  have hz : txtD o x = some z := hz
  unfold txtD at hz
  split at hz
  · split at hz
    · rename_i hl
      cases hz
      cases tv
      exact ⟨⟨_, rfl⟩, _, rfl, hl, k α1 H1 (Ext.refl _ _) a1 _ (.str _)⟩
    · cases hz
  · cases hz
theorem e_lower {a : Expr} {ia : E} {apos : Pos} (ha : PE X a (rE g W (evE cal ia))) (hbase : attributeBase a "lower" X.env (eval a X.env) = eval a X.env := by rfl) (hline : (apos.endLine == pos.line) = true := by rfl) :
    PE X (.Call (.Attribute a "lower" apos) [] [] pos) (rE g W (evE cal (.txt .lower ia))) := pe_imp (pe_lower ha hbase hline) fun σ H Q h => by
  obtain ⟨α, S, q⟩ := txt_of h
  exact ⟨α, S, q.imp fun x S1 α1 H1 _ _ k v tv => by
    obtain ⟨h1, z, e, hl, q⟩ := k v tv
    exact ⟨h1, z, e, rfl, by omega, q⟩⟩
theorem e_upper {a : Expr} {ia : E} {apos : Pos} (ha : PE X a (rE g W (evE cal ia))) (hbase : attributeBase a "upper" X.env (eval a X.env) = eval a X.env := by rfl) (hline : (apos.endLine == pos.line) = true := by rfl) :
    PE X (.Call (.Attribute a "upper" apos) [] [] pos) (rE g W (evE cal (.txt .upper ia))) := pe_imp (pe_upper ha hbase hline) fun σ H Q h => by
  obtain ⟨α, S, q⟩ := txt_of h
  exact ⟨α, S, q.imp fun x S1 α1 H1 _ _ k v tv => by
    obtain ⟨h1, z, e, hl, q⟩ := k v tv
    exact ⟨h1, z, e, rfl, by omega, q⟩⟩
theorem e_strip {a : Expr} {ia : E} {apos : Pos} (ha : PE X a (rE g W (evE cal ia))) (hbase : attributeBase a "strip" X.env (eval a X.env) = eval a X.env := by rfl) (hline : (apos.endLine == pos.line) = true := by rfl) :
    PE X (.Call (.Attribute a "strip" apos) [] [] pos) (rE g W (evE cal (.txt .strip ia))) := pe_imp (pe_strip ha hbase hline) fun σ H Q h => by
  obtain ⟨α, S, q⟩ := txt_of h
  exact ⟨α, S, q.imp fun x S1 α1 H1 _ _ k v tv => by
    obtain ⟨h1, z, e, hl, q⟩ := k v tv
    exact ⟨h1, z, e, rfl, by rw [sizeLine_eq]; omega, q⟩⟩
theorem CallR.or {f : Value} {r r' : List V → Hp → VK → Prop} (h : CallR X f r) (h' : CallR X f r') : CallR X f (fun xs H Q => r xs H Q ∨ r' xs H Q) := by
  intro pins s σ H xs us Q I rv q
  rcases q with q | q
  · exact h pins s σ H xs us Q I rv q
  · exact h' pins s σ H xs us Q I rv q
theorem e_strOf {a : Expr} {ia : E} {p : Pos} (hm : X.mg "str" = none) (ha : PE X a (rE g W (evE cal ia))) (hg : Gl X "str" := by rfl) (hs : starEach [a] X.env = (false, eval a X.env) :: starEach [] X.env := by rfl) :
    PE X (.Call (.Name "str" p) [a] [] pos) (rE g W (evE cal (.strOf ia))) := by
  refine pe_imp (pe_callTy (CallR.or call_str_int SkE.call_str_str) hg hm (by decide +kernel) (pa_cons ha pa_nil hs) (he := hs)) fun σ H Q h => ?_
  obtain ⟨α, S, h⟩ := h
  refine ⟨α, S, (rAt.bind (m := evE cal ia) (f := fun x _ => M.opt (strOfD x)) h).imp fun x S1 α1 H1 e1 a1 h1 v tv => ?_⟩
  obtain ⟨z, hz, k⟩ := rAt.opt (o := fun _ => strOfD x) h1
  have hz : strOfD x = some z := hz
  unfold strOfD at hz
  split at hz
  · split at hz
    · rename_i hl
      cases hz
      cases tv
      exact .inl ⟨_, rfl, hl, k α1 H1 (Ext.refl _ _) a1 _ (.str _)⟩
    · cases hz
  · cases hz
    cases tv
    exact .inr ⟨_, rfl, k α1 H1 (Ext.refl _ _) a1 _ (.str _)⟩
  · cases hz
theorem e_join {a b : Expr} {ia ib : E} {apos : Pos} (hK : X.K = g.K) (ha : PE X a (rE g W (evE cal ia))) (hb : PE X b (rE g W (evE cal ib))) (hs : starEach [b] X.env = [(false, eval b X.env)] := by rfl) (hbase : attributeBase a "join" X.env (eval a X.env) = eval a X.env := by rfl) (hline : (apos.endLine == pos.line) = true := by rfl) :
    PE X (.Call (.Attribute a "join" apos) [b] [] pos) (rE g W (evE cal (.join ia ib))) := by
  have h := pe_join (pos := pos) (apos := apos) ha hb hs hbase hline
  rw [hK] at h
  refine pe_imp h fun σ H Q h => ?_
  obtain ⟨α, S, h⟩ := h
  refine ⟨α, S, (rAt.bind (m := evE cal ia) (f := fun x ρ => M.bind (M.opt (strD x)) fun _ => M.bind (evE cal ib ρ) fun y => fun S => M.opt (joinD S x y) S) h).imp fun x S1 α1 H1 e1 a1 h1 v tv => ?_⟩
  obtain ⟨w, hw, k⟩ := (rAt.bind (m := fun _ => M.opt (strD x)) (f := fun _ ρ => M.bind (evE cal ib ρ) fun y => fun S => M.opt (joinD S x y) S) h1).opt
  have hw : strD x = some w := hw
  unfold strD at hw
  split at hw
  · cases hw
    cases tv
    rename_i z
    refine ⟨⟨_, rfl⟩, α1, S1, (rAt.bind (m := evE cal ib) (f := fun y _ => fun S => M.opt (joinD S (.p (.str z)) y) S) (k α1 H1 (Ext.refl _ _) a1)).imp fun y S2 α2 H2 e2 a2 h2 u tu => ?_⟩
    obtain ⟨r, hr, k2⟩ := h2.opt
    unfold joinD at hr
    obtain ⟨ds, q1, hr⟩ := Option.bind_eq_some_iff.mp hr
    obtain ⟨ps, q2, hr⟩ := Option.bind_eq_some_iff.mp hr
    obtain ⟨zs, q3, hr⟩ := Option.bind_eq_some_iff.mp hr
    split at hr
    · rename_i hl
      cases hr
      have fin : ∀ {b : Addr} {xs : List V}, u = .ref b → (SqL g.K H2 b xs ∨ SqT g.K H2 b xs) → TpA g.K H2 ps xs → ∃ a p, ∃ ys : List Str, V.str z = .str a ∧ [u] = [.ref p] ∧ (SqL g.K H2 p (ys.map V.str) ∨ SqT g.K H2 p (ys.map V.str)) ∧ (ys.map (·.length)).sum + ys.length * a.length ≤ 16777216 ∧ Q (.str (Txt.join a ys)) H2 := fun {b xs} e hq tx => by
        have ex := strs_tp tx q3
        subst ex
        exact ⟨z, b, zs, rfl, by rw [e], hq, hl, k2 α2 H2 (Ext.refl _ _) a2 _ (.str _)⟩
      unfold ofD at q1
      split at q1
      · obtain ⟨b, xs, e, h5, h6⟩ := lst_at a2 tu q1
        exact fin e (.inl (SqL.of h5)) (TlA.plain h6 q2)
      · cases q1
        rw [plain_back] at q2
        cases q2
        cases tu with
        | tup hq hx => exact fin rfl (.inr hq.sq) hx
      · cases q1
        rw [plain_back] at q2
        cases q2
        cases tu with
        | lst hq hx => exact fin rfl (.inl hq.sq) hx
      · cases q1
    · cases hr
  · cases hw
theorem e_extend {a b : Expr} {ia ib : E} {apos : Pos} (hK : X.K = g.K) (ha : PE X a (rE g W (evE cal ia))) (hb : PE X b (rE g W (evE cal ib))) (hbase : attributeBase a "extend" X.env (eval a X.env) = eval a X.env := by rfl)
    (hfew : ((backTo pos (starEach [b] X.env)).all (fun x => !x.1) && (backToKw pos (keywordEach [] X.env)).all (fun x => x.1.isSome)
      && decide (([b] : List Expr).length + ([] : List Keyword).length + (if ([] : List Keyword).isEmpty then 0 else 1) < 30)) = true := by rfl)
    (hline : (apos.endLine == pos.line) = true := by rfl) (hs : starEach [b] X.env = (false, eval b X.env) :: starEach [] X.env := by rfl) :
    PE X (.Call (.Attribute a "extend" apos) [b] [] pos) (rE g W (evE cal (.extend ia ib))) := by
  have h := pe_bm PySem.F.plainAttrs_list PySem.F.slot_list_extend PySem.F.type_list_extend mt_extend ha (pa_cons hb pa_nil hs) hbase hfew hline hs
  rw [hK] at h
  refine pe_imp h fun σ H Q h => ?_
  obtain ⟨α, S, h⟩ := h
  refine ⟨α, S, (rAt.bind (m := evE cal ia) (f := fun x ρ => M.bind (fun S => M.opt (lstAt S x) S) fun _ => M.bind (evE cal ib ρ) fun y => extD x y) h).imp fun x S1 α1 H1 e1 a1 h1 v tv => ?_⟩
  obtain ⟨ds, hds, k⟩ := (rAt.bind (m := fun _ => fun S => M.opt (lstAt S x) S) (f := fun _ ρ => M.bind (evE cal ib ρ) fun y => extD x y) h1).opt
  obtain ⟨b0, xs0, rfl, h5, h6⟩ := lst_at a1 tv hds
  refine ⟨.inl ⟨rfl, _, SqL.of h5⟩, α1, S1, (rAt.bind (m := evE cal ib) (f := fun y _ => extD x y) (k α1 H1 (Ext.refl _ _) a1)).imp fun y S2 α2 H2 e2 a2 h2 u tu => ?_⟩
  obtain ⟨ρ, a, r, w⟩ := h2
  have tv := tv.ext e2 a1
  cases x with
  | p _ => exact (show False from w).elim
  | fn _ => exact (show False from w).elim
  | ref j =>
    unfold extD at w
    cases ej : S2[j]? with
    | none => simp only [ej] at w; exact w.elim
    | some o =>
      cases o with
      | dic _ => simp only [ej] at w; exact w.elim
      | lst ds =>
        cases ey : lstAt S2 y with
        | none => simp only [ej, ey] at w; exact w.elim
        | some es =>
          simp only [ej, ey] at w
          by_cases hb : es.all (rb j) = true ∧ ds.length + es.length ≤ 100000
          · rw [if_pos hb] at w
            obtain ⟨b1, xs, h7, h8, h9⟩ := At.lst a2 ej
            obtain ⟨b3, zs, eu, h10, h11⟩ := lst_at a2 tu ey
            obtain ⟨b2, h7', e⟩ := tv
            cases e
            rw [h7] at h7'
            cases h7'
            subst eu
            refine ⟨b0, b3, xs, zs, rfl, rfl, h8, h10, by rw [← Paired.length h9, ← Paired.length h11, sizeLine_eq]; omega, ?_⟩
            have hw := a2.wf j _ ej
            have hb2 : rbO j (.lst (ds ++ es)) = true := by
              have hw : ds.all (rb j) = true := hw
              show (ds ++ es).all (rb j) = true
              rw [List.all_append, Bool.and_eq_true]
              exact ⟨hw, hb.1⟩
            obtain ⟨e6, a6⟩ := At.upd a2 h7 hb2 (u := .lst (xs ++ zs)) fun H' kt hu => ⟨_, hu, Paired.app (Paired.mapP h9 fun _ _ q => q.keep kt) (Paired.mapP h11 fun _ _ q => q.keep kt)⟩
            exact w α2 _ e6 a6 .non .non
          · rw [if_neg hb] at w
            exact w.elim
theorem paired_take {A B : Type} {F : A → B → Prop} : ∀ {l : List A} {m : List B} (n : Nat), Paired F l m → Paired F (l.take n) (m.take n)
  | _, _, 0, _ => by simp; exact .nil
  | _, _, _ + 1, .nil => .nil
  | _, _, n + 1, .cons a b => .cons a (paired_take n b)
theorem paired_drop {A B : Type} {F : A → B → Prop} : ∀ {l : List A} {m : List B} (n : Nat), Paired F l m → Paired F (l.drop n) (m.drop n)
  | _, _, 0, h => h
  | _, _, _ + 1, .nil => .nil
  | _, _, n + 1, .cons _ b => paired_drop n b
theorem l_cut {a : Expr} {ia : E} {lo hi : Option Expr} {l h : Bd} {p2 : Pos} (hK : X.K = g.K) (ha : PE X a (rE g W (evE cal ia))) (hl : PO X lo (rB g W (evB cal l))) (hh : PO X hi (rB g W (evB cal h))) : PE X (.Subscript a (.Slice lo hi none p2) pos) (rLn g W (evL cal (.cut ia l h))) := by
  have s1 := sl_list (X := X)
  rw [hK] at s1
  refine pe_imp (pe_slice s1 ha hl hh) fun σ H Q q => ?_
  obtain ⟨α, S, ρ, a0, r, w⟩ := q
  have w : wp (M.bind (evE cal ia ρ) (fun x => M.bind (evB cal l ρ) fun u => M.bind (evB cal h ρ) fun v => fun S => M.opt (cutLD S x u v) S) S) _ _ := w
  refine ⟨α, S, ρ, a0, r, wp_mono (wp_bind w) (fun x S1 h1 α1 H1 e1 a1 v tv => ⟨α1, S1, ρ, a1, r.ext e1 a0, wp_mono (wp_bind h1) (fun u S2 h2 α2 H2 e2 a2 => ⟨α2, S2, ρ, a2, (r.ext e1 a0).ext e2 a1, wp_mono (wp_bind h2) (fun t S3 h3 α3 H3 e3 a3 => ?_) fun x S4 z cls dx α4 H4 e4 a4 t => z cls dx α4 H4 ((e1.trans e2).trans e4) a4 t⟩) fun x S3 z cls dx α3 H3 e3 a3 t => z cls dx α3 H3 (e1.trans e3) a3 t⟩) fun _ _ z => z⟩
  cases e : cutLD S3 x u t with
  | none => simp only [M.opt, e] at h3; exact h3.elim
  | some ds =>
    simp only [M.opt, e] at h3
    obtain ⟨d1, q1, e5⟩ := Option.map_eq_some_iff.mp e
    subst e5
    obtain ⟨b1, xs, rfl, h5, h6⟩ := lst_at a3 ((tv.ext e2 a1).ext e3 a2) q1
    refine ⟨b1, xs, rfl, SqL.of h5, fun p hp => ?_⟩
    have e123 := (e1.trans e2).trans e3
    obtain ⟨e4, a4⟩ := At.fresh a3 hp (u := .lst (cutV xs u t))
    refine h3 α3 _ (e123.trans e4) a4 p _ (e123.none a3 hp) (a3.notin hp) upd_same ?_
    have hx := TlA.ext e4 a3 h6
    unfold cutD cutV
    rw [Paired.length h6]
    exact paired_take _ (paired_drop _ hx)
end
end Ir
set_option Elab.async false
set_option maxRecDepth 100000
set_option maxHeartbeats 4000001
/-! Short words: one rule a sign. -/
namespace Ir
open PySem L2 PySem.Spec PyProof.Rows
section
variable {X : Cx} {g : Gc} {W : WX} {cal : Nat → List D → M D} {pos : Pos} {a b c : Expr} {ia ib ic : E} {CX : CXT} {k : Nat}
theorem e_add (G : Gd X g W CX cal k) (ha : PE X a (rE g W (evE cal ia))) (hb : PE X b (rE g W (evE cal ib))) : PE X (.BinOp a .Add b pos) (rE g W (evE cal (.bin .add ia ib))) := by
  have h := (op_add (X := X).or op_add_str).or op_catF
  rw [G.K] at h
  exact e_bin h o_add ha hb
theorem e_sub (G : Gd X g W CX cal k) (ha : PE X a (rE g W (evE cal ia))) (hb : PE X b (rE g W (evE cal ib))) : PE X (.BinOp a .Sub b pos) (rE g W (evE cal (.bin .sub ia ib))) := e_bin op_sub o_sub ha hb
theorem e_mul (G : Gd X g W CX cal k) (ha : PE X a (rE g W (evE cal ia))) (hb : PE X b (rE g W (evE cal ib))) : PE X (.BinOp a .Mult b pos) (rE g W (evE cal (.bin .mul ia ib))) := e_bin op_mul o_mul ha hb
theorem e_fdiv (G : Gd X g W CX cal k) (ha : PE X a (rE g W (evE cal ia))) (hb : PE X b (rE g W (evE cal ib))) : PE X (.BinOp a .FloorDiv b pos) (rE g W (evE cal (.bin .fdiv ia ib))) := e_bin op_fdivW o_fdiv ha hb
theorem e_mod (G : Gd X g W CX cal k) (ha : PE X a (rE g W (evE cal ia))) (hb : PE X b (rE g W (evE cal ib))) : PE X (.BinOp a .Mod b pos) (rE g W (evE cal (.bin .mod ia ib))) := e_bin op_mod o_mod ha hb
theorem e_pow (G : Gd X g W CX cal k) (ha : PE X a (rE g W (evE cal ia))) (hb : PE X b (rE g W (evE cal ib))) : PE X (.BinOp a .Pow b pos) (rE g W (evE cal (.bin .pow ia ib))) := e_bin op_pow o_pow ha hb
/-- what an operator of comparison is here -/
structure Cmp (X : Cx) (g : Gc) (op : CmpOp) (o : COp) : Prop where
  ex : ∃ r, OpR X (compareOp op) r ∧ OpC g o r
theorem c_lt (_ : Gd X g W CX cal k) : Cmp X g .Lt .lt := ⟨_, op_lt, o_lt⟩
theorem c_le (_ : Gd X g W CX cal k) : Cmp X g .LtE .le := ⟨_, op_le, o_le⟩
theorem c_gt (_ : Gd X g W CX cal k) : Cmp X g .Gt .gt := ⟨_, op_gt, o_gt⟩
theorem c_ge (_ : Gd X g W CX cal k) : Cmp X g .GtE .ge := ⟨_, op_ge, o_ge⟩
theorem c_eq (G : Gd X g W CX cal k) : Cmp X g .Eq .eq := by
  have h := (op_eq (X := X)).or (op_eqD G.hu)
  rw [G.K] at h
  exact ⟨_, h, o_eq⟩
theorem c_ne (G : Gd X g W CX cal k) : Cmp X g .NotEq .ne := by
  have h := (op_ne (X := X)).or (op_neD G.hu)
  rw [G.K] at h
  exact ⟨_, h, o_ne⟩
theorem op_in_dK (hu : X.A.units + 1 < cLine) : OpR X (compareOp .In) (fun x y H Q => ∃ b ws k, y = .ref b ∧ x = kV k ∧ H b = some (.dK ws) ∧ Q (.bl (if false then !(valV ws k).isSome else (valV ws k).isSome)) H) := by
  intro pins s σ H x y v u Q I rx ry h
  obtain ⟨b, ws, k, rfl, rfl, hb, q⟩ := h
  cases ry
  exact d_in hu I (.k hb) rx fun s' I' => ⟨.bl _, H, I', rfl, by simpa using q⟩
theorem op_notin_dK (hu : X.A.units + 1 < cLine) : OpR X (compareOp .NotIn) (fun x y H Q => ∃ b ws k, y = .ref b ∧ x = kV k ∧ H b = some (.dK ws) ∧ Q (.bl (if true then !(valV ws k).isSome else (valV ws k).isSome)) H) := by
  intro pins s σ H x y v u Q I rx ry h
  obtain ⟨b, ws, k, rfl, rfl, hb, q⟩ := h
  cases ry
  exact d_notIn hu I (.k hb) rx fun s' I' => ⟨.bl _, H, I', rfl, by simpa using q⟩
theorem c_in (G : Gd X g W CX cal k) : Cmp X g .In .in_ := by
  have h := (((op_in_str (X := X)).or op_in_seq).or (op_in_dK (by have := G.hu; omega))).or (op_inD (by have := G.room.un; omega))
  rw [G.K] at h
  exact ⟨_, h, o_in⟩
theorem c_notin (G : Gd X g W CX cal k) : Cmp X g .NotIn .notin := by
  have h := (((op_notin_str (X := X)).or op_notIn_seq).or (op_notin_dK (by have := G.hu; omega))).or (op_notInD (by have := G.room.un; omega))
  rw [G.K] at h
  exact ⟨_, h, o_notin⟩
theorem c_is (_ : Gd X g W CX cal k) : Cmp X g .Is .is_ := ⟨_, (op_isBl (X := X)).or op_isN, o_is⟩
theorem c_isnot (_ : Gd X g W CX cal k) : Cmp X g .IsNot .isnot := ⟨_, (op_isnot_bl (X := X)).or op_notN, o_isnot⟩
theorem e_c {op : CmpOp} {o : COp} (C : Cmp X g op o) (ha : PE X a (rE g W (evE cal ia))) (hb : PE X b (rE g W (evE cal ib))) (hm : behindInMarks op b = false := by first | exact nomark _ (by decide) (by decide) | rfl) :
    PE X (.Compare a [op] [b] pos) (rE g W (evE cal (.cmp o ia ib))) := let ⟨_, h1, h2⟩ := C.ex; e_cmp h1 h2 ha hb hm
theorem t_c {op : CmpOp} {o : COp} (C : Cmp X g op o) (ha : PE X a (rE g W (evE cal ia))) (hb : PE X b (rE g W (evE cal ib))) (hm : behindInMarks op b = false := by first | exact nomark _ (by decide) (by decide) | rfl) :
    PT X (.Compare a [op] [b] pos) (rT g W (evE cal (.cmp o ia ib))) := let ⟨_, h1, h2⟩ := C.ex; t_cmp h1 h2 ha hb hm
theorem e_ch {op op' : CmpOp} {o o' : COp} (C : Cmp X g op o) (C' : Cmp X g op' o') (ha : PE X a (rE g W (evE cal ia))) (hb : PE X b (rE g W (evE cal ib))) (hc : PE X c (rE g W (evE cal ic))) (hm : lastMarks [op, op'] [b, c] = false := by with_unfolding_all rfl) :
    PE X (.Compare a [op, op'] [b, c] pos) (rE g W (evE cal (.chain o o' ia ib ic))) := let ⟨_, h1, h2⟩ := C.ex; let ⟨_, h3, h4⟩ := C'.ex; e_chain h1 h3 h2 h4 ha hb hc hm
theorem t_ch {op op' : CmpOp} {o o' : COp} (C : Cmp X g op o) (C' : Cmp X g op' o') (ha : PE X a (rE g W (evE cal ia))) (hb : PE X b (rE g W (evE cal ib))) (hc : PE X c (rE g W (evE cal ic))) (hm : lastMarks [op, op'] [b, c] = false := by with_unfolding_all rfl) :
    PT X (.Compare a [op, op'] [b, c] pos) (rT g W (evE cal (.chain o o' ia ib ic))) := let ⟨_, h1, h2⟩ := C.ex; let ⟨_, h3, h4⟩ := C'.ex; t_chain h1 h3 h2 h4 ha hb hc hm
end
end Ir
set_option Elab.async false
set_option linter.all false
set_option maxRecDepth 100000
set_option maxHeartbeats 4000001
/-! More of the small language: stores into dicts, dict displays, get with a default, operations by values. -/
namespace Ir
open PySem L2 PySem.Spec PyProof.Rows
section
variable {X : Cx} {g : Gc} {W : WX} {cal : Nat → List D → M D} {pos : Pos}
/-! ### o[i] = v of lists and dicts -/
theorem PSet.or {X : Cx} {t t' : TSet} (h : PSet X t) (h' : PSet X t') : PSet X (fun o i v H Q => t o i v H Q ∨ t' o i v H Q) := by
  intro pins s σ H o i v ov iv u Q I r1 r2 r3 q
  rcases q with q | q
  · exact h pins s σ H o i v ov iv u Q I r1 r2 r3 q
  · exact h' pins s σ H o i v ov iv u Q I r1 r2 r3 q
theorem rb_put {n : Nat} {k : Key} {d : D} (hd : rb n d = true) : ∀ {kvs : List (Key × D)}, (kvs.all fun kv => rb n kv.2) = true → ((putD kvs k d).all fun kv => rb n kv.2) = true := by
  intro kvs h
  rw [List.all_eq_true] at h ⊢
  unfold putD
  intro x hx
  split at hx
  · obtain ⟨y, hy, e⟩ := List.mem_map.mp hx
    split at e
    · subst e; exact hd
    · subst e; exact h _ hy
  · rcases List.mem_append.mp hx with z | z
    · exact h _ z
    · rw [List.mem_singleton] at z; subst z; exact hd
theorem put_dic {α : List Addr} {H : Hp} {S : Sto} {j : Nat} {kvs : List (Key × D)} {key : Key} {d : D} {v y : V} {u : V} (a3 : g.At α H S) (ej : S[j]? = some (.dic kvs)) (tu : g.Tl α H (.ref j) u) (tv : g.Tl α H d v) (ey : y = kV key) (hb : rb j d = true ∧ kvs.length ≤ 1000)
    {Q : Hp → Prop} (h3 : ∀ H', Ext α α H H' → g.At α H' (S.set j (.dic (putD kvs key d))) → Q H') : rSetD u y v H Q := by
  subst ey
  obtain ⟨b, ws, h4, h5, h6⟩ := At.dic a3 ej
  obtain ⟨b', h4', rfl⟩ := tu
  rw [h4] at h4'
  cases h4'
  refine ⟨b, _, rfl, DPut.k h5 (by rw [← Paired.length h6, sizeLine_eq]; omega), ?_⟩
  have hw := a3.wf j _ ej
  have hb2 : rbO j (.dic (putD kvs key d)) = true := rb_put hb.1 hw
  obtain ⟨e6, a6⟩ := At.upd a3 h4 hb2 (u := .dK (putK ws key v)) fun H' kt hu => ⟨_, hu, dp_put (tv.keep kt) (Paired.mapP h6 fun _ _ q => ⟨q.1, q.2.keep kt⟩)⟩
  exact h3 _ e6 a6
theorem s_setI {o i v : Expr} {io ii iv : E} {tpos : Pos} {CX : CXT} {kk : Nat} (G : Gd X g W CX cal kk) (hv : PE X v (rE g W (evE cal iv))) (ho : PE X o (rE g W (evE cal io))) (hi : PE X i (rE g W (evE cal ii)))
    (ha : ∀ v, assign (.Subscript o i tpos) X.env v = (do
      let ov ← holding [v] (eval o X.env)
      let iv ← holding [v, ov] (eval i X.env)
      standAt tpos
      holding [v, ov, iv] (setItem ov iv v)
      release [v, ov, iv] []) := by intro _; rfl)
    (hs : swapsWithSole [.Subscript o i tpos] v pos.line X.env = pure false := by rfl) (hw : swappedStores [.Subscript o i tpos] v X.env = pure none := by rfl)
    (h1 : (assignEach [.Subscript o i tpos] X.env).map (·.2) = [assign (.Subscript o i tpos) X.env] := by rfl) : PS X (.Assign [.Subscript o i tpos] v pos) (rS g W (exS cal (.setI io ii iv))) :=
  ps_imp (ps_asg hv (pg_sub ho hi (PSet.or set_list (set_dict (by have := G.hu; omega))) ha) hs hw h1) fun D σ H h => by
    obtain ⟨α, S, h⟩ := h
    refine ⟨α, S, (sAt.bind (m := evE cal iv) (f := fun d ρ => M.bind (evE cal io ρ) fun x => M.bind (evE cal ii ρ) fun y => M.bind (setD x y d) fun _ => M.pure (.next, ρ)) h).imp fun d S1 α1 H1 e1 a1 h1 v tv =>
      ⟨α1, S1, (sAt.bind (m := evE cal io) (f := fun x ρ => M.bind (evE cal ii ρ) fun y => M.bind (setD x y d) fun _ => M.pure (.next, ρ)) h1).imp fun x S2 α2 H2 e2 a2 h2 u tu =>
        ⟨α2, S2, (sAt.bind (m := evE cal ii) (f := fun y ρ => M.bind (setD x y d) fun _ => M.pure (.next, ρ)) h2).imp fun y S3 α3 H3 e3 a3 h3 z tz => ?_⟩⟩⟩
    obtain ⟨ρ, a, r, h3⟩ := h3
    have tu := tu.ext e3 a2
    have tv := (tv.ext e2 a1).ext e3 a2
    unfold setD at h3
    cases x with
    | p _ => exact h3.elim
    | fn _ => exact h3.elim
    | ref j =>
      cases y with
      | ref _ => exact h3.elim
      | fn _ => exact h3.elim
      | p y =>
        cases y with
        | int k =>
          cases tz
          cases ej : S3[j]? with
          | none => simp only [M.bind, ej] at h3; exact h3.elim
          | some ob =>
            cases ob with
            | dic kvs =>
              simp only [M.bind, ej] at h3
              by_cases hb : rb j d = true ∧ kvs.length ≤ 1000
              · rw [if_pos hb] at h3
                exact .inr (put_dic a3 ej tu tv rfl hb fun H' e6 a6 => h3 α3 _ σ e6 a6 (r.ext e6 a3))
              · rw [if_neg hb] at h3
                exact h3.elim
            | lst ds =>
              simp only [M.bind, ej] at h3
              cases ei : ixN ds.length k with
              | none => simp only [ei] at h3; exact h3.elim
              | some n =>
                simp only [ei] at h3
                by_cases hb : rb j d = true
                · simp only [hb, if_true] at h3
                  obtain ⟨b, xs, h4, h5, h6⟩ := At.lst a3 ej
                  obtain ⟨b', h4', rfl⟩ := tu
                  rw [h4] at h4'
                  cases h4'
                  refine .inl ⟨b, xs, k, n, rfl, rfl, h5, by rw [← Paired.length h6]; exact ei, ?_⟩
                  have hw := a3.wf j _ ej
                  have hb2 : rbO j (.lst (ds.set n d)) = true := by
                    unfold rbO at hw ⊢
                    rw [List.all_eq_true] at hw ⊢
                    intro q hq
                    rcases List.mem_or_eq_of_mem_set hq with z | z
                    · exact hw q z
                    · rw [z]; exact hb
                  obtain ⟨e6, a6⟩ := At.upd a3 h4 hb2 (u := .lst (xs.set n v)) fun H' kt hu => ⟨_, hu, Paired.setAt (tv.keep kt) n (Paired.mapP h6 fun _ _ q => q.keep kt)⟩
                  exact h3 α3 _ σ e6 a6 (r.ext e6 a3)
                · simp only [hb] at h3
                  exact h3.elim
        | none => exact h3.elim
        | bool _ => exact h3.elim
        | str k =>
          cases tz
          cases ej : S3[j]? with
          | none => simp only [M.bind, ej] at h3; exact h3.elim
          | some ob =>
            cases ob with
            | lst _ => simp only [M.bind, ej] at h3; exact h3.elim
            | dic kvs =>
              simp only [M.bind, ej] at h3
              by_cases hb : rb j d = true ∧ kvs.length ≤ 1000
              · rw [if_pos hb] at h3
                exact .inr (put_dic a3 ej tu tv rfl hb fun H' e6 a6 => h3 α3 _ σ e6 a6 (r.ext e6 a3))
              · rw [if_neg hb] at h3
                exact h3.elim
        | list _ => exact h3.elim
        | tuple _ => exact h3.elim
        | dict _ => exact h3.elim

/-! ### dict displays -/
/-- from an equal reading in a heap that has one object more, which the store does not know -/
theorem shiftA {ms : Sl → M (List D)} {α : List Addr} {S : Sto} {σ : L2.St} {H : Hp} {p : Addr} {u : HO} {k : List D → Sto → List Addr → Hp → Prop} (hp : H p = none) (h : rAt g W α S ms σ H k) :
    rAt g W α S ms σ (L2.upd H p u) (fun ds S' α' H' => p ∉ α' ∧ H' p = some u ∧ Ext α α' H H' ∧ k ds S' α' H') := by
  obtain ⟨ρ, a, r, w⟩ := h
  obtain ⟨e1, a1⟩ := At.fresh a hp (u := u)
  have np := a.notin hp
  refine ⟨ρ, a1, r.ext e1 a, wp_mono w (fun ds S' q α' H' e2 a2 => ⟨Ext.notin e2 upd_same np, e2.keep p u upd_same np, e1.trans e2, q α' H' (e1.trans e2) a2⟩) fun x S' z cls dx α' H' e2 a2 t => z cls dx α' H' (e1.trans e2) a2 t⟩
/-- the pairs of a display whose keys are written texts -/
structure PDl (X : Cx) (g : Gc) (W : WX) (cal : Nat → List D → M D) (pos : Pos) (keys : List (Option Expr)) (vals : List Expr) (ks : List Str) (is : Es) : Prop where
  ex : ∃ trs, PPs X pos keys vals trs ∧ ∀ σ H (Q : List (V × V) → Hp → Prop), rA g W (evEs cal is) σ H (fun vs H' => Q ((ks.map V.str).zip vs) H') → tPairs trs σ H Q
theorem d_nil : PDl X g W cal pos [] [] [] .nil := ⟨[], pps_nil, fun σ H Q h => by
  obtain ⟨α, S, h⟩ := h
  exact h.here α H (Ext.refl _ _) h.at_ [] .nil⟩
theorem d_cons {z : Str} {j : Nat} {kp : Pos} {keys : List (Option Expr)} {v : Expr} {vs : List Expr} {ks : List Str} {i : E} {is : Es} (hv : PE X v (rE g W (evE cal i))) (hr : PDl X g W cal pos keys vs ks is) :
    PDl X g W cal pos (some (.Constant (.str z) j kp) :: keys) (v :: vs) (z :: ks) (.cons i is) := by
  obtain ⟨trs, h1, h2⟩ := hr.ex
  refine ⟨_, pps_cons pe_str hv h1, fun σ H Q h => ?_⟩
  obtain ⟨α, S, h⟩ := h
  refine ⟨α, S, (rAt.bind (m := evE cal i) (f := fun d ρ => M.bind (evEs cal is ρ) fun ds => M.pure (d :: ds)) h).imp fun d S1 α1 H1 e1 a1 h1 v tv => h2 _ _ _ ⟨α1, S1, (rAt.bind (m := evEs cal is) (f := fun ds _ => M.pure (d :: ds)) h1).imp fun ds S2 α2 H2 e2 a2 h3 vs tvs => ?_⟩⟩
  exact h3.here α2 H2 (Ext.refl _ _) a2 (v :: vs) (.cons (tv.ext e2 a1) tvs)
theorem dp_zip {α : List Addr} {H : Hp} : ∀ {ks : List Str} {ds : List D} {vs : List V}, g.TlA α H ds vs → DP g α H ((ks.map Sum.inr).zip ds) ((ks.map Sum.inr).zip vs)
  | [], _, _, _ => by simp; exact .nil
  | _ :: _, _, _, .nil => by simp; exact .nil
  | k :: ks, _, _, .cons a b => .cons ⟨rfl, a⟩ (dp_zip b)
theorem zip_kV : ∀ {ks : List Str} {vs : List V}, (ks.map V.str).zip vs = (((ks.map (Sum.inr : Str → Key)).zip vs).map fun kv => (kV kv.1, kv.2))
  | [], _ => rfl
  | _ :: _, [] => rfl
  | k :: ks, v :: vs => by
    rw [List.map_cons, List.map_cons, List.zip_cons_cons, List.zip_cons_cons, List.map_cons, zip_kV]
    rfl
theorem rb_merge {n : Nat} : ∀ {more kvs : List (Key × D)}, (more.all fun kv => rb n kv.2) = true → (kvs.all fun kv => rb n kv.2) = true → ((more.foldl (fun acc kv => putD acc kv.1 kv.2) kvs).all fun kv => rb n kv.2) = true
  | [], _, _, h => h
  | kv :: more, kvs, h1, h2 => by
    rw [List.all_cons, Bool.and_eq_true] at h1
    exact rb_merge (more := more) h1.2 (rb_put h1.1 h2)
theorem e_dlit {keys : List (Option Expr)} {vals : List Expr} {ks : List Str} {is : Es} (h : PDl X g W cal pos keys vals ks is) (hall : keys.all (·.isSome) = true := by rfl) (hl : keys.length = vals.length := by rfl) (h0 : keys ≠ [] := by exact fun h => nomatch h)
    (h15 : keys.length ≤ 15 := by decide) : PE X (.Dict keys vals pos) (rE g W (evE cal (.dlit ks is))) := by
  obtain ⟨trs, h1, h2⟩ := h.ex
  refine pe_imp (pe_disp h1 hall hl h0 h15) fun σ H Q q p hp => ?_
  obtain ⟨α, S, ρ, a, r, w⟩ := q
  have w : wp (M.bind (evEs cal is ρ) (fun ds => M.bind (M.opt (dlitD ks ds)) fun kvs => alloc (.dic kvs)) S) _ _ := w
  obtain ⟨e0, a0⟩ := At.fresh a hp (u := .dK [])
  refine h2 _ _ _ ⟨α, S, ρ, a0, r.ext e0 a, wp_mono (wp_bind w) (fun ds S1 h3 α1 H1 e1 a1 vs tvs => ?_) fun x S' z cls dx α' H' e2 a2 t => z cls dx α' H' (e0.trans e2) a2 t⟩
  have np : p ∉ α1 := Ext.notin e1 upd_same (a.notin hp)
  have hu : H1 p = some (.dK []) := e1.keep p _ upd_same (a.notin hp)
  cases hk : dlitD ks ds with
  | none => simp only [M.bind, M.opt, hk] at h3; exact h3.elim
  | some kvs =>
    simp only [M.bind, M.opt, hk] at h3
    unfold dlitD at hk
    split at hk
    · rename_i hc
      cases hk
      have hlen : vs.length = ds.length := (Paired.length tvs).symm
      refine ⟨hu, (ks.map Sum.inr).zip vs, zip_kV, by rw [List.length_zip, List.length_map]; omega, ?_⟩
      unfold alloc at h3
      by_cases hb : rbO S1.length (.dic (mergeD ((ks.map Sum.inr).zip ds))) = true
      · simp only [hb, if_true] at h3
        have kt : KT H1 (L2.upd H1 p (.dK (mergeK [] ((ks.map Sum.inr).zip vs)))) := KT.soft hu (by exact True.intro)
        have a2 := At.apartS a1 hu (u := .dK (mergeK [] ((ks.map Sum.inr).zip vs))) (by exact True.intro) np
        have tvs2 : g.TlA α1 (L2.upd H1 p (.dK (mergeK [] ((ks.map Sum.inr).zip vs)))) ds vs := Paired.mapP tvs fun _ _ q => q.keep kt
        obtain ⟨a3, pre⟩ := At.take_in a2 np (o := .dic (mergeD ((ks.map Sum.inr).zip ds))) ⟨_, upd_same, dp_merge (dp_zip tvs2) .nil⟩ hb
        have e01 := e0.trans e1
        refine h3 (α1 ++ [p]) _ ⟨fun i b h => pre i b (e01.pre i b h), fun b o hbo hn => ?_, fun b hbm => ?_⟩ a3 _ ⟨p, ?_, rfl⟩
        · rw [upd_ne (fun e => by rw [e, hp] at hbo; cases hbo)]
          exact e01.keep b o hbo hn
        · rcases List.mem_append.mp hbm with z | z
          · exact e01.new b z
          · rw [List.mem_singleton] at z
            rw [z]
            exact .inr hp
        · rw [← a1.len, List.getElem?_append_right (Nat.le_refl _)]
          simp
      · simp only [hb] at h3
        exact h3.elim
    · cases hk
theorem e_dget3 {a b c : Expr} {ia ib ic : E} {apos : Pos} {CX : CXT} {k : Nat} (G : Gd X g W CX cal k) (ha : PE X a (rE g W (evE cal ia))) (hb : PE X b (rE g W (evE cal ib))) (hc : PE X c (rE g W (evE cal ic))) (m : M2 X a "get" apos b c pos := by exact ⟨rfl, rfl, rfl, rfl⟩) :
    PE X (.Call (.Attribute a "get" apos) [b, c] [] pos) (rE g W (evE cal (.dget3 ia ib ic))) := pe_imp (pe_dget2 (by have := G.hu; omega) ha hb hc m) fun σ H Q h => by
  obtain ⟨α, S, h⟩ := h
  refine ⟨α, S, (rAt.bind (m := evE cal ia) (f := fun x ρ => M.bind (fun S => M.opt (dicAt S x) S) fun _ => M.bind (evE cal ib ρ) fun y => M.bind (evE cal ic ρ) fun w => fun S => M.opt (dget3D S x y w) S) h).imp fun x S1 α1 H1 e1 a1 h1 v tv => ?_⟩
  obtain ⟨kvs, hds, k⟩ := (rAt.bind (m := fun _ => fun S => M.opt (dicAt S x) S) (f := fun _ ρ => M.bind (evE cal ib ρ) fun y => M.bind (evE cal ic ρ) fun w => fun S => M.opt (dget3D S x y w) S) h1).opt
  obtain ⟨b0, ws0, rfl, h5, h6⟩ := dic_at a1 tv hds
  refine ⟨b0, rfl, .inl ⟨ws0, .inl h5⟩, α1, S1, (rAt.bind (m := evE cal ib) (f := fun y ρ => M.bind (evE cal ic ρ) fun w => fun S => M.opt (dget3D S x y w) S) (k α1 H1 (Ext.refl _ _) a1)).imp fun y S2 α2 H2 e2 a2 h2 u tu =>
    ⟨α2, S2, (rAt.bind (m := evE cal ic) (f := fun w _ => fun S => M.opt (dget3D S x y w) S) h2).imp fun w S3 α3 H3 e3 a3 h3 t tt => ?_⟩⟩
  obtain ⟨z, hz, k2⟩ := h3.opt
  obtain ⟨kv2, q1, hz⟩ := Option.bind_eq_some_iff.mp hz
  obtain ⟨key, q2, hz⟩ := Option.map_eq_some_iff.mp hz
  subst hz
  obtain ⟨b1, ws, e, h7, h8⟩ := dic_at a3 ((tv.ext e2 a1).ext e3 a2) q1
  cases e
  rw [key_V tu q2]
  refine ⟨valV ws key, .k h7, k2 α3 H3 (Ext.refl _ _) a3 _ ?_⟩
  have vo := val_of (k := key) h8
  revert vo
  cases valD kv2 key <;> cases valV ws key <;> intro vo
  · exact tt
  · exact vo.elim
  · exact vo.elim
  · exact vo
/-! ### operations by values -/
theorem e_op2 {op : Operator} {f : Sto → D → D → Option D} {r : R2} {a b : Expr} {ia ib : E} (ho : OpR X (binaryOp op) r) (oo : Op2 g f r) (ha : PE X a (rE g W (evE cal ia))) (hb : PE X b (rE g W (evE cal ib))) :
    PE X (.BinOp a op b pos) (rE g W (evE cal (.op2 f ia ib))) := pe_imp (pe_op ho ha hb) fun _ _ _ h => tOp_of oo h
/-- a slice of a list, a tuple or a text -/
theorem e_slp {a : Expr} {ia : E} {lo hi : Option Expr} {l h : Bd} {p2 : Pos} (hK : X.K = g.K) (ha : PE X a (rE g W (evE cal ia))) (hl : PO X lo (rB g W (evB cal l))) (hh : PO X hi (rB g W (evB cal h))) : PE X (.Subscript a (.Slice lo hi none p2) pos) (rE g W (evE cal (.slp ia l h))) := by
  have s1 := SlR.or (SlR.or (sl_tupF (X := X)) sl_str) sl_list
  rw [hK] at s1
  refine pe_imp (pe_slice s1 ha hl hh) fun σ H Q q => ?_
  obtain ⟨α, S, q⟩ := q
  refine ⟨α, S, (rAt.bind (m := evE cal ia) (f := fun x ρ => M.bind (evB cal l ρ) fun u => M.bind (evB cal h ρ) fun w => match x with
    | .ref j => M.bind (fun S => M.opt (cutLD S (.ref j) u w) S) fun ds => alloc (.lst ds)
    | x => M.opt (sliceD x u w)) q).imp fun x S1 α1 H1 e1 a1 h1 v tv => ?_⟩
  refine ⟨α1, S1, (rAt.bind (m := evB cal l) (f := fun u ρ => M.bind (evB cal h ρ) fun w => match x with
    | .ref j => M.bind (fun S => M.opt (cutLD S (.ref j) u w) S) fun ds => alloc (.lst ds)
    | x => M.opt (sliceD x u w)) h1).imp fun u S2 α2 H2 e2 a2 h2 => ?_⟩
  refine ⟨α2, S2, (rAt.bind (m := evB cal h) (f := fun w _ => match x with
    | .ref j => M.bind (fun S => M.opt (cutLD S (.ref j) u w) S) fun ds => alloc (.lst ds)
    | x => M.opt (sliceD x u w)) h2).imp fun w S3 α3 H3 e3 a3 h3 => ?_⟩
  have tv := (tv.ext e2 a1).ext e3 a2
  have plainC : ∀ x : D, g.Tl α3 H3 x v → rAt g W α3 S3 (fun _ => fun S => M.opt (sliceD x u w) S) σ H3 (fun d _ α' H' => ∀ v, g.Tl α' H' d v → Q v H') → (rSlF g.K v u w H3 Q ∨ rSlS v u w H3 Q) ∨ rSlL g.K v u w H3 Q := fun x tv h3 => by
    obtain ⟨z, hz, k⟩ := (rAt.opt (o := fun _ => sliceD x u w) h3)
    exact .inl (slice_of a3 tv hz k)
  cases x with
  | p d => exact plainC _ tv h3
  | fn i => exact plainC _ tv h3
  | ref j =>
    obtain ⟨ρ, _, r, q3⟩ := h3
    have q3 : wp (M.bind (fun S => M.opt (cutLD S (.ref j) u w) S) (fun ds => alloc (.lst ds)) S3) _ _ := q3
    cases e : cutLD S3 (.ref j) u w with
    | none => simp only [M.bind, M.opt, e] at q3; exact q3.elim
    | some ds =>
      simp only [M.bind, M.opt, e] at q3
      obtain ⟨d1, q1, e5⟩ := Option.map_eq_some_iff.mp e
      subst e5
      obtain ⟨b1, xs, rfl, h5, h6⟩ := lst_at a3 tv q1
      refine .inr ⟨b1, xs, rfl, SqL.of h5, fun p hp => ?_⟩
      obtain ⟨e4, a4⟩ := At.fresh a3 hp (u := .lst (cutV xs u w))
      have hx := TlA.ext e4 a3 h6
      have hc : g.TlA α3 (L2.upd H3 p (.lst (cutV xs u w))) (cutD d1 u w) (cutV xs u w) := by
        unfold cutD cutV
        rw [Paired.length h6]
        exact paired_take _ (paired_drop _ hx)
      unfold alloc at q3
      by_cases hb : rbO S3.length (.lst (cutD d1 u w)) = true
      · simp only [hb, if_true] at q3
        obtain ⟨a5, pre⟩ := At.take_in a4 (a3.notin hp) (o := .lst (cutD d1 u w)) ⟨_, upd_same, hc⟩ hb
        refine q3 (α3 ++ [p]) _ ⟨fun i b h => pre i b (e4.pre i b h), e4.keep, fun b hbm => ?_⟩ a5 _ ⟨p, ?_, rfl⟩
        · rcases List.mem_append.mp hbm with z | z
          · exact e4.new b z
          · rw [List.mem_singleton] at z
            rw [z]
            exact .inr hp
        · rw [← a3.len, List.getElem?_append_right (Nat.le_refl _)]
          simp
      · simp only [hb] at q3
        exact q3.elim
end
end Ir
set_option Elab.async false
set_option linter.all false
set_option maxRecDepth 100000
set_option maxHeartbeats 4000001
/-! Stars in displays, f-strings, truth, += of lists, d[k], one comprehension within another. -/
namespace Ir
open PySem L2 PySem.Spec PyProof.Rows
section
variable {X : Cx} {g : Gc} {W : WX} {cal : Nat → List D → M D} {pos : Pos}
theorem of_at {α : List Addr} {H : Hp} {S : Sto} {x : D} {v : V} {ds : List D} (a : g.At α H S) (t : g.Tl α H x v) (h : ofD S x = some ds) : ∃ p xs, v = .ref p ∧ (SqT g.K H p xs ∨ SqL g.K H p xs) ∧ g.TlA α H ds xs := by
  unfold ofD at h
  split at h
  · rename_i j
    obtain ⟨b, xs, e, h1, h2⟩ := lst_at a t h
    exact ⟨b, xs, e, .inr (SqL.of h1), h2⟩
  · cases h
    cases t with
    | tup hq hx => exact ⟨_, _, rfl, .inl hq.sq, TpA.toTl hx⟩
  · cases h
    cases t with
    | lst hq hx => exact ⟨_, _, rfl, .inr hq.sq, TpA.toTl hx⟩
  · cases h
theorem a_star {e : Expr} {es : List Expr} {i : E} {is : Es} {p : Pos} (hK : X.K = g.K) (h1 : PE X e (rE g W (evE cal i))) (h2 : PA X es (rA g W (evEs cal is))) (hs : starEach (.Starred e p :: es) X.env = (true, eval e X.env) :: starEach es X.env := by rfl) :
    PA X (.Starred e p :: es) (rA g W (evEs cal (.star i is))) := by
  have h := StX.pa_star (X := X) h1 h2 hs
  rw [hK] at h
  refine pa_imp h fun σ H Q h => ?_
  obtain ⟨α, S, h⟩ := h
  refine ⟨α, S, (rAt.bind (m := evE cal i) (f := fun x ρ => M.bind (fun S => M.opt (ofD S x) S) fun xs => M.bind (evEs cal is ρ) fun ds => M.pure (xs ++ ds)) h).imp fun x S1 α1 H1 e1 a1 h1 v tv => ?_⟩
  obtain ⟨xs, hx, k⟩ := (rAt.bind (m := fun _ => fun S => M.opt (ofD S x) S) (f := fun xs ρ => M.bind (evEs cal is ρ) fun ds => M.pure (xs ++ ds)) h1).opt
  obtain ⟨p0, ws, rfl, hq, tw⟩ := of_at a1 tv hx
  refine ⟨p0, ws, rfl, hq, α1, S1, (rAt.bind (m := evEs cal is) (f := fun ds _ => M.pure (xs ++ ds)) (k α1 H1 (Ext.refl _ _) a1)).imp fun ds S2 α2 H2 e2 a2 h3 us tus => ?_⟩
  exact h3.here α2 H2 (Ext.refl _ _) a2 _ (Paired.app (TlA.ext e2 a1 tw) tus)
/-! ### f-strings -/
/-- the parts of an f-string -/
structure FJ (X : Cx) (g : Gc) (W : WX) (cal : Nat → List D → M D) (es : List Expr) (is : Es) : Prop where
  ex : ∃ ts, PJ X es ts ∧ ∀ acc σ H (Q : Str → Hp → Prop), (rM g W (evF cal is acc) σ H fun z _ _ H' => Q z H') → tJs ts acc σ H Q
theorem j_nil : FJ X g W cal [] .nil := ⟨[], .nil, fun acc σ H Q h => by
  obtain ⟨α, S, h⟩ := h
  exact h.here α H (Ext.refl _ _) h.at_⟩
theorem fstep_of {acc z : Str} {d : D} (h : fstep acc d = some z) : ∃ y, fpart d = some y ∧ (acc ++ y).length ≤ sizeLine ∧ z = acc ++ y := by
  unfold fstep at h
  obtain ⟨y, e1, e2⟩ := Option.bind_eq_some_iff.mp h
  split at e2
  · rename_i hl; cases e2; exact ⟨y, e1, hl, rfl⟩
  · cases e2
theorem j_any {e : Expr} {t : TE} {es : List Expr} {i : E} {is : Es} (he : PE X e t) (hr : FJ X g W cal es is)
    (ht : ∀ σ H (Q : VK), (rM g W (evE cal i) σ H fun d _ _ H' => ∃ y, fpart d = some y ∧ Q (.str y) H') → t σ H Q) : FJ X g W cal (e :: es) (.cons i is) := by
  obtain ⟨ts, h1, h2⟩ := hr.ex
  refine ⟨_, .cons he h1, fun acc σ H Q h => ht _ _ _ ?_⟩
  obtain ⟨α, S, h⟩ := h
  refine ⟨α, S, (rAt.bind (m := evE cal i) (f := fun d ρ => M.bind (M.opt (fstep acc d)) fun acc' => evF cal is acc' ρ) h).imp fun d S1 α1 H1 e1 a1 h1 => ?_⟩
  obtain ⟨z, hz, k⟩ := (rAt.bind (m := fun _ => M.opt (fstep acc d)) (f := fun acc' ρ => evF cal is acc' ρ) h1).opt
  obtain ⟨y, ey, hl, rfl⟩ := fstep_of hz
  exact ⟨y, ey, y, rfl, hl, h2 _ _ _ _ ⟨α1, S1, k α1 H1 (Ext.refl _ _) a1⟩⟩
theorem j_txt {y : Str} {j : Nat} {p : Pos} {es : List Expr} {is : Es} (hr : FJ X g W cal es is) : FJ X g W cal (.Constant (.str y) j p :: es) (.cons (.cst (.p (.str y))) is) :=
  j_any pe_str hr fun σ H Q h => by
    obtain ⟨α, S, h⟩ := h
    obtain ⟨z, hz, q⟩ := h.here α H (Ext.refl _ _) h.at_
    have hz : (if y.length ≤ sizeLine then some y else none) = some z := hz
    split at hz
    · cases hz; exact q
    · cases hz
theorem j_fmt {e : Expr} {i : E} {p : Pos} {es : List Expr} {is : Es} (he : PE X e (rE g W (evE cal i))) (hr : FJ X g W cal es is) : FJ X g W cal (.FormattedValue e (-1) none p :: es) (.cons i is) :=
  j_any (pe_fmt he) hr fun σ H Q h => by
    obtain ⟨α, S, h⟩ := h
    refine ⟨α, S, h.imp fun d S1 α1 H1 e1 a1 q v tv => ?_⟩
    obtain ⟨y, hz, q⟩ := q
    unfold fpart at hz
    split at hz
    · split at hz
      · rename_i hl
        cases hz
        cases tv
        exact .inr ⟨_, rfl, hl, q⟩
      · cases hz
    · split at hz
      · rename_i hl
        cases hz
        cases tv
        exact .inl ⟨_, rfl, hl, q⟩
      · cases hz
    · cases hz
theorem e_fstr {v1 v2 : Expr} {rest : List Expr} {is : Es} (h : FJ X g W cal (v1 :: v2 :: rest) is) : PE X (.JoinedStr (v1 :: v2 :: rest) pos) (rE g W (evE cal (.fstr is))) := by
  obtain ⟨ts, h1, h2⟩ := h.ex
  refine pe_imp (pe_joined h1) fun σ H Q h => h2 _ _ _ _ ?_
  obtain ⟨α, S, h⟩ := h
  exact ⟨α, S, (rAt.bind (m := evF cal is Str.empty) (f := fun z _ => M.pure (D.p (.str z))) h).imp fun z S1 α1 H1 e1 a1 h1 => (rAt.here (b := D.p (.str z)) h1) α1 H1 (Ext.refl _ _) a1 (.str z) (.str _)⟩
/-! ### truth -/
theorem t_truth {e : Expr} {ie : E} (hK : X.K = g.K) (h : PE X e (rE g W (evE cal ie))) (he : ∀ whole, isTrue e X.env whole = (do let v ← whole; standAt e.pos; holding [v] (truthy v)) := by intro _; rfl) : PT X e (rT g W (evE cal (.op1 truthD ie))) := by
  have h := pt_truth h he
  rw [hK] at h
  refine pt_imp h fun σ H Q q => ?_
  obtain ⟨α, S, q⟩ := q
  refine ⟨α, S, (rAt.bind (m := evE cal ie) (f := fun x _ => fun S => M.opt (truthD S x) S) q).imp fun x S1 α1 H1 e1 a1 h1 v tv => ?_⟩
  obtain ⟨z, hz, k⟩ := h1.opt
  obtain ⟨b, ez, q⟩ := k α1 H1 (Ext.refl _ _) a1
  subst ez
  refine ⟨b, ?_, q⟩
  unfold truthD at hz
  split at hz
  · cases hz; cases tv; rfl
  · cases hz; cases tv; rfl
  · cases hz; cases tv
    rename_i i
    show _ = (i != 0)
    by_cases e : i = 0 <;> simp [e]
  · split at hz
    · rename_i y hl
      cases hz
      cases tv
      refine ⟨hl, ?_⟩
      by_cases e : y.length = 0
      · simp [e]
      · have e2 : ((y.length : Int) != 0) = true := by simp [e]
        rw [e2]
        simp [e]
    · cases hz
  · cases hz
    cases tv with
    | tup hq hx =>
      refine .inr (.inl ⟨_, hq.sq, ?_⟩)
      cases hx <;> rfl
  · split at hz
    · rename_i j ds hj
      cases hz
      obtain ⟨p, xs, h4, h5, h6⟩ := At.lst a1 hj
      obtain ⟨p', h4', rfl⟩ := tv
      rw [h4] at h4'
      cases h4'
      refine .inl ⟨_, SqL.of h5, ?_⟩
      cases h6 <;> rfl
    · rename_i j ds hj
      cases hz
      obtain ⟨p, xs, h4, h5, h6⟩ := At.dic a1 hj
      obtain ⟨p', h4', rfl⟩ := tv
      rw [h4] at h4'
      cases h4'
      refine .inr (.inr ⟨_, h5, ?_⟩)
      cases h6 <;> rfl
    · cases hz
  · cases hz
theorem augL_run {m : M D} {o : Option D} {d : D} {c : Ctl × Sl} {S : Sto} {okk : Ctl × Sl → Sto → Prop} {exx : Ex → Sto → Prop} (ho : o = some d)
    (w : wp (M.bind (M.bind (M.opt o) fun x => M.bind (fun S => M.opt (lstAt S x) S) fun _ => M.bind m fun y => extD x y) (fun _ => M.pure c) S) okk exx) : wp (m S) (fun y S2 => wp (extD d y S2) (fun _ S3 => okk c S3) exx) exx := by
  subst ho
  have w1 : wp (M.bind (fun S => M.opt (lstAt S d) S) (fun _ => M.bind m fun y => extD d y) S) (fun _ S3 => okk c S3) exx := wp_bind w
  cases hl : lstAt S d with
  | none => simp only [M.bind, M.opt, hl] at w1; exact w1.elim
  | some ds0 =>
    simp only [M.bind, M.opt, hl] at w1
    exact wp_bind w1
/-! ### x += ys -/
theorem s_augL (i : Nat) {x : Str} {e : Expr} {ie : E} {p : Pos} {CX : CXT} {k : Nat} (G : Gd X g W CX cal k) (he : PE X e (rE g W (evE cal ie))) (hi : X.N[i]? = some x := by rfl) (hx : Loc X.env.scope x := by first | exact .inl rfl | exact .inr rfl)
    (hf : X.fn x = true ∨ X.env.scope.names.lookup x = some .local := by first | exact .inl rfl | exact .inr rfl) : PS X (.AugAssign (.Name x p) .Add e pos) (rS g W (exS cal (.expr (.extend (.var i) ie)))) :=
  ps_imp (ps_aug (ti := rExt2) G.nd hi hx he iop_ext hf) fun D σ H h => by
    obtain ⟨α, S, ρ, a, r, w⟩ := h
    have w : wp (M.bind (M.bind (M.opt (match ρ[i]? with | some (some d) => some d | _ => none)) fun x => M.bind (fun S => M.opt (lstAt S x) S) fun _ => M.bind (evE cal ie ρ) fun y => extD x y) (fun _ => M.pure (Ctl.next, ρ)) S) _ _ := w
    cases q : ρ[i]? with
    | none => simp only [q, M.opt, M.bind] at w; exact w.elim
    | some o =>
      cases o with
      | none => simp only [q, M.opt, M.bind] at w; exact w.elim
      | some d =>
        obtain ⟨v, hv, tv⟩ := r.at_ i d q
        have w2 := augL_run (d := d) (by rw [q]) w
        · refine ⟨v, hv, α, S, ρ, a, r, wp_mono w2 (fun y S2 w3 α2 H2 e2 a2 u tu => ?_) fun x S' z cls dx α' H' e a' t => z cls dx α' H' σ e a' t⟩
          have tv2 := tv.ext e2 a
          cases d with
          | p _ => exact (show False from w3).elim
          | fn _ => exact (show False from w3).elim
          | ref j =>
            unfold extD at w3
            cases ej : S2[j]? with
            | none => simp only [ej] at w3; exact w3.elim
            | some o =>
              cases o with
              | dic _ => simp only [ej] at w3; exact w3.elim
              | lst ds =>
                cases ey : lstAt S2 y with
                | none => simp only [ej, ey] at w3; exact w3.elim
                | some es =>
                  simp only [ej, ey] at w3
                  by_cases hb : es.all (rb j) = true ∧ ds.length + es.length ≤ 100000
                  · rw [if_pos hb] at w3
                    obtain ⟨b1, xs, h7, h8, h9⟩ := At.lst a2 ej
                    obtain ⟨b3, zs, eu, h10, h11⟩ := lst_at a2 tu ey
                    obtain ⟨b2, h7', e⟩ := tv2
                    rw [h7] at h7'
                    cases h7'
                    subst e
                    subst eu
                    refine ⟨b1, b3, xs, zs, rfl, rfl, h8, h10, by rw [← Paired.length h9, ← Paired.length h11, sizeLine_eq]; omega, ?_⟩
                    have hw := a2.wf j _ ej
                    have hb2 : rbO j (.lst (ds ++ es)) = true := by
                      have hw : ds.all (rb j) = true := hw
                      show (ds ++ es).all (rb j) = true
                      rw [List.all_append, Bool.and_eq_true]
                      exact ⟨hw, hb.1⟩
                    obtain ⟨e6, a6⟩ := At.upd a2 h7 hb2 (u := .lst (xs ++ zs)) fun H' kt hu => ⟨_, hu, Paired.app (Paired.mapP h9 fun _ _ q => q.keep kt) (Paired.mapP h11 fun _ _ q => q.keep kt)⟩
                    have es : σ.set i (some (.ref b1)) = σ := by
                      apply List.ext_getElem?
                      intro m
                      by_cases z : i = m
                      · subst z
                        rw [List.getElem?_set_self (List.getElem?_eq_some_iff.mp hv).1, hv]
                      · rw [List.getElem?_set_ne z]
                    show D.nx (σ.set i (some (.ref b1))) _
                    rw [es]
                    exact w3 α2 _ σ (e2.trans e6) a6 (r.ext (e2.trans e6) a)
                  · rw [if_neg hb] at w3
                    exact w3.elim
/-! ### d[k] -/
def dixD (S : Sto) (x y : D) : Option D := (dicAt S x).bind fun kvs => (keyOf y).bind fun k => valD kvs k
theorem e_dix {a b : Expr} {ia ib : E} {CX : CXT} {k : Nat} (G : Gd X g W CX cal k) (ha : PE X a (rE g W (evE cal ia))) (hb : PE X b (rE g W (evE cal ib))) (hs : NoSl b := by exact fun _ _ => rfl) :
    PE X (.Subscript a b pos) (rE g W (evE cal (.op2 dixD ia ib))) := pe_imp (pe_dget (by have := G.hu; omega) ha hb hs) fun σ H Q h => by
  obtain ⟨α, S, h⟩ := h
  refine ⟨α, S, (rAt.bind (m := evE cal ia) (f := fun x ρ => M.bind (evE cal ib ρ) fun y => fun S => M.opt (dixD S x y) S) h).imp fun x S1 α1 H1 e1 a1 h1 v tv => ⟨α1, S1, (rAt.bind (m := evE cal ib) (f := fun y _ => fun S => M.opt (dixD S x y) S) h1).imp fun y S2 α2 H2 e2 a2 h2 u tu => ?_⟩⟩
  obtain ⟨z, hz, k2⟩ := h2.opt
  obtain ⟨kv2, q1, hz⟩ := Option.bind_eq_some_iff.mp hz
  obtain ⟨key, q2, hz⟩ := Option.bind_eq_some_iff.mp hz
  obtain ⟨b1, ws, rfl, h7, h8⟩ := dic_at a2 (tv.ext e2 a1) q1
  have vo := val_of (k := key) h8
  rw [hz] at vo
  cases e : valV ws key with
  | none => rw [e] at vo; exact vo.elim
  | some w =>
    rw [e] at vo
    refine ⟨b1, w, rfl, ?_, k2 α2 H2 (Ext.refl _ _) a2 _ vo⟩
    rw [key_V tu q2, ← e]
    exact DGet.k h7
/-! ### one comprehension within another -/
/-- more of the store, tuples stay -/
structure Kp (α α' : List Addr) (H H' : Hp) : Prop where
  pre : ∀ (i : Nat) (a : Addr), α[i]? = some a → α'[i]? = some a
  kt : KT H H'
theorem Tl.kp {K : PySem.W.Frag} {ph : Nat → Option Addr} {α α' : List Addr} {H H' : Hp} (k : Kp α α' H H') : ∀ {d : D} {v : V}, Ir.Tl K ph α H d v → Ir.Tl K ph α' H' d v
  | .p _, _, h => Tp.keep k.kt h
  | .ref _, _, ⟨a, h1, h2⟩ => ⟨a, k.pre _ _ h1, h2⟩
  | .fn _, _, h => h
theorem Sr.kp {K : PySem.W.Frag} {ph : Nat → Option Addr} {α α' : List Addr} {H H' : Hp} {σ : L2.St} {ρ : Sl} (k : Kp α α' H H') (r : Ir.Sr K ph α H σ ρ) : Ir.Sr K ph α' H' σ ρ := ⟨r.len, fun i d h => let ⟨v, h1, h2⟩ := r.at_ i d h; ⟨v, h1, h2.kp k⟩⟩
def WkK (g : Gc) (ds : List PyData) (J : It) (α0 : List Addr) (H0 : Hp) : Prop := ∀ i α H, Kp α0 α H0 H →
  (∀ d, ds[i]? = some d → J.go i H ∧ ∀ x H', J.yld i H x H' → H' = H ∧ g.Tl α H (.p d) x) ∧ (ds[i]? = none → J.stop i H)
def rIK (g : Gc) (W : WX) (m : Sl → M D) : TI := fun σ H R => rM g W m σ H fun x _ α' H' => ∃ ds, x = .p (.tuple ds) ∧ ∀ J, WkK g ds J α' H' → R J H'
theorem i_tupK {tg e : Expr} {ie : E} (hK : X.K = g.K) (h : PE X e (rE g W (evE cal ie))) : PI X tg e (rIK g W (evE cal ie)) := by
  have h1 := pi_tup (tg := tg) h
  rw [hK] at h1
  refine pi_imp h1 fun σ H R q => ?_
  obtain ⟨α, S, q⟩ := q
  refine ⟨α, S, q.imp fun x S1 α1 H1 e1 a1 h1 v tv => ?_⟩
  obtain ⟨ds, rfl, k⟩ := h1
  cases tv with
  | @tup a xs _ hq ha =>
    refine ⟨a, rfl, ⟨xs, hq.sq⟩, k _ fun i α2 H2 e2 => ⟨fun d hd => ?_, fun hd => ?_⟩⟩
    · obtain ⟨v, hv, tv⟩ := ha.get hd
      refine ⟨⟨xs, v, sqT_keep e2.kt hq.sq, hv⟩, fun y H' hy => ?_⟩
      obtain ⟨rfl, hy⟩ := hy
      have e3 := hy xs (sqT_keep e2.kt hq.sq)
      rw [hv] at e3
      cases e3
      exact ⟨rfl, Tp.keep e2.kt tv⟩
    · exact ⟨xs, sqT_keep e2.kt hq.sq, tpa_get ha hd⟩
theorem KT.trans {H H' H'' : Hp} (x : KT H H') (y : KT H' H'') : KT H H'' := ⟨fun a xs h => y.tup a xs (x.tup a xs h), fun a o u h => y.frz a o u (x.frz a o u h)⟩
theorem Kp.trans {α α' α'' : List Addr} {H H' H'' : Hp} (x : Kp α α' H H') (y : Kp α' α'' H' H'') : Kp α α'' H H'' := ⟨fun i a h => y.pre i a (x.pre i a h), x.kt.trans y.kt⟩
theorem Kp.of {α α' : List Addr} {H H' : Hp} {S : Sto} (e : Ext α α' H H') (a : g.At α H S) : Kp α α' H H' := ⟨e.pre, e.kt a⟩
theorem Kp.refl (α : List Addr) (H : Hp) : Kp α α H H := ⟨fun _ _ h => h, ⟨fun _ _ h => h, fun _ _ _ h => h⟩⟩
theorem tYes_ (σ : L2.St) (H : Hp) {Q : Bool → Hp → Prop} (h : Q true H) : tYes σ H Q := h
/-- the inner row of values, from turn j on -/
theorem inner_of {ds : List PyData} {tgs2 : List Nat} {one2 : Bool} {ie : E} {ρ' : Sl} {σ2 : L2.St} {p : Addr} {α1 : List Addr} {H1 : Hp} {J1 : It} {α3 : List Addr} {H3 : Hp} {S3 : Sto} {acc : List D} {xs : List V} {Nx : Hp → Prop} {Kn : List D → Sto → Prop}
    (hp : H1 p = none) (e13 : Ext α1 α3 H1 H3) (a3 : g.At α3 H3 S3) (np : p ∉ α3) (hx : H3 p = some (.lst xs)) (tx : g.TlA α3 H3 acc xs) (r3 : g.Sr α3 H3 σ2 ρ') (wk : WkK g ds J1 α3 H3) (hl : acc.length + ds.length ≤ 100000)
    (w : wp (lcGo (.fix (ds.map .p)) (fun d => match tgt tgs2 one2 d (wipeD ρ' tgs2) with | some ρ'' => evE cal ie ρ'' | none => M.bad) ds.length 0 acc S3) Kn (fun _ _ => False))
    (fin : ∀ α4 H4 S4 acc4 xs4, Ext α1 α4 H1 H4 → g.At α4 H4 S4 → p ∉ α4 → H4 p = some (.lst xs4) → g.TlA α4 H4 acc4 xs4 → Kn acc4 S4 → Nx H4) :
    ∃ W1 : Nat → Nat → Hp → Prop, (∃ m, W1 0 m H3) ∧ ∀ j k H, W1 j k H → (J1.stop j H ∧ Nx H) ∨ (J1.go j H ∧ ∃ Nx1 : Hp → Prop, (∀ H', Nx1 H' → ∃ k', k' < k ∧ W1 (j + 1) k' H') ∧ ∀ x H', J1.yld j H x H' →
      rG g tgs2 one2 x (L2.wipe σ2 tgs2) H' fun σ3 H5 => L2.wipe σ3 tgs2 = L2.wipe σ2 tgs2 ∧ tYes σ3 H5 fun b H6 =>
        if b = true then rE g W0 (evE cal ie) σ3 H6 fun y H7 => ∃ acc, H7 p = some (.lst acc) ∧ acc.length < sizeLine ∧ Nx1 (L2.upd H7 p (.lst (acc ++ [y]))) else Nx1 H6) := by
  let Wg : Nat → Nat → Hp → Prop := fun j k H4 => ∃ α4 S4 acc4 xs4, Ext α1 α4 H1 H4 ∧ Kp α3 α4 H3 H4 ∧ g.At α4 H4 S4 ∧ p ∉ α4 ∧ H4 p = some (.lst xs4) ∧ g.TlA α4 H4 acc4 xs4 ∧ acc4.length + k ≤ 100000 ∧
    wp (lcGo (.fix (ds.map .p)) (fun d => match tgt tgs2 one2 d (wipeD ρ' tgs2) with | some ρ'' => evE cal ie ρ'' | none => M.bad) k j acc4 S4) Kn (fun _ _ => False)
  refine ⟨Wg, ⟨ds.length, α3, S3, acc, xs, e13, Kp.refl _ _, a3, np, hx, tx, hl, w⟩, ?_⟩
  rintro j k H4 ⟨α4, S4, acc4, xs4, e4, k4, a4, np4, hx4, tx4, hl4, w4⟩
  have wkj := wk j α4 H4 k4
  have hat : ∀ S, (Src.fix (ds.map D.p)).at j S = some ((ds.map D.p)[j]?) := fun _ => rfl
  cases hd : ds[j]? with
  | none =>
    refine .inl ⟨wkj.2 hd, fin α4 H4 S4 acc4 xs4 e4 a4 np4 hx4 tx4 ?_⟩
    have e0 : (ds.map D.p)[j]? = none := by rw [List.getElem?_map, hd]; rfl
    cases k <;> (simp only [lcGo, hat, e0] at w4; exact w4)
  | some d =>
    have e0 : (ds.map D.p)[j]? = some (.p d) := by rw [List.getElem?_map, hd]; rfl
    cases k with
    | zero => simp only [lcGo, hat, e0] at w4; exact w4.elim
    | succ k =>
      simp only [lcGo, hat, e0] at w4
      obtain ⟨go, yl⟩ := wkj.1 d hd
      refine .inr ⟨go, Wg (j + 1) k, fun H' q => ⟨k, Nat.lt_succ_self _, q⟩, fun x H' hy => ?_⟩
      obtain ⟨rfl, ty⟩ := yl x H' hy
      have w5 := wp_bind w4
      cases ht : tgt tgs2 one2 (.p d) (wipeD ρ' tgs2) with
      | none => rw [ht] at w5; exact w5.elim
      | some ρ'' =>
        rw [ht] at w5
        refine ⟨α4, S4, wipeD ρ' tgs2, .p d, ρ'', a4, (Sr.kp k4 r3).wipe tgs2, .inl ty, ht, fun σ' r' ag => ⟨ag.wipe.trans (Ag.wipe (σ := σ2) (σ' := L2.wipe σ2 tgs2) ⟨wipe_length _ _, fun j hj => by rw [wipe_get, if_neg (fun z => hj z.1)]⟩), ?_⟩⟩
        refine tYes_ _ _ ?_
        rw [if_pos rfl]
        refine ⟨α4, S4, ρ'', a4, r', wp_mono w5 (fun z S5 w6 α5 H5 e5 a5 v tv => ?_) fun _ _ z => z.elim⟩
        have hx5 : H5 p = some (.lst xs4) := e5.keep p _ hx4 np4
        have np5 : p ∉ α5 := e5.notin hx4 np4
        have tx5 : g.TlA α5 H5 acc4 xs4 := TlA.ext e5 a4 tx4
        have hlen : xs4.length = acc4.length := (Paired.length tx4).symm
        have kt : KT H5 (L2.upd H5 p (.lst (xs4 ++ [v]))) := KT.lst hx5
        have ee := e4.trans e5
        refine ⟨xs4, hx5, by rw [hlen]; exact Nat.lt_of_lt_of_le (by omega : acc4.length < 100001) (by rw [sizeLine_eq]; decide), α5, S5, acc4 ++ [z], xs4 ++ [v], ?_, (k4.trans (Kp.of e5 a4)).trans ⟨fun _ _ h => h, kt⟩, a5.apart hx5 np5, np5, upd_same, ?_, by rw [List.length_append, List.length_singleton]; omega, w6⟩
        · exact ⟨ee.pre, fun b o hb n => by rw [upd_ne (fun z => by rw [z, hp] at hb; cases hb)]; exact ee.keep b o hb n, ee.new⟩
        · exact Paired.app (Paired.mapP tx5 fun _ _ q => q.keep kt) (.cons (tv.keep kt) .nil)
theorem lc2_of {it : Wi} {ie2 : E} {tgs tgs2 : List Nat} {one one2 : Bool} {ie : E} {σ : L2.St} {H : Hp} {Q : VK} (h : rLn g W (evL cal (.lc2 it tgs one ie2 tgs2 one2 ie)) σ H Q) :
    tLc2 (rI g W one (evI cal it)) (rG g tgs one) tYes (rIK g W0 (evE cal ie2)) (rG g tgs2 one2) tYes (rE g W0 (evE cal ie)) (tgs ++ tgs2) tgs2 σ H Q := by
  obtain ⟨α, S, ρ, a, r, w⟩ := h
  let F : D → List D → M (List D) := fun d acc => M.calm (match tgt tgs one d (wipeD ρ (tgs ++ tgs2)) with
        | some ρ' => M.bind (evE cal ie2 ρ') fun x => match x with
          | .p (.tuple ds) => if acc.length + ds.length ≤ 100000 then lcGo (.fix (ds.map .p)) (fun d => match tgt tgs2 one2 d (wipeD ρ' tgs2) with
            | some ρ'' => evE cal ie ρ''
            | none => M.bad) ds.length 0 acc else M.bad
          | _ => M.bad
        | none => M.bad)
  let OK : List D → Sto → Prop := fun ds S' => ∀ α' H', Ext α α' H H' → g.At α' H' S' → ∀ p xs, H p = none → p ∉ α' → H' p = some (.lst xs) → g.TlA α' H' ds xs → Q (.ref p) H'
  have w : wp (M.bind (evI cal it ρ) (fun src => fun S => match src.size S with
    | some n => if n ≤ 100000 then lc2Go src F n 0 [] S else .bad
    | none => .bad) S) OK (exW g W α σ H) := w
  refine ⟨α, S, ρ, a, r, wp_mono (wp_bind w) (fun src S1 h1 α1 H1 e1 a1 J wk p hp => ?_) fun _ _ z => z⟩
  cases hn : src.size S1 with
  | none => rw [hn] at h1; exact h1.elim
  | some n =>
    rw [hn] at h1
    by_cases hl : n ≤ 100000
    · simp only [hl, if_true] at h1
      obtain ⟨ef, af⟩ := At.fresh a1 hp (u := .lst [])
      have hp0 : H p = none := e1.none a1 hp
      let Wf : Nat → Nat → Hp → Prop := fun i m H2 => ∃ α2 S2 acc xs, Ext α1 α2 H1 H2 ∧ g.At α2 H2 S2 ∧ p ∉ α2 ∧ H2 p = some (.lst xs) ∧ g.TlA α2 H2 acc xs ∧ wp (lc2Go src F m i acc S2) OK (exW g W α σ H)
      refine ⟨Wf, ⟨n, α1, S1, [], [], ef, af, a1.notin hp, upd_same, .nil, h1⟩, ?_⟩
      rintro i m H2 ⟨α2, S2, acc, xs, e2, a2, np, hx, tx, w2⟩
      have wki := wk i α2 H2 S2 e2 a2
      cases hat : src.at i S2 with
      | none => cases m <;> (simp only [lc2Go, hat] at w2; exact w2.elim)
      | some o =>
        cases o with
        | none =>
          refine .inl ⟨wki.2 hat, ?_⟩
          have w3 : OK acc S2 := by cases m <;> (simp only [lc2Go, hat] at w2; exact w2)
          exact w3 α2 H2 (e1.trans e2) a2 p xs hp0 np hx tx
        | some d =>
          cases m with
          | zero => simp only [lc2Go, hat] at w2; exact w2.elim
          | succ m =>
            simp only [lc2Go, hat] at w2
            obtain ⟨go, yl⟩ := wki.1 d hat
            refine .inr ⟨go, Wf (i + 1) m, fun H' q => ⟨m, Nat.lt_succ_self _, q⟩, fun x H' hy => ?_⟩
            obtain ⟨ey, ay, ty⟩ := yl x H' hy
            have w3 := wp_bind w2
            have w4 := calm_wp (ex' := fun _ _ => False) w3
            cases ht : tgt tgs one d (wipeD ρ (tgs ++ tgs2)) with
            | none => rw [ht] at w4; exact w4.elim
            | some ρ' =>
              rw [ht] at w4
              have eH := (e1.trans (e2.trans ey))
              refine ⟨α2, S2, wipeD ρ (tgs ++ tgs2), d, ρ', ay, ((r.ext eH a).wipe (tgs ++ tgs2)), ty, ht, fun σ' r' ag => ⟨(ag.mono (ws := tgs ++ tgs2) fun i hi => List.mem_append_left _ hi).wipe.trans (Ag.wipe (σ := σ) (σ' := L2.wipe σ (tgs ++ tgs2)) ⟨wipe_length _ _, fun j hj => by rw [wipe_get, if_neg (fun z => hj z.1)]⟩), ?_⟩⟩
              refine tYes_ _ _ ?_
              rw [if_pos rfl]
              have hx' : H' p = some (.lst xs) := ey.keep p _ hx np
              have tx' : g.TlA α2 H' acc xs := TlA.ext ey a2 tx
              refine ⟨α2, S2, ρ', ay, r', wp_mono (wp_bind w4) (fun y S3 h3 α3 H3 e3 a3 => ?_) fun _ _ z => z.elim⟩
              split at h3
              · rename_i ds
                split at h3
                · rename_i hl2
                  refine ⟨ds, rfl, fun J1 wk2 => ?_⟩
                  refine inner_of (α1 := α1) (H1 := H1) hp (e2.trans (ey.trans e3)) a3 (e3.notin hx' np) (e3.keep p _ hx' np) (TlA.ext e3 ay tx') (r'.ext e3 ay) wk2 hl2 h3 fun α4 H4 S4 acc4 xs4 e4 a4 np4 hx4 tx4 kn => ?_
                  exact ⟨α4, S4, acc4, xs4, e4, a4, np4, hx4, tx4, kn⟩
                · exact h3.elim
              · exact h3.elim
    · simp only [hl, if_false] at h1
      exact h1.elim
theorem l_lc2 {elt tg iter tg1 iter1 : Expr} {scope : Scope} {it : Wi} {one one2 : Bool} {ie2 ie : E} (own own2 : List (Str × Nat)) {CX : CXT} {k : Nat} (G : Gd X g W CX cal k) (hi : PI X tg iter (rI g W one (evI cal it))) (ok : blkC X.N X.env.scope scope (own ++ own2) = true)
    (hg : ∀ (s : Shared) (H : Hp) (C : Addr) (cl : List (Str × Addr)) (fp : List Addr), PG (X.blk s H scope (compEnvC scope cl C X.env) fp) tg (rG g (own.map (·.2)) one))
    (hi1 : ∀ (s : Shared) (H : Hp) (C : Addr) (cl : List (Str × Addr)) (fp : List Addr), Gd (X.blk s H scope (compEnvC scope cl C X.env) fp) g W0 CX cal k → PE (X.blk s H scope (compEnvC scope cl C X.env) fp) iter1 (rE g W0 (evE cal ie2)))
    (hg1 : ∀ (s : Shared) (H : Hp) (C : Addr) (cl : List (Str × Addr)) (fp : List Addr), PG (X.blk s H scope (compEnvC scope cl C X.env) fp) tg1 (rG g (own2.map (·.2)) one2))
    (he : ∀ (s : Shared) (H : Hp) (C : Addr) (cl : List (Str × Addr)) (fp : List Addr), Gd (X.blk s H scope (compEnvC scope cl C X.env) fp) g W0 CX cal k → PE (X.blk s H scope (compEnvC scope cl C X.env) fp) elt (rE g W0 (evE cal ie)))
    (hs : ∀ x, foldedSetIterable iter X.env x = pure x := by intro _; rfl) (hs1 : ∀ env x, foldedSetIterable iter1 env x = pure x := by intro _ _; rfl) : PE X (.ListComp elt [⟨tg, iter, [], 0⟩, ⟨tg1, iter1, [], 0⟩] scope pos) (rLn g W (evL cal (.lc2 it (own.map (·.2)) one ie2 (own2.map (·.2)) one2 ie))) :=
  pe_imp (pe_lc2 (vs1 := own2.map (·.2)) G.calm G.nd hi (blkOk_by ok) (fun i hi => by rw [List.map_append]; exact List.mem_append_right _ hi) hg (fun _ _ _ _ _ => pts_nil)
    (fun s H C cl fp => i_tupK (G.blk s H scope _ fp).K (hi1 s H C cl fp (G.blk s H scope _ fp))) hg1 (fun _ _ _ _ _ => pts_nil) (fun s H C cl fp => he s H C cl fp (G.blk s H scope _ fp)) hs hs1) fun _ _ _ q => by
      rw [List.map_append]
      exact lc2_of q
theorem s_asgLc2 (i : Nat) {y : Str} {py : Pos} {elt tg iter tg1 iter1 : Expr} {scope : Scope} {cpos : Pos} {it : Wi} {one one2 : Bool} {ie2 ie : E} (own own2 : List (Str × Nat)) {CX : CXT} {k : Nat} (G : Gd X g W CX cal k) (hi : PI X tg iter (rI g W one (evI cal it))) (ok : blkC X.N X.env.scope scope (own ++ own2) = true)
    (hg : ∀ (s : Shared) (H : Hp) (C : Addr) (cl : List (Str × Addr)) (fp : List Addr), PG (X.blk s H scope (compEnvC scope cl C X.env) fp) tg (rG g (own.map (·.2)) one))
    (hi1 : ∀ (s : Shared) (H : Hp) (C : Addr) (cl : List (Str × Addr)) (fp : List Addr), Gd (X.blk s H scope (compEnvC scope cl C X.env) fp) g W0 CX cal k → PE (X.blk s H scope (compEnvC scope cl C X.env) fp) iter1 (rE g W0 (evE cal ie2)))
    (hg1 : ∀ (s : Shared) (H : Hp) (C : Addr) (cl : List (Str × Addr)) (fp : List Addr), PG (X.blk s H scope (compEnvC scope cl C X.env) fp) tg1 (rG g (own2.map (·.2)) one2))
    (he : ∀ (s : Shared) (H : Hp) (C : Addr) (cl : List (Str × Addr)) (fp : List Addr), Gd (X.blk s H scope (compEnvC scope cl C X.env) fp) g W0 CX cal k → PE (X.blk s H scope (compEnvC scope cl C X.env) fp) elt (rE g W0 (evE cal ie)))
    (hsw : swapsWith (.ListComp elt [⟨tg, iter, [], 0⟩, ⟨tg1, iter1, [], 0⟩] scope cpos) (some (.Name y py)) pos.line X.env = pure true) (hy : X.N[i]? = some y := by rfl) (hyl : X.env.scope.names.lookup y = some .local := by rfl)
    (hs : ∀ x, foldedSetIterable iter X.env x = pure x := by intro _; rfl) (hs1 : ∀ env x, foldedSetIterable iter1 env x = pure x := by intro _ _; rfl) :
    PS X (.Assign [.Name y py] (.ListComp elt [⟨tg, iter, [], 0⟩, ⟨tg1, iter1, [], 0⟩] scope cpos) pos) (rS g W (exS cal (.asg i (.lst (.lc2 it (own.map (·.2)) one ie2 (own2.map (·.2)) one2 ie))))) :=
  ps_imp (ps_setLc2 (vs1 := own2.map (·.2)) G.calm G.nd hy hyl hsw hi (blkOk_by ok) (fun i hi => by rw [List.map_append]; exact List.mem_append_right _ hi) hg (fun _ _ _ _ _ => pts_nil)
    (fun s H C cl fp => i_tupK (G.blk s H scope _ fp).K (hi1 s H C cl fp (G.blk s H scope _ fp))) hg1 (fun _ _ _ _ _ => pts_nil) (fun s H C cl fp => he s H C cl fp (G.blk s H scope _ fp)) hs hs1) fun D σ H h => by
    rw [List.map_append]
    refine lc2_of (it := it) (ie := ie) ?_
    obtain ⟨α, S, ρ, a, r, w⟩ := h
    have w : wp (M.bind (M.bind (evL cal (.lc2 it (own.map (·.2)) one ie2 (own2.map (·.2)) one2 ie) ρ) fun ds => alloc (.lst ds)) (fun d => M.pure (Ctl.next, ρ.set i (some d))) S) _ _ := w
    refine ⟨α, S, ρ, a, r, wp_mono (wp_bind (wp_bind w)) (fun ds S1 h1 α1 H1 e1 a1 p xs hp hn hx tx => ?_) fun x S' z cls dx α' H' e a' t => z cls dx α' H' σ e a' t⟩
    unfold alloc at h1
    by_cases hb : rbO S1.length (.lst ds) = true
    · simp only [hb, if_true] at h1
      obtain ⟨a2, pre⟩ := At.take_in a1 hn (o := .lst ds) ⟨xs, hx, tx⟩ hb
      have e2 : Ext α (α1 ++ [p]) H H1 := ⟨fun i b h => pre i b (e1.pre i b h), e1.keep, fun b hb => by
        rcases List.mem_append.mp hb with z | z
        · exact e1.new b z
        · rw [List.mem_singleton] at z
          rw [z]
          exact .inr hp⟩
      refine h1 (α1 ++ [p]) H1 (σ.set i (some (.ref p))) e2 a2 ((r.ext e2 a).set ⟨p, ?_, rfl⟩)
      rw [← a1.len, List.getElem?_append_right (Nat.le_refl _)]
      simp
    · simp only [hb] at h1
      exact h1.elim
end
end Ir
set_option Elab.async false
set_option maxRecDepth 100000
set_option maxHeartbeats 4000001
/-! What the top has written, told by one run; the table of the defs by levels; the law. -/
namespace Ir
open PySem L2 PySem.Spec PyProof.Rows
/-- a statement that nothing looks through -/
structure Ok (p : Prop) : Prop where
  h : p
/-- a written value is this plain data -/
def chk (K : PySem.W.Frag) : Nat → PyData → Value → Bool
  | _, .none, .none => true
  | _, .bool a, .bool b => decide (a = b)
  | _, .int i, .int j _ => decide (i = j)
  | _, .str x, .str y _ => decide (x = y)
  | n + 1, .tuple ds, .ref a => (match K.lookup a with
    | some ⟨.type c, none, .seq its _, _⟩ => decide (c = "tuple") && (decide (its.size ≤ 1000) && (decide (ds.length = its.toList.length) && (ds.zip its.toList).all fun p => chk K n p.1 p.2))
    | _ => false)
  | _, _, _ => false
theorem zip_chk {K : PySem.W.Frag} {n : Nat} (h : ∀ d u, chk K n d u = true → ∃ v, RelV v u ∧ ∀ H, Tp K H d v) : ∀ {ds : List PyData} {us : List Value}, ds.length = us.length → ((ds.zip us).all fun p => chk K n p.1 p.2) = true → ∃ vs, Vals vs us ∧ ∀ H, TpA K H ds vs
  | [], [], _, _ => ⟨[], .nil, fun _ => .nil⟩
  | d :: ds, u :: us, hl, ha => by
    rw [List.zip_cons_cons, List.all_cons, Bool.and_eq_true] at ha
    obtain ⟨v, r, t⟩ := h _ _ ha.1
    obtain ⟨vs, r2, t2⟩ := zip_chk h (by simpa using hl) ha.2
    exact ⟨v :: vs, .cons r r2, fun H => .cons (t H) (t2 H)⟩
theorem chk_ok {K : PySem.W.Frag} : ∀ (n : Nat) (d : PyData) (u : Value), chk K n d u = true → ∃ v, RelV v u ∧ ∀ H, Tp K H d v := by
  intro n
  induction n with
  | zero =>
    intro d u h
    unfold chk at h
    split at h
    · exact ⟨.non, rfl, fun _ => .non⟩
    · exact ⟨.bl _, by rw [of_decide_eq_true h]; rfl, fun _ => .bl _⟩
    · exact ⟨.int _, ⟨_, by rw [of_decide_eq_true h]⟩, fun _ => .int _⟩
    · exact ⟨.str _, ⟨_, by rw [of_decide_eq_true h]⟩, fun _ => .str _⟩
    · rename_i e; cases e
    · cases h
  | succ n ih =>
    intro d u h
    unfold chk at h
    split at h
    · exact ⟨.non, rfl, fun _ => .non⟩
    · exact ⟨.bl _, by rw [of_decide_eq_true h]; rfl, fun _ => .bl _⟩
    · exact ⟨.int _, ⟨_, by rw [of_decide_eq_true h]⟩, fun _ => .int _⟩
    · exact ⟨.str _, ⟨_, by rw [of_decide_eq_true h]⟩, fun _ => .str _⟩
    · rename_i n' ds a e
      cases e
      split at h
      · rename_i c its m sl hl
        simp only [Bool.and_eq_true, decide_eq_true_eq] at h
        obtain ⟨h1, h2, h3, h4⟩ := h
        subst h1
        obtain ⟨vs, r, t⟩ := zip_chk ih h3 h4
        exact ⟨.ref a, rfl, fun H => .tup (.inr ⟨_, its, m, hl, rfl, rfl, rfl, by rw [sizeLine_eq]; omega, r⟩) (t H)⟩
      · cases h
    · cases h
def constB (K : PySem.W.Frag) (q : Str × PyData) : Bool := match PySem.W.nsIn K mainGlobals q.1 with
  | some (some u) => chk K 5 q.2 u
  | _ => false
def dicB (K : PySem.W.Frag) (x : Str) (kvs : List (Str × PyData)) : Bool := match K.lookup (He.ga K x) with
  | some ⟨_, _, .dict es _, _⟩ => decide (es.toList.length = kvs.length) && ((es.toList.zip kvs).all fun p => (match p.1.key with
    | .str y _ => decide (y = p.2.1)
    | _ => false) && chk K 5 p.2.2 p.1.val)
  | _ => false
section
variable {K : PySem.W.Frag} {h : Heap} {mg : Str → Option Value} {w : World} {ph : Nat → Option Addr}
abbrev gOf (K : PySem.W.Frag) (ph : Nat → Option Addr) : Gc := ⟨K, ph, fun _ _ _ _ => False⟩
theorem const_ok (X : K.In h) (G : h.Ns mainGlobals mg) {x : Str} {d : PyData} (c : constB K (x, d) = true) : Gv (gOf K ph) mg x (.p d) := by
  unfold constB at c
  split at c
  · rename_i u e
    obtain ⟨v, r, t⟩ := chk_ok _ _ _ c
    exact ⟨v, u, PySem.W.mg_of X G e, r, fun _ H => t H⟩
  · cases c
theorem dic_zip : ∀ {es : List DictEntry} {kvs : List (Str × PyData)}, es.length = kvs.length → ((es.zip kvs).all fun p => (match p.1.key with
    | .str y _ => decide (y = p.2.1)
    | _ => false) && chk K 5 p.2.2 p.1.val) = true → Paired (fun (e : DictEntry) (p : Str × PyData) => (∃ t, e.key = .str p.1 t) ∧ ∃ v, RelV v e.val ∧ ∀ H, Tp K H p.2 v) es kvs
  | [], [], _, _ => .nil
  | e :: es, q :: kvs, hl, ha => by
    rw [List.zip_cons_cons, List.all_cons, Bool.and_eq_true, Bool.and_eq_true] at ha
    obtain ⟨⟨h1, h2⟩, h3⟩ := ha
    refine .cons ⟨?_, chk_ok _ _ _ h2⟩ (dic_zip (by simpa using hl) h3)
    dsimp only at h1
    split at h1
    · rename_i y t hy
      exact ⟨t, by rw [hy, of_decide_eq_true h1]⟩
    · cases h1
theorem wd_ok {x : Str} {kvs : List (Str × PyData)} (hm : mg x = some (.ref (He.ga K x))) (hk : ∃ es n, KDict K w (He.ga K x) es n) (c : dicB K x kvs = true) : Wd (gOf K ph) w mg x kvs := by
  obtain ⟨es, n, q⟩ := hk
  unfold dicB at c
  rw [q.at_] at c
  simp only [Bool.and_eq_true, decide_eq_true_eq] at c
  exact ⟨_, es, n, hm, q.at_, q.lit, q.low, dic_zip c.1 c.2⟩
end
theorem fun_of {K : PySem.W.Frag} {x : Str} {st : Stmt} {f : Addr} {fd : FuncData} (F : FunD K x x (defArgs st) (defBody st) (defScope st) [] [] f fd) : Fun K x x st f fd := by
  obtain ⟨oc, od, dV, kV, doc, pm, an, cdv, ct, osl, e, l, c, hD, _⟩ := F.ex
  rcases hD with ⟨_, rfl⟩ | ⟨q, _⟩
  · exact ⟨⟨oc, od, kV, doc, pm, an, cdv, ct, osl, e, l, c⟩, F.kp⟩
  · exact absurd rfl q
def ddOf (x : Str) (st : Stmt) : He.DefD := ⟨(x, none), x, x, defArgs st, defBody st, defScope st, [], []⟩
section
variable {P : Program} {w : World} {g : Gc} {mg : Str → Option Value} {base : Heap} {a : Nat → Addr} {fs : Nat → Option Fn}
def Row (P : Program) (w : World) (g : Gc) (mg : Str → Option Value) (base : Heap) (f : Addr) (fn : Fn) : Prop := ∃ fd ps, (∀ cal k, Tb P w g mg base cal k → FnOk P w g.K mg base CX0 (k + 1) f fd ps (spI g (callF cal fn))) ∧ PySem.W.keepIn g.K (.ref f) = true ∧ Binds g.K fd ps []
theorem row_mk {x : Str} {st : Stmt} {f : Addr} {fd : FuncData} {N ps : List Str} {fn : Fn} (F : FunD g.K x x (defArgs st) (defBody st) (defScope st) [] [] f fd) (S : FnScope N ps (defScope st)) (har : fn.ar = ps.length) (hsz : fn.sz = N.length)
    (hbi : ∀ (kV doc pm : Value) (an : Option Addr) (cdv ct : Value) (us : List Value), us.length = ps.length → bindArgs (PySem.W.fnOf x x (defArgs st) (defBody st) (defScope st) .none kV doc pm an cdv ct) ⟨us, []⟩ = pure (ps.zip us))
    (hb : ∀ (cal : Nat → List D → M D) (k : Nat) (cdv : Value) (A : Around) (outer : List Env) (s : Shared) (H : Hp) (E : XK), Gd (cxOf CX0 P w g.K mg base N x (defScope st) f cdv A outer s H E).nox g W0 CX0 cal k →
      PSs (cxOf CX0 P w g.K mg base N x (defScope st) f cdv A outer s H E).nox (defBody st) (rS g W0 (exSs cal fn.body))) : Row P w g mg base f fn :=
  ⟨fd, ps, fun cal k tb => fn_ok (fun_of F) S tb har hsz (hb cal k), F.kp, F.bindsN hbi⟩
theorem cal_succ {i k : Nat} {fn : Fn} (h : fs i = some fn) : calK fs (k + 1) i = callF (calK fs k) fn := by
  funext ds
  simp [calK, h]
theorem tb_all (h : ∀ i f, g.ph i = some f → ∃ fn, fs i = some fn ∧ Row P w g mg base f fn) : ∀ k, Tb P w g mg base (calK fs k) k
  | 0 => tb_zero fun i f hi => by
    obtain ⟨fn, _, fd, ps, _, h2, h3⟩ := h i f hi
    exact ⟨fd, ps, fun vs H Q E z => by
      obtain ⟨α, S, ds, _, _, q⟩ := z
      exact q.elim, h2, h3⟩
  | k + 1 => fun i f hi => by
    obtain ⟨fn, h0, fd, ps, h1, h2, h3⟩ := h i f hi
    rw [cal_succ h0]
    exact ⟨fd, ps, h1 _ _ (tb_all h k), h2, h3⟩
/-- the law's promise -/
def spLaw (K : PySem.W.Frag) (n : Nat) : Sp := fun vs H Q _ => ∃ (a : Addr) (ns : List Int), vs = [.ref a] ∧ Only H ∧ SqL K H a (ns.map V.int) ∧ ns.length ≤ n ∧ ∀ H', Q (.bl true) H'
theorem ints_tpa {K : PySem.W.Frag} {H : Hp} : ∀ ns : List Int, TpA K H (ns.map .int) (ns.map V.int)
  | [] => .nil
  | _ :: r => .cons (.int _) (ints_tpa r)
theorem law_of {m : List D → M D} {n k : Nat} {f : Addr} {fd : FuncData} {ps : List Str} (F : FnOk P w g.K mg base CX0 k f fd ps (spI g m))
    (h : ∀ ns : List Int, ns.length ≤ n → wp (m [.p (.list (ns.map .int))] []) (fun d _ => d = .p (.bool true)) (fun _ _ => False)) : FnOk P w g.K mg base CX0 k f fd ps (spLaw g.K n) :=
  F.imp fun vs H Q E z => by
    obtain ⟨b, ns, rfl, hO, hS, hl, q⟩ := z
    refine ⟨[], [], [.p (.list (ns.map .int))], ⟨rfl, List.nodup_nil, fun i o b h => by simp at h, fun i o h => by simp at h⟩, .cons (.lst (Lf.of hO hS) (ints_tpa ns)) .nil, wp_mono (h ns hl) (fun d S e α' H' _ _ v tv => ?_) fun _ _ z => z.elim⟩
    subst e
    cases tv
    exact q H'
end
end Ir
set_option Elab.async false
set_option linter.all false
set_option maxRecDepth 100000
set_option maxHeartbeats 4000001
/-! Walking runs of the small language, for every law: ir2 goes on by one construct, nxt to the next statement. -/
namespace Ir
open PySem
/-! how runs are put together -/
theorem ss_step {cal : Nat → List D → M D} {s : St} {r : Ss} {ρ ρ' : Sl} {S S' : Sto} {o : Out (Ctl × Sl)} (h : exS cal s ρ S = .val (.next, ρ') S') (h2 : exSs cal r ρ' S' = o) : exSs cal (.cons s r) ρ S = o := by
  show M.bind (exS cal s ρ) _ S = o
  unfold M.bind
  rw [h]
  exact h2
theorem ss_end {cal : Nat → List D → M D} {s : St} {r : Ss} {ρ ρ' : Sl} {S S' : Sto} {d : D} (h : exS cal s ρ S = .val (.ret d, ρ') S') : exSs cal (.cons s r) ρ S = .val (.ret d, ρ') S' := by
  show M.bind (exS cal s ρ) _ S = _
  unfold M.bind
  rw [h]
  rfl
theorem call_mk {cal : Nat → List D → M D} {f : Fn} {ds : List D} {S S' : Sto} {ρ' : Sl} {d : PyData} (h : ds.length = f.ar) (e : exSs cal f.body (ds.map some ++ List.replicate (f.sz - f.ar) none) S = .val (.ret (.p d), ρ') S') : callF cal f ds S = .val (.p d) (S'.take S.length) := by
  unfold callF
  rw [if_pos h, e]
  rfl
theorem rb_plain (n : Nat) : ∀ ds : List PyData, (ds.map D.p).all (rb n) = true
  | [] => rfl
  | d :: ds => by rw [List.map_cons, List.all_cons, rb_plain n ds]; rfl
theorem plain_of : ∀ ds : List PyData, plainOf (ds.map D.p) = some ds
  | [] => rfl
  | d :: ds => by
    show (plainOf (ds.map D.p)).map (d :: ·) = some (d :: ds)
    rw [plain_of ds]
    rfl
theorem alloc_plain (ds : List PyData) (S : Sto) : alloc (.lst (ds.map D.p)) S = .val (.ref S.length) (S ++ [.lst (ds.map D.p)]) := by
  unfold alloc
  rw [if_pos (show rbO S.length (.lst (ds.map D.p)) = true from rb_plain _ ds)]
/-- a comprehension over a fixed row of values, by what each turn keeps -/
theorem lc_inv {ds : List D} {body : D → M D} (I : Nat → Sto → Prop) (R : D → D → Prop) (step : ∀ i d S, ds[i]? = some d → I i S → ∃ e S', body d S = .val e S' ∧ R d e ∧ I (i + 1) S') :
    ∀ (n i : Nat) (acc : List D) (S : Sto), i + n = ds.length → I i S → ∃ es S', lcGo (.fix ds) body n i acc S = .val (acc ++ es) S' ∧ Paired R (ds.drop i) es ∧ I ds.length S'
  | 0, i, acc, S, h, hI => by
    have e : i = ds.length := by omega
    subst e
    refine ⟨[], S, ?_, ?_, hI⟩
    · show (match (Src.fix ds).at ds.length S with
        | some none => Out.val acc S
        | _ => .bad) = _
      simp [Src.at]
    · rw [List.drop_length]; exact .nil
  | n + 1, i, acc, S, h, hI => by
    have hi : i < ds.length := by omega
    obtain ⟨e, S1, h1, h2, h3⟩ := step i ds[i] S (List.getElem?_eq_getElem hi) hI
    obtain ⟨es, S2, h4, h5, h6⟩ := lc_inv I R step n (i + 1) (acc ++ [e]) S1 (by omega) h3
    refine ⟨e :: es, S2, ?_, ?_, h6⟩
    · show (match (Src.fix ds).at i S with
        | some none => Out.val acc S
        | some (some d) => M.bind (body d) (fun e => lcGo (.fix ds) body n (i + 1) (acc ++ [e])) S
        | none => .bad) = _
      have ea : (Src.fix ds).at i S = some (some ds[i]) := by simp [Src.at, List.getElem?_eq_getElem hi]
      rw [ea]
      show M.bind (body ds[i]) _ S = _
      unfold M.bind
      rw [h1]
      show lcGo (.fix ds) body n (i + 1) (acc ++ [e]) S1 = _
      rw [h4, List.append_assoc]
      rfl
    · rw [List.drop_eq_getElem_cons hi]
      exact .cons h2 h5
end Ir
namespace Ir
open PySem
/-! walking a body from outside in -/
section
variable {cal : Nat → List D → M D} {ρ : Sl} {S : Sto} {ok : D → Sto → Prop} {okL : List D → Sto → Prop} {okS : Ctl × Sl → Sto → Prop} {okI : Src → Sto → Prop} {ex : Ex → Sto → Prop}
theorem wpB {α β : Type} {m : M α} {f : α → M β} {S : Sto} {ok : β → Sto → Prop} {ex : Ex → Sto → Prop} (h : wp (m S) (fun a S' => wp (f a S') ok ex) ex) : wp (M.bind m f S) ok ex := by
  unfold M.bind
  cases e : m S <;> rw [e] at h <;> exact h
theorem wpO {α : Type} {o : Option α} {a : α} {S : Sto} {ok : α → Sto → Prop} {ex : Ex → Sto → Prop} (h : o = some a) (k : ok a S) : wp (M.opt o S) ok ex := by rw [h]; exact k
theorem r_var {i : Nat} (h : ∃ d, ρ[i]? = some (some d) ∧ ok d S) : wp (evE cal (.var i) ρ S) ok ex := by
  obtain ⟨d, h, k⟩ := h
  unfold evE
  rw [h]
  exact k
theorem r_cst {d : D} (k : ok d S) : wp (evE cal (.cst d) ρ S) ok ex := k
theorem r_bin {o : BOp} {a b : E} (h : wp (evE cal a ρ S) (fun x S1 => wp (evE cal b ρ S1) (fun y S2 => ∃ z, bop o x y = some z ∧ ok z S2) ex) ex) : wp (evE cal (.bin o a b) ρ S) ok ex :=
  wpB (wp_mono h (fun x S1 h => wpB (wp_mono h (fun y S2 ⟨z, e, k⟩ => wpO e k) fun _ _ z => z)) fun _ _ z => z)
theorem r_cmp {o : COp} {a b : E} (h : wp (evE cal a ρ S) (fun x S1 => wp (evE cal b ρ S1) (fun y S2 => ∃ z, cop S2 o x y = some z ∧ ok (.p (.bool z)) S2) ex) ex) : wp (evE cal (.cmp o a b) ρ S) ok ex :=
  wpB (wp_mono h (fun x S1 h => wpB (wp_mono h (fun y S2 ⟨z, e, k⟩ => wpO (by rw [e]; rfl) k) fun _ _ z => z)) fun _ _ z => z)
theorem r_chain {o o' : COp} {a b c : E} (h : wp (evE cal a ρ S) (fun x S1 => wp (evE cal b ρ S1) (fun y S2 => ∃ z, cop S2 o x y = some z ∧ (if z = true then wp (evE cal c ρ S2) (fun w S3 => ∃ z, cop S3 o' y w = some z ∧ ok (.p (.bool z)) S3) ex else ok (.p (.bool false)) S2)) ex) ex) : wp (evE cal (.chain o o' a b c) ρ S) ok ex :=
  wpB (wp_mono h (fun x S1 h => wpB (wp_mono h (fun y S2 ⟨z, e, k⟩ => wpB (wpO e (by
    cases z with
    | true => exact wpB (wp_mono k (fun w S3 ⟨z, e, k⟩ => wpO (by rw [e]; rfl) k) fun _ _ z => z)
    | false => exact k))) fun _ _ z => z)) fun _ _ z => z)
theorem r_and {a b : E} (h : wp (evE cal a ρ S) (fun x S1 => ∃ z, x = .p (.bool z) ∧ (if z = true then wp (evE cal b ρ S1) ok ex else ok (.p (.bool false)) S1)) ex) : wp (evE cal (.and a b) ρ S) ok ex :=
  wpB (wp_mono h (fun x S1 ⟨z, e, k⟩ => wpB (wpO (a := z) (by rw [e]; rfl) (by cases z <;> exact k))) fun _ _ z => z)
theorem r_or {a b : E} (h : wp (evE cal a ρ S) (fun x S1 => ∃ z, x = .p (.bool z) ∧ (if z = true then ok (.p (.bool true)) S1 else wp (evE cal b ρ S1) ok ex)) ex) : wp (evE cal (.or a b) ρ S) ok ex :=
  wpB (wp_mono h (fun x S1 ⟨z, e, k⟩ => wpB (wpO (a := z) (by rw [e]; rfl) (by cases z <;> exact k))) fun _ _ z => z)
theorem r_not {a : E} (h : wp (evE cal a ρ S) (fun x S1 => ∃ z, x = .p (.bool z) ∧ ok (.p (.bool !z)) S1) ex) : wp (evE cal (.not a) ρ S) ok ex :=
  wpB (wp_mono h (fun x S1 ⟨z, e, k⟩ => wpB (wpO (a := z) (by rw [e]; rfl) k)) fun _ _ z => z)
theorem r_idx {a b : E} (h : wp (evE cal a ρ S) (fun x S1 => wp (evE cal b ρ S1) (fun y S2 => ∃ z, getI S2 x y = some z ∧ ok z S2) ex) ex) : wp (evE cal (.idx a b) ρ S) ok ex :=
  wpB (wp_mono h (fun x S1 h => wpB (wp_mono h (fun y S2 ⟨z, e, k⟩ => wpO e k) fun _ _ z => z)) fun _ _ z => z)
theorem r_idxL {l : L} {b : E} (h : wp (evL cal l ρ S) (fun ds S1 => wp (evE cal b ρ S1) (fun y S2 => ∃ z, (asInt y).bind (fun i => L2.atI ds i) = some z ∧ ok z S2) ex) ex) : wp (evE cal (.idxL l b) ρ S) ok ex :=
  wpB (wp_mono h (fun x S1 h => wpB (wp_mono h (fun y S2 ⟨z, e, k⟩ => wpO e k) fun _ _ z => z)) fun _ _ z => z)
theorem r_slice {a : E} {lo hi : Option Int} (h : wp (evE cal a ρ S) (fun x S1 => ∃ z, sliceD x lo hi = some z ∧ ok z S1) ex) : wp (evE cal (.slice a lo hi) ρ S) ok ex :=
  wpB (wp_mono h (fun x S1 ⟨z, e, k⟩ => wpO e k) fun _ _ z => z)
theorem r_len {a : E} (h : wp (evE cal a ρ S) (fun x S1 => ∃ z, lenD S1 x = some z ∧ ok (.p (.int z)) S1) ex) : wp (evE cal (.len a) ρ S) ok ex :=
  wpB (wp_mono h (fun x S1 ⟨z, e, k⟩ => wpO (by rw [e]; rfl) k) fun _ _ z => z)
theorem r_isi {a : E} {t : Ty} (h : wp (evE cal a ρ S) (fun x S1 => ∃ z, isiD x t = some z ∧ ok (.p (.bool z)) S1) ex) : wp (evE cal (.isi a t) ρ S) ok ex :=
  wpB (wp_mono h (fun x S1 ⟨z, e, k⟩ => wpO (by rw [e]; rfl) k) fun _ _ z => z)
theorem r_toInt {a : E} (h : wp (evE cal a ρ S) (fun x S1 => ∃ z, intOf x = some z ∧ ok (.p (.int z)) S1) ex) : wp (evE cal (.toInt a) ρ S) ok ex :=
  wpB (wp_mono h (fun x S1 ⟨z, e, k⟩ => wpO (by rw [e]; rfl) k) fun _ _ z => z)
theorem r_all {l : L} (h : wp (evL cal l ρ S) (fun ds S1 => ∃ bs, boolsOf ds = some bs ∧ ok (.p (.bool (bs.all id))) S1) ex) : wp (evE cal (.all l) ρ S) ok ex :=
  wpB (wp_mono h (fun x S1 ⟨z, e, k⟩ => wpO (by rw [e]; rfl) k) fun _ _ z => z)
theorem r_tupOf {a : E} (h : wp (evE cal a ρ S) (fun x S1 => ∃ z, tupD S1 x = some z ∧ ok z S1) ex) : wp (evE cal (.tupOf a) ρ S) ok ex :=
  wpB (wp_mono h (fun x S1 ⟨z, e, k⟩ => wpO e k) fun _ _ z => z)
theorem r_wget {kvs : List (Str × PyData)} {a : E} (h : wp (evE cal a ρ S) (fun x S1 => ∃ z, wgetD kvs x = some z ∧ ok z S1) ex) : wp (evE cal (.wget kvs a) ρ S) ok ex :=
  wpB (wp_mono h (fun x S1 ⟨z, e, k⟩ => wpO e k) fun _ _ z => z)
theorem r_dictOf {a : E} (h : wp (evE cal a ρ S) (fun x S1 => ∃ z, dictD x = some z ∧ wp (alloc (.dic z) S1) ok ex) ex) : wp (evE cal (.dictOf a) ρ S) ok ex :=
  wpB (wp_mono h (fun x S1 ⟨z, e, k⟩ => wpB (wpO e k)) fun _ _ z => z)
theorem r_lenset {a : E} (h : wp (evE cal a ρ S) (fun x S1 => ∃ z, lensetD x = some z ∧ ok z S1) ex) : wp (evE cal (.lenset a) ρ S) ok ex :=
  wpB (wp_mono h (fun x S1 ⟨z, e, k⟩ => wpO e k) fun _ _ z => z)
theorem r_call {f : Nat} {as : Es} (h : wp (evEs cal as ρ S) (fun ds S1 => wp (cal f ds S1) ok ex) ex) : wp (evE cal (.call f as) ρ S) ok ex := wpB h
theorem r_callv {i : Nat} {as : Es} (h : ∃ f, ρ[i]? = some (some (.fn f)) ∧ wp (evEs cal as ρ S) (fun ds S1 => wp (cal f ds S1) ok ex) ex) : wp (evE cal (.callv i as) ρ S) ok ex := by
  obtain ⟨f, hv, h⟩ := h
  unfold evE
  rw [hv]
  exact wpB h
theorem r_tup {as : Es} (h : wp (evEs cal as ρ S) (fun ds S1 => ∃ ps, plainOf ds = some ps ∧ ds.length ≤ 1000 ∧ ok (.p (.tuple ps)) S1) ex) : wp (evE cal (.tup as) ρ S) ok ex :=
  wpB (wp_mono h (fun ds S1 ⟨ps, e, hl, k⟩ => wpO (by rw [if_pos (by rw [sizeLine_eq]; omega), e]; rfl) k) fun _ _ z => z)
theorem r_nil (k : okL [] S) : wp (evEs cal .nil ρ S) okL ex := k
theorem r_cons {e : E} {es : Es} (h : wp (evE cal e ρ S) (fun d S1 => wp (evEs cal es ρ S1) (fun ds S2 => okL (d :: ds) S2) ex) ex) : wp (evEs cal (.cons e es) ρ S) okL ex :=
  wpB (wp_mono h (fun d S1 h => wpB (wp_mono h (fun ds S2 k => k) fun _ _ z => z)) fun _ _ z => z)
theorem r_disp {as : Es} (h : wp (evEs cal as ρ S) (fun ds S1 => ds.length ≤ 100000 ∧ okL ds S1) ex) : wp (evL cal (.disp as) ρ S) okL ex :=
  wpB (wp_mono h (fun ds S1 ⟨hl, k⟩ => wpO (if_pos hl) k) fun _ _ z => z)
theorem r_lst {l : L} (h : wp (evL cal l ρ S) (fun ds S1 => wp (alloc (.lst ds) S1) ok ex) ex) : wp (evE cal (.lst l) ρ S) ok ex := wpB h
theorem r_cat {a b : E} (h : wp (evE cal a ρ S) (fun x S1 => wp (evE cal b ρ S1) (fun y S2 => ∃ z, catD S2 x y = some z ∧ okL z S2) ex) ex) : wp (evL cal (.cat a b) ρ S) okL ex :=
  wpB (wp_mono h (fun x S1 h => wpB (wp_mono h (fun y S2 ⟨z, e, k⟩ => wpO e k) fun _ _ z => z)) fun _ _ z => z)
theorem r_of {a : E} (h : wp (evE cal a ρ S) (fun x S1 => ∃ z, ofD S1 x = some z ∧ okL z S1) ex) : wp (evL cal (.of a) ρ S) okL ex :=
  wpB (wp_mono h (fun x S1 ⟨z, e, k⟩ => wpO e k) fun _ _ z => z)
theorem r_eqL {neg : Bool} {a : E} {l : L} (h : wp (evE cal a ρ S) (fun x S1 => wp (evL cal l ρ S1) (fun es S2 => ∃ ds z, lstAt S2 x = some ds ∧ eqLD neg ds es = some z ∧ ok z S2) ex) ex) : wp (evE cal (.eqL neg a l) ρ S) ok ex :=
  wpB (wp_mono h (fun x S1 h => wpB (wp_mono h (fun y S2 ⟨ds, z, e, e2, k⟩ => wpO (by rw [e]; exact e2) k) fun _ _ z => z)) fun _ _ z => z)
theorem r_pop {a b : E} (h : wp (evE cal a ρ S) (fun x S1 => ∃ ds, lstAt S1 x = some ds ∧ wp (evE cal b ρ S1) (fun y S2 => wp (popD x y S2) ok ex) ex) ex) : wp (evE cal (.popAt a b) ρ S) ok ex :=
  wpB (wp_mono h (fun x S1 ⟨ds, e, h⟩ => wpB (wpO e (wpB (wp_mono h (fun y S2 k => k) fun _ _ z => z)))) fun _ _ z => z)
theorem s_asgR {i : Nat} {e : E} (h : wp (evE cal e ρ S) (fun d S1 => okS (.next, ρ.set i (some d)) S1) ex) : wp (exS cal (.asg i e) ρ S) okS ex := wpB (wp_mono h (fun _ _ k => k) fun _ _ z => z)
theorem s_setR {o i v : E} (h : wp (evE cal v ρ S) (fun d S1 => wp (evE cal o ρ S1) (fun x S2 => wp (evE cal i ρ S2) (fun y S3 => wp (setD x y d S3) (fun _ S4 => okS (.next, ρ) S4) ex) ex) ex) ex) : wp (exS cal (.setI o i v) ρ S) okS ex :=
  wpB (wp_mono h (fun d S1 h => wpB (wp_mono h (fun x S2 h => wpB (wp_mono h (fun y S3 h => wpB (wp_mono h (fun _ _ k => k) fun _ _ z => z)) fun _ _ z => z)) fun _ _ z => z)) fun _ _ z => z)
theorem s_retR {e : E} (h : wp (evE cal e ρ S) (fun d S1 => okS (.ret d, ρ) S1) ex) : wp (exS cal (.ret e) ρ S) okS ex := wpB (wp_mono h (fun _ _ k => k) fun _ _ z => z)
theorem s_iteR {t : E} {a b : Ss} (h : wp (evE cal t ρ S) (fun x S1 => ∃ z, x = .p (.bool z) ∧ (if z = true then wp (exSs cal a ρ S1) okS ex else wp (exSs cal b ρ S1) okS ex)) ex) : wp (exS cal (.ite t a b) ρ S) okS ex :=
  wpB (wp_mono h (fun x S1 ⟨z, e, k⟩ => wpB (wpO (a := z) (by rw [e]; rfl) (by cases z <;> exact k))) fun _ _ z => z)
theorem s_unpR {is : List Nat} {e : E} (h : wp (evE cal e ρ S) (fun d S1 => ∃ ρ', tgt is false d ρ = some ρ' ∧ okS (.next, ρ') S1) ex) : wp (exS cal (.unp is e) ρ S) okS ex :=
  wpB (wp_mono h (fun x S1 ⟨z, e, k⟩ => wpB (wpO e k)) fun _ _ z => z)
theorem ss_nilR (k : okS (.next, ρ) S) : wp (exSs cal .nil ρ S) okS ex := k
theorem ss_consR {s : St} {r : Ss} (h : wp (exS cal s ρ S) (fun c S1 => (match c with
    | (.next, ρ') => wp (exSs cal r ρ' S1) okS ex
    | c => okS c S1)) ex) : wp (exSs cal (.cons s r) ρ S) okS ex :=
  wpB (wp_mono h (fun c S1 k => by
    obtain ⟨c, ρ'⟩ := c
    cases c <;> exact k) fun _ _ z => z)
theorem call_wp {f : Fn} {ds : List D} (h : ds.length = f.ar) (e : wp (exSs cal f.body (ds.map some ++ List.replicate (f.sz - f.ar) none) S) (fun c S' => ∃ d, c.1 = .ret (.p d) ∧ ok (.p d) (S'.take S.length)) (fun _ _ => False)) : wp (callF cal f ds S) ok ex := by
  unfold callF
  rw [if_pos h]
  cases q : exSs cal f.body (ds.map some ++ List.replicate (f.sz - f.ar) none) S with
  | val c S' =>
    rw [q] at e
    obtain ⟨d, e1, k⟩ := e
    obtain ⟨c, ρ'⟩ := c
    have e1 : c = .ret (.p d) := e1
    subst e1
    exact k
  | exc x S' => rw [q] at e; exact e.elim
  | bad => rw [q] at e; exact e.elim
end
theorem eq_int (i j : Int) : eqD (.p (.int i)) (.p (.int j)) = some (decide (i = j)) := by
  simp [eqD, sameScal, PyData.eqv]
  rfl
theorem r_setD {j : Nat} {k : Int} {d : D} {S : Sto} {ok : Unit → Sto → Prop} {ex : Ex → Sto → Prop} (h : ∃ ds n, S[j]? = some (.lst ds) ∧ L2.ixN ds.length k = some n ∧ rb j d = true ∧ ok () (S.set j (.lst (ds.set n d)))) : wp (setD (.ref j) (.p (.int k)) d S) ok ex := by
  obtain ⟨ds, n, h, h2, h3, q⟩ := h
  unfold setD
  simp only [h, h2, h3, if_true]
  exact q
theorem r_popD {j : Nat} {S : Sto} {ok : D → Sto → Prop} {ex : Ex → Sto → Prop} (h : ∃ d ds, S[j]? = some (.lst (d :: ds)) ∧ ok d (S.set j (.lst ds))) : wp (popD (.ref j) (.p (.int 0)) S) ok ex := by
  obtain ⟨d, ds, h, q⟩ := h
  unfold popD
  simp only [h, if_true]
  exact q
theorem ifB {z : Bool} {p q : Prop} (h1 : z = true → p) (h2 : z = false → q) : if z = true then p else q := by
  cases z
  · exact h2 rfl
  · exact h1 rfl
theorem ifT {p q : Prop} (h : p) : if true = true then p else q := by rw [if_pos rfl]; exact h
theorem ifF {p q : Prop} (h : q) : if false = true then p else q := by rw [if_neg (by decide)]; exact h


theorem plain_ints : ∀ ms : List Int, plainOf (ms.map fun i => D.p (.int i)) = some (ms.map .int)
  | [] => rfl
  | m :: ms => by
    show (plainOf (ms.map fun i => D.p (.int i))).map (PyData.int m :: ·) = _
    rw [plain_ints ms]
    rfl
theorem cop_eq_int (S : Sto) (i j : Int) : cop S .eq (.p (.int i)) (.p (.int j)) = some (decide (i = j)) := eq_int i j
theorem cop_lt (S : Sto) (i j : Int) : cop S .lt (.p (.int i)) (.p (.int j)) = some (decide (i < j)) := rfl
theorem cop_le (S : Sto) (i j : Int) : cop S .le (.p (.int i)) (.p (.int j)) = some (decide (i ≤ j)) := rfl
theorem cop_gt (S : Sto) (i j : Int) : cop S .gt (.p (.int i)) (.p (.int j)) = some (decide (j < i)) := rfl
theorem cop_ge (S : Sto) (i j : Int) : cop S .ge (.p (.int i)) (.p (.int j)) = some (decide (j ≤ i)) := rfl
theorem bop_add (i j : Int) : bop .add (.p (.int i)) (.p (.int j)) = some (.p (.int (i + j))) := rfl
theorem bop_sub (i j : Int) : bop .sub (.p (.int i)) (.p (.int j)) = some (.p (.int (i - j))) := rfl
theorem bop_mod {i j : Int} (h : 0 < j) : bop .mod (.p (.int i)) (.p (.int j)) = some (.p (.int (i % j))) := if_pos h
theorem bop_mulR {i j : Int} (h : -(2 ^ 64) < j ∧ j < 2 ^ 64) : bop .mul (.p (.int i)) (.p (.int j)) = some (.p (.int (i * j))) := if_pos (.inr h)
theorem bop_mulL {i j : Int} (h : -(2 ^ 64) < i ∧ i < 2 ^ 64) : bop .mul (.p (.int i)) (.p (.int j)) = some (.p (.int (i * j))) := if_pos (.inl h)
theorem bop_pow {i j : Int} (h : 0 ≤ j ∧ j ≤ 1000000 ∧ i.natAbs < 2 ^ 64) : bop .pow (.p (.int i)) (.p (.int j)) = some (.p (.int (i ^ j.toNat))) := if_pos h
theorem bop_fdiv {i j : Int} (h : 0 < j ∧ j.natAbs.log2 < 9000) : bop .fdiv (.p (.int i)) (.p (.int j)) = some (.p (.int (i / j))) := if_pos h
theorem eqL_ints (neg : Bool) : ∀ ms : List Int, eqLD neg (ms.map fun i => D.p (.int i)) [] = some (.p (.bool (if neg then !ms.isEmpty else ms.isEmpty)))
  | [] => by cases neg <;> rfl
  | m :: ms => by
    unfold eqLD
    rw [plain_ints]
    have hs : SeqAt.shaped (.list ((m :: ms).map PyData.int)) = true := by
      exact PySem.W.ke_shaped_ints (m :: ms)
    have he : PyData.eqvAll ((m :: ms).map PyData.int) [] = false := by
      simp [PyData.eqvAll]
    show (if SeqAt.shaped (.list ((m :: ms).map PyData.int)) = true ∧ SeqAt.shaped (.list []) = true then some (D.p (.bool (if neg then !PyData.eqvAll ((m :: ms).map PyData.int) [] else PyData.eqvAll ((m :: ms).map PyData.int) []))) else none) = _
    rw [if_pos ⟨hs, rfl⟩, he]
    cases neg <;> rfl
def Got {α : Type} (o : Option α) (p : α → Prop) : Prop := ∃ z, o = some z ∧ p z
theorem ex_get {S : Sto} {x y : D} {p : D → Prop} (h : Got (getI S x y) p) : ∃ z, getI S x y = some z ∧ p z := h
theorem ex_bool {b : Bool} {p : Bool → Prop} (k : p b) : ∃ z, D.p (.bool b) = D.p (.bool z) ∧ p z := ⟨b, rfl, k⟩
theorem ex_eq {S : Sto} {i j : Int} {p : Bool → Prop} (k : p (decide (i = j))) : ∃ z, cop S .eq (.p (.int i)) (.p (.int j)) = some z ∧ p z := ⟨_, eq_int i j, k⟩
theorem ex_lt {S : Sto} {i j : Int} {p : Bool → Prop} (k : p (decide (i < j))) : ∃ z, cop S .lt (.p (.int i)) (.p (.int j)) = some z ∧ p z := ⟨_, rfl, k⟩
theorem ex_le {S : Sto} {i j : Int} {p : Bool → Prop} (k : p (decide (i ≤ j))) : ∃ z, cop S .le (.p (.int i)) (.p (.int j)) = some z ∧ p z := ⟨_, rfl, k⟩
theorem ex_gt {S : Sto} {i j : Int} {p : Bool → Prop} (k : p (decide (j < i))) : ∃ z, cop S .gt (.p (.int i)) (.p (.int j)) = some z ∧ p z := ⟨_, rfl, k⟩
theorem ex_add {i j : Int} {p : D → Prop} (k : p (.p (.int (i + j)))) : ∃ z, bop .add (.p (.int i)) (.p (.int j)) = some z ∧ p z := ⟨_, rfl, k⟩
theorem ex_sub {i j : Int} {p : D → Prop} (k : p (.p (.int (i - j)))) : ∃ z, bop .sub (.p (.int i)) (.p (.int j)) = some z ∧ p z := ⟨_, rfl, k⟩
theorem ex_mod {i j : Int} {p : D → Prop} (h : 0 < j) (k : p (.p (.int (i % j)))) : ∃ z, bop .mod (.p (.int i)) (.p (.int j)) = some z ∧ p z := ⟨_, bop_mod h, k⟩
theorem ex_mulR {i j : Int} {p : D → Prop} (h : -(2 ^ 64) < j ∧ j < 2 ^ 64) (k : p (.p (.int (i * j)))) : ∃ z, bop .mul (.p (.int i)) (.p (.int j)) = some z ∧ p z := ⟨_, bop_mulR h, k⟩
theorem ex_mulL {i j : Int} {p : D → Prop} (h : -(2 ^ 64) < i ∧ i < 2 ^ 64) (k : p (.p (.int (i * j)))) : ∃ z, bop .mul (.p (.int i)) (.p (.int j)) = some z ∧ p z := ⟨_, bop_mulL h, k⟩
theorem ex_pow {i j : Int} {p : D → Prop} (h : 0 ≤ j ∧ j ≤ 1000000) (h2 : i.natAbs < 2 ^ 64) (k : p (.p (.int (i ^ j.toNat)))) : ∃ z, bop .pow (.p (.int i)) (.p (.int j)) = some z ∧ p z := ⟨_, bop_pow ⟨h.1, h.2, h2⟩, k⟩
theorem ex_fdiv {i j : Int} {p : D → Prop} (h : 0 < j) (h2 : j.natAbs.log2 < 9000) (k : p (.p (.int (i / j)))) : ∃ z, bop .fdiv (.p (.int i)) (.p (.int j)) = some z ∧ p z := ⟨_, bop_fdiv ⟨h, h2⟩, k⟩
theorem ex_len {ds : List D} {p : Prop} (h : ds.length ≤ 100000) (k : p) : ds.length ≤ 100000 ∧ p := ⟨h, k⟩
def GotP (ds : List D) (p : List PyData → Prop) : Prop := ∃ ps, plainOf ds = some ps ∧ ds.length ≤ 1000 ∧ p ps
theorem ex_plain {ds : List D} {p : List PyData → Prop} (h : GotP ds p) : ∃ ps, plainOf ds = some ps ∧ ds.length ≤ 1000 ∧ p ps := h

end Ir
namespace Ir
open PySem
section
variable {cal : Nat → List D → M D} {ρ : Sl} {S : Sto} {okL : List D → Sto → Prop} {ex : Ex → Sto → Prop}
theorem r_lc {it : Wi} {tg : List Nat} {one : Bool} {elt : E} (h : wp (evI cal it ρ S) (fun src S1 => ∃ n, src.size S1 = some n ∧ n ≤ 100000 ∧ wp (lcGo src (fun d => M.calm (match tgt tg one d (wipeD ρ tg) with
        | some ρ' => evE cal elt ρ'
        | none => M.bad)) n 0 [] S1) okL ex) ex) : wp (evL cal (.lc it tg one elt) ρ S) okL ex :=
  wpB (wp_mono h (fun src S1 q => by
    obtain ⟨n, e1, e2, q⟩ := q
    show wp (match src.size S1 with
      | some n => if n ≤ 100000 then lcGo src (fun d => M.calm (match tgt tg one d (wipeD ρ tg) with
        | some ρ' => evE cal elt ρ'
        | none => M.bad)) n 0 [] S1 else Out.bad
      | none => .bad) okL ex
    rw [e1]
    show wp (if n ≤ 100000 then lcGo src (fun d => M.calm (match tgt tg one d (wipeD ρ tg) with
        | some ρ' => evE cal elt ρ'
        | none => M.bad)) n 0 [] S1 else Out.bad) okL ex
    rw [if_pos e2]
    exact q) fun _ _ z => z)
theorem lc_S {src : Src} {body : D → M D} {n i : Nat} {acc : List D} (h : ∃ d, src.at i S = some (some d) ∧ wp (body d S) (fun e S1 => wp (lcGo src body n (i + 1) (acc ++ [e]) S1) okL ex) ex) : wp (lcGo src body (n + 1) i acc S) okL ex := by
  obtain ⟨d, e, h⟩ := h
  show wp ((match src.at i S with
    | some none => Out.val acc S
    | some (some d) => M.bind (body d) (fun e => lcGo src body n (i + 1) (acc ++ [e])) S
    | none => .bad)) okL ex
  rw [e]
  exact wpB h
theorem lc_Z {src : Src} {body : D → M D} {i : Nat} {acc : List D} (h : src.at i S = some none) (k : okL acc S) : wp (lcGo src body 0 i acc S) okL ex := by
  show wp ((match src.at i S with
    | some none => Out.val acc S
    | _ => .bad)) okL ex
  rw [h]
  exact k
theorem wpC {α : Type} {m : M α} {S : Sto} {ok : α → Sto → Prop} {ex : Ex → Sto → Prop} (h : wp (m S) ok (fun _ _ => False)) : wp (M.calm m S) ok ex := by
  unfold M.calm
  cases e : m S with
  | val a S' => rw [e] at h; exact h
  | exc a S' => rw [e] at h; exact h.elim
  | bad => rw [e] at h; exact h.elim
end
end Ir
namespace Ir
open PySem
section
variable {cal : Nat → List D → M D} {ρ : Sl} {S : Sto} {ok : D → Sto → Prop} {okL : List D → Sto → Prop} {okS : Ctl × Sl → Sto → Prop} {okO : Option Int → Sto → Prop} {ex : Ex → Sto → Prop}
theorem r_slx {a : E} {lo hi : Bd} (h : wp (evE cal a ρ S) (fun x S1 => wp (evB cal lo ρ S1) (fun l S2 => wp (evB cal hi ρ S2) (fun u S3 => ∃ z, sliceD x l u = some z ∧ ok z S3) ex) ex) ex) : wp (evE cal (.slx a lo hi) ρ S) ok ex :=
  wpB (wp_mono h (fun x S1 h => wpB (wp_mono h (fun l S2 h => wpB (wp_mono h (fun u S3 ⟨z, e, k⟩ => wpO e k) fun _ _ z => z)) fun _ _ z => z)) fun _ _ z => z)
theorem r_no (k : okO none S) : wp (evB cal .no ρ S) okO ex := k
theorem r_at {e : E} (h : wp (evE cal e ρ S) (fun x S1 => ∃ i, asInt x = some i ∧ okO (some i) S1) ex) : wp (evB cal (.at_ e) ρ S) okO ex :=
  wpB (wp_mono h (fun x S1 ⟨i, e, k⟩ => wpO (by rw [e]; rfl) k) fun _ _ z => z)
theorem r_cut {a : E} {lo hi : Bd} (h : wp (evE cal a ρ S) (fun x S1 => wp (evB cal lo ρ S1) (fun l S2 => wp (evB cal hi ρ S2) (fun u S3 => ∃ z, cutLD S3 x l u = some z ∧ okL z S3) ex) ex) ex) : wp (evL cal (.cut a lo hi) ρ S) okL ex :=
  wpB (wp_mono h (fun x S1 h => wpB (wp_mono h (fun l S2 h => wpB (wp_mono h (fun u S3 ⟨z, e, k⟩ => wpO e k) fun _ _ z => z)) fun _ _ z => z)) fun _ _ z => z)
theorem r_txt {o : TxO} {a : E} (h : wp (evE cal a ρ S) (fun x S1 => ∃ z, txtD o x = some z ∧ ok z S1) ex) : wp (evE cal (.txt o a) ρ S) ok ex :=
  wpB (wp_mono h (fun x S1 ⟨z, e, k⟩ => wpO e k) fun _ _ z => z)
theorem r_strOf {a : E} (h : wp (evE cal a ρ S) (fun x S1 => ∃ z, strOfD x = some z ∧ ok z S1) ex) : wp (evE cal (.strOf a) ρ S) ok ex :=
  wpB (wp_mono h (fun x S1 ⟨z, e, k⟩ => wpO e k) fun _ _ z => z)
theorem r_join {a b : E} (h : wp (evE cal a ρ S) (fun x S1 => ∃ w, strD x = some w ∧ wp (evE cal b ρ S1) (fun y S2 => ∃ z, joinD S2 x y = some z ∧ ok z S2) ex) ex) : wp (evE cal (.join a b) ρ S) ok ex :=
  wpB (wp_mono h (fun x S1 ⟨w, e, h⟩ => wpB (wpO e (wpB (wp_mono h (fun y S2 ⟨z, e, k⟩ => wpO e k) fun _ _ z => z)))) fun _ _ z => z)
theorem r_ext {a b : E} (h : wp (evE cal a ρ S) (fun x S1 => ∃ ds, lstAt S1 x = some ds ∧ wp (evE cal b ρ S1) (fun y S2 => wp (extD x y S2) ok ex) ex) ex) : wp (evE cal (.extend a b) ρ S) ok ex :=
  wpB (wp_mono h (fun x S1 ⟨ds, e, h⟩ => wpB (wpO e (wpB (wp_mono h (fun y S2 k => k) fun _ _ z => z)))) fun _ _ z => z)
theorem r_app {a b : E} (h : wp (evE cal a ρ S) (fun x S1 => ∃ ds, lstAt S1 x = some ds ∧ wp (evE cal b ρ S1) (fun y S2 => wp (appD x y S2) ok ex) ex) ex) : wp (evE cal (.append a b) ρ S) ok ex :=
  wpB (wp_mono h (fun x S1 ⟨ds, e, h⟩ => wpB (wpO e (wpB (wp_mono h (fun y S2 k => k) fun _ _ z => z)))) fun _ _ z => z)
theorem r_dget {a b : E} (h : wp (evE cal a ρ S) (fun x S1 => ∃ kvs, dicAt S1 x = some kvs ∧ wp (evE cal b ρ S1) (fun y S2 => ∃ z, dgetD S2 x y = some z ∧ ok z S2) ex) ex) : wp (evE cal (.dget a b) ρ S) ok ex :=
  wpB (wp_mono h (fun x S1 ⟨ds, e, h⟩ => wpB (wpO e (wpB (wp_mono h (fun y S2 ⟨z, e, k⟩ => wpO e k) fun _ _ z => z)))) fun _ _ z => z)
theorem r_neg {a : E} (h : wp (evE cal a ρ S) (fun x S1 => ∃ i, asInt x = some i ∧ ok (.p (.int (-i))) S1) ex) : wp (evE cal (.neg a) ρ S) ok ex :=
  wpB (wp_mono h (fun x S1 ⟨i, e, k⟩ => wpO (by rw [e]; rfl) k) fun _ _ z => z)
theorem r_any {l : L} (h : wp (evL cal l ρ S) (fun ds S1 => ∃ bs, boolsOf ds = some bs ∧ ok (.p (.bool (bs.any id))) S1) ex) : wp (evE cal (.any l) ρ S) ok ex :=
  wpB (wp_mono h (fun x S1 ⟨z, e, k⟩ => wpO (by rw [e]; rfl) k) fun _ _ z => z)
theorem r_ifx {t a b : E} (h : wp (evE cal t ρ S) (fun x S1 => ∃ z, x = .p (.bool z) ∧ (if z = true then wp (evE cal a ρ S1) ok ex else wp (evE cal b ρ S1) ok ex)) ex) : wp (evE cal (.ifx t a b) ρ S) ok ex :=
  wpB (wp_mono h (fun x S1 ⟨z, e, k⟩ => wpB (wpO (a := z) (by rw [e]; rfl) (by cases z <;> exact k))) fun _ _ z => z)
theorem s_exprR {e : E} (h : wp (evE cal e ρ S) (fun _ S1 => okS (.next, ρ) S1) ex) : wp (exS cal (.expr e) ρ S) okS ex := wpB (wp_mono h (fun _ _ k => k) fun _ _ z => z)
/-- the body of a loop, at one thing -/
def turn (cal : Nat → List D → M D) (tg : List Nat) (one : Bool) (body : Ss) (d : D) (ρ' : Sl) : M (Ctl × Sl) := match tgt tg one d ρ' with
  | some ρ'' => exSs cal body ρ''
  | none => M.bad
theorem s_forR {it : Wi} {tg : List Nat} {one : Bool} {body : Ss} (h : wp (evI cal it ρ S) (fun src S1 => ∃ n, src.size S1 = some n ∧ wp (forGo src (turn cal tg one body) n 0 ρ S1) okS ex) ex) : wp (exS cal (.for_ it tg one body) ρ S) okS ex :=
  wpB (wp_mono h (fun src S1 q => by
    obtain ⟨n, e1, q⟩ := q
    show wp (match src.size S1 with
      | some n => forGo src (turn cal tg one body) n 0 ρ S1
      | none => Out.bad) okS ex
    rw [e1]
    exact q) fun _ _ z => z)
/-- a loop over a fixed row of values, by what each turn keeps -/
theorem for_inv {ds : List D} {body : D → Sl → M (Ctl × Sl)} (I : Nat → Sl → Sto → Prop) (done : ∀ ρ S, I ds.length ρ S → okS (.next, ρ) S)
    (step : ∀ i d ρ S, ds[i]? = some d → I i ρ S → wp (body d ρ S) (fun c S' => match c with
      | (.next, ρ') => I (i + 1) ρ' S'
      | (.cont, ρ') => I (i + 1) ρ' S'
      | (.brk, ρ') => okS (.next, ρ') S'
      | (.ret d, ρ') => okS (.ret d, ρ') S') ex) : ∀ (n i : Nat) (ρ : Sl) (S : Sto), i + n = ds.length → I i ρ S → wp (forGo (.fix ds) body n i ρ S) okS ex
  | 0, i, ρ, S, h, hI => by
    have e : i = ds.length := by omega
    subst e
    show wp (match (Src.fix ds).at ds.length S with
      | some none => Out.val (Ctl.next, ρ) S
      | _ => .bad) okS ex
    have ea : (Src.fix ds).at ds.length S = some none := by simp [Src.at]
    rw [ea]
    exact done ρ S hI
  | n + 1, i, ρ, S, h, hI => by
    have hi : i < ds.length := by omega
    have ea : (Src.fix ds).at i S = some (some ds[i]) := by simp [Src.at, List.getElem?_eq_getElem hi]
    have hs := step i ds[i] ρ S (List.getElem?_eq_getElem hi) hI
    show wp (match (Src.fix ds).at i S with
      | some none => Out.val (Ctl.next, ρ) S
      | some (some d) => M.bind (body d ρ) (fun c => match c with
        | (.next, ρ') => forGo (.fix ds) body n (i + 1) ρ'
        | (.cont, ρ') => forGo (.fix ds) body n (i + 1) ρ'
        | (.brk, ρ') => M.pure (.next, ρ')
        | (.ret d, ρ') => M.pure (.ret d, ρ')) S
      | none => .bad) okS ex
    rw [ea]
    refine wpB (wp_mono hs (fun c S' k => ?_) fun _ _ z => z)
    obtain ⟨c, ρ'⟩ := c
    cases c with
    | next => exact for_inv I done step n (i + 1) ρ' S' (by omega) k
    | cont => exact for_inv I done step n (i + 1) ρ' S' (by omega) k
    | brk => exact k
    | ret d => exact k
end
theorem ex_asInt {i : Int} {p : Int → Prop} (k : p i) : ∃ j, asInt (.p (.int i)) = some j ∧ p j := ⟨i, rfl, k⟩

end Ir
set_option Elab.async false
set_option linter.all false
set_option maxRecDepth 100000
set_option maxHeartbeats 4000001
/-! Runs of the small language by equations: simp rewrites a run from its head on and looks at nothing behind what it does not know. -/
namespace Ir
open PySem
/-- bears what it names, so that simp leaves that as it is -/
def Lz {α : Type} (_ : α) : Type := Unit
def Out.then {α β : Type} (o : Out α) (f : α → Sto → Out β) (_ : Lz f := ()) : Out β := match o with
  | .val a S => f a S
  | .exc e S => .exc e S
  | .bad => .bad
def optA {α : Type} (o : Option α) (S : Sto) : Out α := match o with
  | some a => .val a S
  | none => .bad
def boolA {α : Type} (x : D) (a b : Out α) (_ : Lz a := ()) (_ : Lz b := ()) : Out α := match x with
  | .p (.bool true) => a
  | .p (.bool false) => b
  | _ => .bad
def seqA (o : Out (Ctl × Sl)) (f : Sl → Sto → Out (Ctl × Sl)) (_ : Lz f := ()) : Out (Ctl × Sl) := match o with
  | .val (.next, ρ) S => f ρ S
  | o => o
theorem then_c {α β : Type} {o : Out α} {f g : α → Sto → Out β} (h : ∀ a S, f a S = g a S) : o.then f = o.then g := by
  have e : f = g := funext fun a => funext fun S => h a S
  subst e; rfl
theorem then_val {α β : Type} (a : α) (S : Sto) (f : α → Sto → Out β) : (Out.val a S).then f = f a S := rfl
theorem optA_some {α : Type} (a : α) (S : Sto) : optA (some a) S = .val a S := rfl
theorem boolA_t {α : Type} (a b : Out α) : boolA (.p (.bool true)) a b = a := rfl
theorem boolA_f {α : Type} (a b : Out α) : boolA (.p (.bool false)) a b = b := rfl
theorem seqA_next (ρ : Sl) (S : Sto) (f : Sl → Sto → Out (Ctl × Sl)) : seqA (.val (.next, ρ) S) f = f ρ S := rfl
theorem seqA_ret (d : D) (ρ : Sl) (S : Sto) (f : Sl → Sto → Out (Ctl × Sl)) : seqA (.val (.ret d, ρ) S) f = .val (.ret d, ρ) S := rfl
theorem then_then {α β γ : Type} (o : Out α) (f : α → Sto → Out β) (k : β → Sto → Out γ) : (o.then f).then k = o.then fun a S => (f a S).then k := by cases o <;> rfl
theorem boolA_then {α β : Type} (x : D) (a b : Out α) (f : α → Sto → Out β) : (boolA x a b).then f = boolA x (a.then f) (b.then f) := by
  unfold boolA; split <;> rfl
theorem seqA_then {α : Type} (o : Out α) (g : α → Sto → Out (Ctl × Sl)) (f : Sl → Sto → Out (Ctl × Sl)) : seqA (o.then g) f = o.then fun a S => seqA (g a S) f := by cases o <;> rfl
theorem seqA_boolA (x : D) (a b : Out (Ctl × Sl)) (f : Sl → Sto → Out (Ctl × Sl)) : seqA (boolA x a b) f = boolA x (seqA a f) (seqA b f) := by
  unfold boolA; split <;> rfl
theorem wp_val_ {α : Type} (a : α) (S : Sto) (ok : α → Sto → Prop) (ex : Ex → Sto → Prop) : wp (.val a S) ok ex = ok a S := rfl
theorem wp_then {α β : Type} {o : Out α} {f : α → Sto → Out β} {ok : β → Sto → Prop} {ex : Ex → Sto → Prop} (h : wp o (fun a S' => wp (f a S') ok ex) ex) : wp (o.then f) ok ex := by
  cases o <;> exact h
theorem bind_at {α β : Type} (m : M α) (f : α → M β) (S : Sto) : M.bind m f S = (m S).then f := by
  unfold M.bind Out.then; cases m S <;> rfl
theorem opt_at {α : Type} (o : Option α) (S : Sto) : M.opt o S = optA o S := by cases o <;> rfl
theorem asB {α : Type} (x : D) (a b : M α) (S : Sto) : M.bind (M.opt (asBool x)) (fun k => if k = true then a else b) S = boolA x (a S) (b S) := by
  unfold boolA
  split
  · rfl
  · rfl
  · rename_i h1 h2
    have : asBool x = none := by
      unfold asBool
      split
      · rename_i b; cases b
        · exact absurd rfl h2
        · exact absurd rfl h1
      · rfl
    rw [this]; rfl
section
variable (cal : Nat → List D → M D) (ρ : Sl) (S : Sto)
theorem v_var (i : Nat) : evE cal (.var i) ρ S = optA (match ρ[i]? with | some (some d) => some d | _ => none) S := rfl
theorem v_cst (d : D) : evE cal (.cst d) ρ S = .val d S := rfl
theorem v_bin (o : BOp) (a b : E) : evE cal (.bin o a b) ρ S = (evE cal a ρ S).then fun x S1 => (evE cal b ρ S1).then fun y S2 => optA (bop o x y) S2 := rfl
theorem v_cmp (o : COp) (a b : E) : evE cal (.cmp o a b) ρ S = (evE cal a ρ S).then fun x S1 => (evE cal b ρ S1).then fun y S2 => optA ((cop S2 o x y).map fun k => .p (.bool k)) S2 := rfl
theorem v_chain (o o' : COp) (a b c : E) : evE cal (.chain o o' a b c) ρ S = (evE cal a ρ S).then fun x S1 => (evE cal b ρ S1).then fun y S2 => (optA ((cop S2 o x y).map fun k => D.p (.bool k)) S2).then fun k S3 =>
    boolA k ((evE cal c ρ S3).then fun z S4 => optA ((cop S4 o' y z).map fun k => .p (.bool k)) S4) (.val (.p (.bool false)) S3) := by
  show (evE cal a ρ S).then (fun x S1 => (evE cal b ρ S1).then fun y S2 => M.bind (fun S => M.opt (cop S o x y) S) (fun k => if k = true then M.bind (evE cal c ρ) (fun z => fun S => M.opt ((cop S o' y z).map fun k => D.p (.bool k)) S) else M.pure (.p (.bool false))) S2) = _
  refine then_c fun x S1 => ?_; refine then_c fun y S2 => ?_
  show (M.opt (cop S2 o x y) S2).then (fun k => if k = true then M.bind (evE cal c ρ) (fun z => fun S => M.opt ((cop S o' y z).map fun k => D.p (.bool k)) S) else M.pure (.p (.bool false))) = _
  cases cop S2 o x y with
  | none => rfl
  | some k => cases k <;> rfl
theorem v_and (a b : E) : evE cal (.and a b) ρ S = (evE cal a ρ S).then fun x S1 => boolA x (evE cal b ρ S1) (.val (.p (.bool false)) S1) := by
  refine (show _ = (evE cal a ρ S).then _ from rfl).trans ?_
  refine then_c fun x S1 => ?_
  exact asB _ _ _ _
theorem v_or (a b : E) : evE cal (.or a b) ρ S = (evE cal a ρ S).then fun x S1 => boolA x (.val (.p (.bool true)) S1) (evE cal b ρ S1) := by
  refine (show _ = (evE cal a ρ S).then _ from rfl).trans ?_
  refine then_c fun x S1 => ?_
  exact asB _ _ _ _
theorem v_not (a : E) : evE cal (.not a) ρ S = (evE cal a ρ S).then fun x S1 => boolA x (.val (.p (.bool false)) S1) (.val (.p (.bool true)) S1) := by
  show (evE cal a ρ S).then (fun x S1 => M.bind (M.opt (asBool x)) (fun k => M.pure (D.p (.bool (!k)))) S1) = _
  refine then_c fun x S1 => ?_
  refine Eq.trans ?_ (asB x (M.pure (D.p (.bool false))) (M.pure (D.p (.bool true))) S1)
  show M.bind _ _ S1 = M.bind _ _ S1
  congr; funext k; cases k <;> rfl
theorem v_ifx (t a b : E) : evE cal (.ifx t a b) ρ S = (evE cal t ρ S).then fun x S1 => boolA x (evE cal a ρ S1) (evE cal b ρ S1) := by
  refine (show _ = (evE cal t ρ S).then _ from rfl).trans ?_
  refine then_c fun x S1 => ?_
  exact asB _ _ _ _
theorem v_neg (a : E) : evE cal (.neg a) ρ S = (evE cal a ρ S).then fun x S1 => optA ((asInt x).map fun i => .p (.int (-i))) S1 := rfl
theorem v_call (f : Nat) (as : Es) : evE cal (.call f as) ρ S = (evEs cal as ρ S).then fun ds S1 => cal f ds S1 := rfl
theorem v_tup (as : Es) : evE cal (.tup as) ρ S = (evEs cal as ρ S).then fun ds S1 => optA (if ds.length ≤ sizeLine then (plainOf ds).map fun ps => .p (.tuple ps) else none) S1 := rfl
theorem v_lst (l : L) : evE cal (.lst l) ρ S = (evL cal l ρ S).then fun ds S1 => alloc (.lst ds) S1 := rfl
theorem v_idx (a b : E) : evE cal (.idx a b) ρ S = (evE cal a ρ S).then fun x S1 => (evE cal b ρ S1).then fun y S2 => optA (getI S2 x y) S2 := rfl
theorem v_idxL (l : L) (b : E) : evE cal (.idxL l b) ρ S = (evL cal l ρ S).then fun ds S1 => (evE cal b ρ S1).then fun y S2 => optA ((asInt y).bind fun i => L2.atI ds i) S2 := rfl
theorem v_slice (a : E) (lo hi : Option Int) : evE cal (.slice a lo hi) ρ S = (evE cal a ρ S).then fun x S1 => optA (sliceD x lo hi) S1 := rfl
theorem v_strOf (a : E) : evE cal (.strOf a) ρ S = (evE cal a ρ S).then fun x S1 => optA (strOfD x) S1 := rfl
theorem v_join (a b : E) : evE cal (.join a b) ρ S = (evE cal a ρ S).then fun x S1 => (optA (strD x) S1).then fun _ S1 => (evE cal b ρ S1).then fun y S2 => optA (joinD S2 x y) S2 := rfl
theorem v_extend (a e : E) : evE cal (.extend a e) ρ S = (evE cal a ρ S).then fun x S1 => (optA (lstAt S1 x) S1).then fun _ S1 => (evE cal e ρ S1).then fun y S2 => extD x y S2 := rfl
theorem v_append (a e : E) : evE cal (.append a e) ρ S = (evE cal a ρ S).then fun x S1 => (optA (lstAt S1 x) S1).then fun _ S1 => (evE cal e ρ S1).then fun y S2 => appD x y S2 := rfl
theorem v_len (a : E) : evE cal (.len a) ρ S = (evE cal a ρ S).then fun x S1 => optA ((lenD S1 x).map fun n => .p (.int n)) S1 := rfl
theorem v_isi (a : E) (t : Ty) : evE cal (.isi a t) ρ S = (evE cal a ρ S).then fun x S1 => optA ((isiD x t).map fun k => .p (.bool k)) S1 := rfl
theorem v_toInt (a : E) : evE cal (.toInt a) ρ S = (evE cal a ρ S).then fun x S1 => optA ((intOf x).map fun i => .p (.int i)) S1 := rfl
theorem v_all (l : L) : evE cal (.all l) ρ S = (evL cal l ρ S).then fun ds S1 => optA ((boolsOf ds).map fun bs => .p (.bool (bs.all id))) S1 := rfl
theorem v_tupOf (a : E) : evE cal (.tupOf a) ρ S = (evE cal a ρ S).then fun x S1 => optA (tupD S1 x) S1 := rfl
theorem v_dictOf (a : E) : evE cal (.dictOf a) ρ S = (evE cal a ρ S).then fun x S1 => (optA (dictD x) S1).then fun kvs S1 => alloc (.dic kvs) S1 := rfl
theorem v_dlit (ks : List Str) (as : Es) : evE cal (.dlit ks as) ρ S = (evEs cal as ρ S).then fun ds S1 => (optA (dlitD ks ds) S1).then fun kvs S1 => alloc (.dic kvs) S1 := rfl
theorem v_dget3 (a k z : E) : evE cal (.dget3 a k z) ρ S = (evE cal a ρ S).then fun x S1 => (optA (dicAt S1 x) S1).then fun _ S1 => (evE cal k ρ S1).then fun y S2 => (evE cal z ρ S2).then fun w S3 => optA (dget3D S3 x y w) S3 := rfl
theorem v_eqL (neg : Bool) (a : E) (l : L) : evE cal (.eqL neg a l) ρ S = (evE cal a ρ S).then fun x S1 => (evL cal l ρ S1).then fun es S2 => optA ((lstAt S2 x).bind fun ds => eqLD neg ds es) S2 := rfl
theorem v_op1 (f : Sto → D → Option D) (a : E) : evE cal (.op1 f a) ρ S = (evE cal a ρ S).then fun x S1 => optA (f S1 x) S1 := rfl
theorem v_op2 (f : Sto → D → D → Option D) (a b : E) : evE cal (.op2 f a b) ρ S = (evE cal a ρ S).then fun x S1 => (evE cal b ρ S1).then fun y S2 => optA (f S2 x y) S2 := rfl
theorem v_fstr (as : Es) : evE cal (.fstr as) ρ S = (evF cal as Str.empty ρ S).then fun z S1 => .val (.p (.str z)) S1 := rfl
theorem f_nil (acc : Str) : evF cal .nil acc ρ S = .val acc S := rfl
theorem f_cons (e : E) (es : Es) (acc : Str) : evF cal (.cons e es) acc ρ S = (evE cal e ρ S).then fun d S1 => (optA (fstep acc d) S1).then fun acc' S1 => evF cal es acc' ρ S1 := rfl
theorem a_nil' : evEs cal .nil ρ S = .val [] S := rfl
theorem a_cons' (e : E) (es : Es) : evEs cal (.cons e es) ρ S = (evE cal e ρ S).then fun d S1 => (evEs cal es ρ S1).then fun ds S2 => .val (d :: ds) S2 := rfl
theorem a_star' (e : E) (es : Es) : evEs cal (.star e es) ρ S = (evE cal e ρ S).then fun x S1 => (optA (ofD S1 x) S1).then fun xs S1 => (evEs cal es ρ S1).then fun ds S2 => .val (xs ++ ds) S2 := rfl
theorem l_disp' (as : Es) : evL cal (.disp as) ρ S = (evEs cal as ρ S).then fun ds S1 => optA (if ds.length ≤ 100000 then some ds else none) S1 := rfl
theorem l_of' (e : E) : evL cal (.of e) ρ S = (evE cal e ρ S).then fun x S1 => optA (ofD S1 x) S1 := rfl
theorem l_cat' (a b : E) : evL cal (.cat a b) ρ S = (evE cal a ρ S).then fun x S1 => (evE cal b ρ S1).then fun y S2 => optA (catD S2 x y) S2 := rfl
theorem l_cut' (a : E) (lo hi : Bd) : evL cal (.cut a lo hi) ρ S = (evE cal a ρ S).then fun x S1 => (evB cal lo ρ S1).then fun l S2 => (evB cal hi ρ S2).then fun h S3 => optA (cutLD S3 x l h) S3 := rfl
theorem b_no' : evB cal .no ρ S = .val none S := rfl
theorem b_at' (e : E) : evB cal (.at_ e) ρ S = (evE cal e ρ S).then fun x S1 => optA ((asInt x).map some) S1 := rfl
theorem i_tup' (e : E) : evI cal (.tup e) ρ S = (evE cal e ρ S).then fun x S1 => optA (srcTup x) S1 := rfl
theorem i_lst' (e : E) : evI cal (.lst e) ρ S = (evE cal e ρ S).then fun x S1 => optA (srcLst S1 x) S1 := rfl
theorem i_str' (e : E) : evI cal (.str e) ρ S = (evE cal e ρ S).then fun x S1 => optA (srcStr x) S1 := rfl
theorem i_rng' (e : E) : evI cal (.rng e) ρ S = (evE cal e ρ S).then fun x S1 => optA (srcRng x) S1 := rfl
/-! statements -/
theorem ss_nil' : exSs cal .nil ρ S = .val (.next, ρ) S := rfl
theorem ss_of {s : St} {r : Ss} {o : Out (Ctl × Sl)} (h : exS cal s ρ S = o) : exSs cal (.cons s r) ρ S = seqA o fun ρ' S' => exSs cal r ρ' S' := by
  subst h
  show M.bind _ _ S = _
  rw [bind_at]
  cases exS cal s ρ S with
  | val c S' => obtain ⟨c, ρ'⟩ := c; cases c <;> rfl
  | exc _ _ => rfl
  | bad => rfl
theorem ss_asg (i : Nat) (e : E) (r : Ss) : exSs cal (.cons (.asg i e) r) ρ S = (evE cal e ρ S).then fun d S1 => exSs cal r (ρ.set i (some d)) S1 := by
  rw [ss_of cal ρ S (o := (evE cal e ρ S).then fun d S1 => .val (.next, ρ.set i (some d)) S1) rfl, seqA_then]
  rfl
theorem ss_expr (e : E) (r : Ss) : exSs cal (.cons (.expr e) r) ρ S = (evE cal e ρ S).then fun _ S1 => exSs cal r ρ S1 := by
  rw [ss_of cal ρ S (o := (evE cal e ρ S).then fun d S1 => .val (.next, ρ) S1) rfl, seqA_then]
  rfl
theorem ss_ret (e : E) (r : Ss) : exSs cal (.cons (.ret e) r) ρ S = (evE cal e ρ S).then fun d S1 => .val (.ret d, ρ) S1 := by
  rw [ss_of cal ρ S (o := (evE cal e ρ S).then fun d S1 => .val (.ret d, ρ) S1) rfl, seqA_then]
  rfl
theorem ss_unp (is : List Nat) (e : E) (r : Ss) : exSs cal (.cons (.unp is e) r) ρ S = (evE cal e ρ S).then fun d S1 => (optA (tgt is false d ρ) S1).then fun ρ' S2 => exSs cal r ρ' S2 := by
  rw [ss_of cal ρ S (o := (evE cal e ρ S).then fun d S1 => (optA (tgt is false d ρ) S1).then fun ρ' S2 => .val (.next, ρ') S2) rfl, seqA_then]
  refine then_c fun d S1 => ?_
  rw [seqA_then]; rfl
theorem ss_ite (t : E) (a b r : Ss) : exSs cal (.cons (.ite t a b) r) ρ S = (evE cal t ρ S).then fun x S1 => boolA x (seqA (exSs cal a ρ S1) fun ρ' S' => exSs cal r ρ' S') (seqA (exSs cal b ρ S1) fun ρ' S' => exSs cal r ρ' S') := by
  rw [ss_of cal ρ S (o := (evE cal t ρ S).then fun x S1 => boolA x (exSs cal a ρ S1) (exSs cal b ρ S1)) (by
    refine (show _ = (evE cal t ρ S).then _ from rfl).trans ?_
    refine then_c fun d S1 => ?_
    exact asB _ _ _ _), seqA_then]
  refine then_c fun d S1 => ?_
  rw [seqA_boolA]
theorem ss_setI (o i v : E) (r : Ss) : exSs cal (.cons (.setI o i v) r) ρ S = (evE cal v ρ S).then fun d S1 => (evE cal o ρ S1).then fun x S2 => (evE cal i ρ S2).then fun y S3 => (setD x y d S3).then fun _ S4 => exSs cal r ρ S4 := by
  rw [ss_of cal ρ S (o := (evE cal v ρ S).then fun d S1 => (evE cal o ρ S1).then fun x S2 => (evE cal i ρ S2).then fun y S3 => (setD x y d S3).then fun _ S4 => .val (.next, ρ) S4) rfl, seqA_then]
  refine then_c fun d S1 => ?_
  rw [seqA_then]; refine then_c fun x S2 => ?_
  rw [seqA_then]; refine then_c fun y S3 => ?_
  rw [seqA_then]; rfl
theorem ss_for (it : Wi) (tg : List Nat) (one : Bool) (body r : Ss) : exSs cal (.cons (.for_ it tg one body) r) ρ S = (evI cal it ρ S).then fun src S1 => (optA (src.size S1) S1).then fun n S1 => seqA (forGo src (turn cal tg one body) n 0 ρ S1) fun ρ' S' => exSs cal r ρ' S' := by
  rw [ss_of cal ρ S (o := (evI cal it ρ S).then fun src S1 => (optA (src.size S1) S1).then fun n S1 => forGo src (turn cal tg one body) n 0 ρ S1) (by
    refine (show _ = (evI cal it ρ S).then _ from rfl).trans ?_
    refine then_c fun src S1 => ?_
    show (match src.size S1 with | some n => forGo src (turn cal tg one body) n 0 ρ S1 | none => .bad) = _
    cases src.size S1 <;> rfl), seqA_then]
  refine then_c fun src S1 => ?_
  rw [seqA_then]
end
/-- comprehensions over a fixed row, each turn by an equation -/
theorem lc_eq {ds : List D} {body : D → M D} {f : D → D} {S : Sto} (h : ∀ d ∈ ds, body d S = .val (f d) S) : ∀ (n i : Nat) (acc : List D), i + n = ds.length → lcGo (.fix ds) body n i acc S = .val (acc ++ (ds.drop i).map f) S
  | 0, i, acc, e => by
    have e : i = ds.length := by omega
    subst e
    show (match (Src.fix ds).at ds.length S with | some none => Out.val acc S | _ => .bad) = _
    simp [Src.at]
  | n + 1, i, acc, e => by
    have hi : i < ds.length := by omega
    have ea : (Src.fix ds).at i S = some (some ds[i]) := by simp [Src.at, List.getElem?_eq_getElem hi]
    show (match (Src.fix ds).at i S with
      | some none => Out.val acc S
      | some (some d) => M.bind (body d) (fun e => lcGo (.fix ds) body n (i + 1) (acc ++ [e])) S
      | none => .bad) = _
    rw [ea]
    show M.bind (body ds[i]) _ S = _
    rw [bind_at, h _ (List.getElem_mem hi)]
    show lcGo (.fix ds) body n (i + 1) (acc ++ [f ds[i]]) S = _
    rw [lc_eq h n (i + 1) _ (by omega), List.drop_eq_getElem_cons hi, List.append_assoc]
    rfl
theorem calm_val {α : Type} {m : M α} {S S' : Sto} {a : α} (h : m S = .val a S') : M.calm m S = .val a S' := by unfold M.calm; rw [h]
theorem l_lc_fix {cal : Nat → List D → M D} {it : Wi} {tg : List Nat} {one : Bool} {elt : E} {ρ : Sl} {S S1 : Sto} {ds : List D} {f : D → D} (hi : evI cal it ρ S = .val (.fix ds) S1) (hl : ds.length ≤ 100000)
    (h : ∀ d ∈ ds, ∃ ρ', tgt tg one d (wipeD ρ tg) = some ρ' ∧ evE cal elt ρ' S1 = .val (f d) S1) : evL cal (.lc it tg one elt) ρ S = .val (ds.map f) S1 := by
  refine (show _ = (evI cal it ρ S).then (fun src S1 => match src.size S1 with
    | some n => if n ≤ 100000 then lcGo src (fun d => M.calm (match tgt tg one d (wipeD ρ tg) with
        | some ρ' => evE cal elt ρ'
        | none => M.bad)) n 0 [] S1 else .bad
    | none => .bad) from rfl).trans ?_
  rw [hi]
  show (if ds.length ≤ 100000 then lcGo (.fix ds) _ ds.length 0 [] S1 else .bad) = _
  rw [if_pos hl, lc_eq (f := f) (fun d hd => calm_val (by
    obtain ⟨ρ', e1, e2⟩ := h d hd
    rw [e1]; exact e2)) _ 0 [] (by omega)]
  simp
/-- a call, by its body -/
def finA (n : Nat) (o : Out (Ctl × Sl)) : Out D := match o with
  | .val (.ret d, _) S' => fix n d S'
  | .val (.next, _) S' => fix n (.p .none) S'
  | _ => .bad
theorem callA {cal : Nat → List D → M D} {f : Fn} {ds : List D} (S : Sto) (h : ds.length = f.ar) : callF cal f ds S = finA S.length (exSs cal f.body (ds.map some ++ List.replicate (f.sz - f.ar) none) S) := by
  unfold callF
  rw [if_pos h]
  rfl
theorem finA_p (n : Nat) (d : PyData) (ρ : Sl) (S : Sto) : finA n (.val (.ret (.p d), ρ) S) = .val (.p d) (S.take n) := rfl
theorem finA_ref (n : Nat) (j : Nat) (ρ : Sl) (S : Sto) : finA n (.val (.ret (.ref j), ρ) S) = fix n (.ref j) S := rfl
theorem finA_boolA (n : Nat) (x : D) (a b : Out (Ctl × Sl)) : finA n (boolA x a b) = boolA x (finA n a) (finA n b) := by
  unfold boolA; split <;> rfl
theorem fix_new {n : Nat} {S : Sto} {o : MO} {T : Sto} (hn : S.length = n) (h : rbO n o = true) : fix n (.ref n) (S ++ o :: T) = .val (.ref n) (S ++ [o]) := by
  subst hn
  unfold fix
  simp only [Nat.lt_irrefl, if_false]
  rw [List.getElem?_append_right (Nat.le_refl _)]
  simp only [Nat.sub_self, List.getElem?_cons_zero, h, if_true]
  rw [List.take_append_of_le_length (Nat.le_refl _), List.take_length]
end Ir
set_option Elab.async false
set_option linter.all false
set_option maxRecDepth 100000
set_option maxHeartbeats 4000001
/-! The store's end, loops turn by turn, texts. -/
namespace Ir
open PySem
theorem app_get {A : Type} (S T : List A) (k : Nat) : (S ++ T)[S.length + k]? = T[k]? := by
  rw [List.getElem?_append_right (by omega)]; congr 1; omega
theorem app_get0 {A : Type} (S T : List A) : (S ++ T)[S.length]? = T[0]? := app_get S T 0
theorem app_set {A : Type} (S T : List A) (k : Nat) (x : A) : (S ++ T).set (S.length + k) x = S ++ T.set k x := by
  rw [List.set_append_right _ _ (by omega)]; congr 2; omega
theorem app_set0 {A : Type} (S T : List A) (x : A) : (S ++ T).set S.length x = S ++ T.set 0 x := app_set S T 0 x
theorem app_take {A : Type} (S T : List A) : (S ++ T).take S.length = S := by
  rw [List.take_append_of_le_length (Nat.le_refl _), List.take_length]
theorem app_one {A : Type} (S T : List A) (x : A) : (S ++ T) ++ [x] = S ++ (T ++ [x]) := List.append_assoc ..
theorem allocL (S : Sto) (ds : List D) (h : ds.all (rb S.length) = true) : alloc (.lst ds) S = .val (.ref S.length) (S ++ [.lst ds]) := by
  unfold alloc; rw [if_pos (show rbO S.length (.lst ds) = true from h)]
theorem allocD (S : Sto) (kvs : List (Sum Int Str × D)) (h : (kvs.all fun kv => rb S.length kv.2) = true) : alloc (.dic kvs) S = .val (.ref S.length) (S ++ [.dic kvs]) := by
  unfold alloc; rw [if_pos (show rbO S.length (.dic kvs) = true from h)]
theorem len_app {A : Type} (S T : List A) : (S ++ T).length = S.length + T.length := List.length_append
theorem rb_p (n : Nat) (d : PyData) : rb n (.p d) = true := rfl
theorem rb_fn (n : Nat) (i : Nat) : rb n (.fn i) = true := rfl
theorem rb_ref (n j : Nat) (h : j < n) : rb n (.ref j) = true := decide_eq_true h
/-- a loop's turn -/
theorem for_more {src : Src} {body : D → Sl → M (Ctl × Sl)} {n i : Nat} {ρ : Sl} {S : Sto} {d : D} (h : src.at i S = some (some d)) : forGo src body (n + 1) i ρ S = (body d ρ S).then fun c S' => (match c with
      | (.next, ρ') => forGo src body n (i + 1) ρ'
      | (.cont, ρ') => forGo src body n (i + 1) ρ'
      | (.brk, ρ') => M.pure (.next, ρ')
      | (.ret d, ρ') => M.pure (.ret d, ρ')) S' := by
  show (match src.at i S with | some none => Out.val (Ctl.next, ρ) S | some (some d) => M.bind (body d ρ) _ S | none => .bad) = _
  rw [h]; exact bind_at _ _ _
theorem for_no {src : Src} {body : D → Sl → M (Ctl × Sl)} {n i : Nat} {ρ : Sl} {S : Sto} (h : src.at i S = some none) : forGo src body n i ρ S = .val (.next, ρ) S := by
  cases n with
  | zero =>
    show (match src.at i S with | some none => Out.val (Ctl.next, ρ) S | _ => .bad) = _
    rw [h]
  | succ n =>
    show (match src.at i S with | some none => Out.val (Ctl.next, ρ) S | some (some d) => M.bind (body d ρ) _ S | none => .bad) = _
    rw [h]
/-! texts -/
theorem str_assoc (a b c : Str) : (a ++ b) ++ c = a ++ (b ++ c) := by
  show Str.append (Str.append a b) c = Str.append a (Str.append b c)
  unfold Str.append; simp [Array.append_assoc]
theorem str_nil (a : Str) : Str.empty ++ a = a := by
  show Str.append Str.empty a = a
  unfold Str.append Str.empty; simp
theorem str_len (a b : Str) : (a ++ b).length = a.length + b.length := by
  show (Str.append a b).length = _
  unfold Str.append Str.length; simp
theorem join_nil (s : Str) : Txt.join s [] = Str.empty := rfl
theorem join_eq (s : Str) (l : List Str) : Txt.join s l = Str.join s l := StrLaws.glued_eq_join s l
theorem join_one (s x : Str) : Txt.join s [x] = x := by rw [join_eq]; rfl
theorem join_cons (s x y : Str) (l : List Str) : Txt.join s (x :: y :: l) = x ++ s ++ Txt.join s (y :: l) := by rw [join_eq, join_eq]; rfl
theorem join_len (s : Str) (l : List Str) : (Txt.join s l).length ≤ (l.map (·.length)).sum + l.length * s.length := by rw [join_eq]; exact StrLaws.join_length_le s l
theorem strsOf_map (zs : List Str) : strsOf (zs.map PyData.str) = some zs := (strs_back zs).2
theorem plainOf_map (ds : List PyData) : plainOf (ds.map D.p) = some ds := plain_back ds
theorem joinD_of (S : Sto) (s : Str) (y : D) (zs : List Str) (hy : ofD S y = some (zs.map fun z => D.p (.str z))) (h : (zs.map (·.length)).sum + zs.length * s.length ≤ 16777216) : joinD S (.p (.str s)) y = some (.p (.str (Txt.join s zs))) := by
  unfold joinD
  simp only [hy, Option.bind_some, (strs_back zs).1, strsOf_map]
  rw [if_pos h]
theorem joinD_tup (S : Sto) (s : Str) (zs : List Str) (h : (zs.map (·.length)).sum + zs.length * s.length ≤ 16777216) : joinD S (.p (.str s)) (.p (.tuple (zs.map .str))) = some (.p (.str (Txt.join s zs))) :=
  joinD_of S s _ zs (by show some ((zs.map PyData.str).map D.p) = _; rw [List.map_map]; rfl) h
theorem lstAt_ref {S : Sto} {j : Nat} {ds : List D} (h : S[j]? = some (.lst ds)) : lstAt S (.ref j) = some ds := by
  unfold lstAt
  simp only [h]
theorem joinD_lst (S : Sto) (j : Nat) (s : Str) (zs : List Str) (hj : S[j]? = some (.lst (zs.map fun z => D.p (.str z)))) (h : (zs.map (·.length)).sum + zs.length * s.length ≤ 16777216) : joinD S (.p (.str s)) (.ref j) = some (.p (.str (Txt.join s zs))) :=
  joinD_of S s _ zs (by unfold ofD; exact lstAt_ref hj) h
theorem strD_str (z : Str) : strD (.p (.str z)) = some (.p (.str z)) := rfl
theorem ofD_tup (S : Sto) (ds : List PyData) : ofD S (.p (.tuple ds)) = some (ds.map .p) := rfl
/-- a loop over a fixed row whose slots and store are told for each turn -/
theorem for_seq {ds : List D} {body : D → Sl → M (Ctl × Sl)} (ρf : Nat → Sl) (Sf : Nat → Sto) (step : ∀ i d, ds[i]? = some d → body d (ρf i) (Sf i) = .val (.next, ρf (i + 1)) (Sf (i + 1))) : ∀ (n i : Nat), i + n = ds.length → forGo (.fix ds) body n i (ρf i) (Sf i) = .val (.next, ρf ds.length) (Sf ds.length)
  | 0, i, h => by
    have e : i = ds.length := by omega
    subst e
    exact for_no (by simp [Src.at])
  | n + 1, i, h => by
    have hi : i < ds.length := by omega
    rw [for_more (d := ds[i]) (by simp [Src.at, List.getElem?_eq_getElem hi]), step i _ (List.getElem?_eq_getElem hi)]
    exact for_seq ρf Sf step n (i + 1) (by omega)
/-- comprehensions whose turns leave things behind at the store's end -/
theorem lc_grow {ds : List D} {body : D → M D} {f : D → D} {S : Sto} (h : ∀ d ∈ ds, ∀ T, ∃ T', body d (S ++ T) = .val (f d) (S ++ T')) : ∀ (n i : Nat) (acc : List D) (T : Sto), i + n = ds.length → ∃ T', lcGo (.fix ds) body n i acc (S ++ T) = .val (acc ++ (ds.drop i).map f) (S ++ T')
  | 0, i, acc, T, e => by
    have e : i = ds.length := by omega
    subst e
    refine ⟨T, ?_⟩
    show (match (Src.fix ds).at ds.length (S ++ T) with | some none => Out.val acc (S ++ T) | _ => .bad) = _
    simp [Src.at]
  | n + 1, i, acc, T, e => by
    have hi : i < ds.length := by omega
    have ea : (Src.fix ds).at i (S ++ T) = some (some ds[i]) := by simp [Src.at, List.getElem?_eq_getElem hi]
    obtain ⟨T1, h1⟩ := h _ (List.getElem_mem hi) T
    obtain ⟨T2, h2⟩ := lc_grow h n (i + 1) (acc ++ [f ds[i]]) T1 (by omega)
    refine ⟨T2, ?_⟩
    show (match (Src.fix ds).at i (S ++ T) with
      | some none => Out.val acc (S ++ T)
      | some (some d) => M.bind (body d) (fun e => lcGo (.fix ds) body n (i + 1) (acc ++ [e])) (S ++ T)
      | none => .bad) = _
    rw [ea]
    show M.bind (body ds[i]) _ (S ++ T) = _
    rw [bind_at, h1]
    show lcGo (.fix ds) body n (i + 1) (acc ++ [f ds[i]]) (S ++ T1) = _
    rw [h2, List.drop_eq_getElem_cons hi, List.append_assoc]
    rfl
theorem l_lc_grow {cal : Nat → List D → M D} {it : Wi} {tg : List Nat} {one : Bool} {elt : E} {ρ : Sl} {S S0 T : Sto} {ds : List D} {f : D → D} (hi : evI cal it ρ S0 = .val (.fix ds) (S ++ T)) (hl : ds.length ≤ 100000)
    (h : ∀ d ∈ ds, ∀ T, ∃ T' ρ', tgt tg one d (wipeD ρ tg) = some ρ' ∧ evE cal elt ρ' (S ++ T) = .val (f d) (S ++ T')) : ∃ T', evL cal (.lc it tg one elt) ρ S0 = .val (ds.map f) (S ++ T') := by
  obtain ⟨T', e⟩ := lc_grow (ds := ds) (f := f) (S := S) (body := fun d => M.calm (match tgt tg one d (wipeD ρ tg) with
        | some ρ' => evE cal elt ρ'
        | none => M.bad)) (fun d hd T => by
    obtain ⟨T', ρ', e1, e2⟩ := h d hd T
    exact ⟨T', calm_val (by rw [e1]; exact e2)⟩) ds.length 0 [] T (by omega)
  refine ⟨T', ?_⟩
  refine (show _ = (evI cal it ρ S0).then (fun src S1 => match src.size S1 with
    | some n => if n ≤ 100000 then lcGo src (fun d => M.calm (match tgt tg one d (wipeD ρ tg) with
        | some ρ' => evE cal elt ρ'
        | none => M.bad)) n 0 [] S1 else .bad
    | none => .bad) from rfl).trans ?_
  rw [hi]
  show (if ds.length ≤ 100000 then lcGo (.fix ds) _ ds.length 0 [] (S ++ T) else .bad) = _
  rw [if_pos hl, e]
  simp
theorem setD_dic {S : Sto} {j : Nat} {kvs : List (Sum Int Str × D)} {k : Str} {d : D} (h : S[j]? = some (.dic kvs)) (hb : rb j d = true) (hl : kvs.length ≤ 1000) : setD (.ref j) (.p (.str k)) d S = .val () (S.set j (.dic (putD kvs (.inr k) d))) := by
  unfold setD
  simp only [h, hb, hl, and_self, if_true]
def putA (S : Sto) (j : Nat) (k : Sum Int Str) (d : D) (o : Option MO) : Out Unit := match o with
  | some (.dic kvs) => if rb j d = true ∧ kvs.length ≤ 1000 then .val () (S.set j (.dic (putD kvs k d))) else .bad
  | _ => .bad
theorem setD_str (j : Nat) (k : Str) (d : D) (S : Sto) : setD (.ref j) (.p (.str k)) d S = putA S j (.inr k) d S[j]? := rfl
theorem putA_dic (S : Sto) (j : Nat) (k : Sum Int Str) (d : D) (kvs : List (Sum Int Str × D)) (hd : rb j d = true) (hl : kvs.length ≤ 1000) : putA S j k d (some (.dic kvs)) = .val () (S.set j (.dic (putD kvs k d))) := if_pos ⟨hd, hl⟩
theorem dicAt_ref {S : Sto} {j : Nat} {kvs : List (Sum Int Str × D)} (h : S[j]? = some (.dic kvs)) : dicAt S (.ref j) = some kvs := by
  unfold dicAt
  simp only [h]
theorem appD_ref {S : Sto} {j : Nat} {ds : List D} {d : PyData} (h : S[j]? = some (.lst ds)) (hl : ds.length < 100000) : appD (.ref j) (.p d) S = .val (.p .none) (S.set j (.lst (ds ++ [.p d]))) := by
  show (match S[j]? with
    | some (.lst ds) => if rb j (D.p d) = true ∧ ds.length < 100000 then Out.val (D.p .none) (S.set j (.lst (ds ++ [D.p d]))) else .bad
    | _ => .bad) = _
  rw [h]
  exact if_pos ⟨rfl, hl⟩
theorem extD_ref {S : Sto} {j i : Nat} {ds es : List D} (h : S[j]? = some (.lst ds)) (h2 : S[i]? = some (.lst es)) (hb : es.all (rb j) = true) (hl : ds.length + es.length ≤ 100000) : extD (.ref j) (.ref i) S = .val (.p .none) (S.set j (.lst (ds ++ es))) := by
  show (match S[j]?, lstAt S (.ref i) with
    | some (.lst ds), some es => if es.all (rb j) = true ∧ ds.length + es.length ≤ 100000 then Out.val (D.p .none) (S.set j (.lst (ds ++ es))) else .bad
    | _, _ => .bad) = _
  rw [h, lstAt_ref h2]
  exact if_pos ⟨hb, hl⟩
theorem catD_ref {S : Sto} {i j : Nat} {ds es : List D} (h : S[i]? = some (.lst ds)) (h2 : S[j]? = some (.lst es)) (hl : ds.length + es.length ≤ 100000) : catD S (.ref i) (.ref j) = some (ds ++ es) := by
  unfold catD
  rw [lstAt_ref h, lstAt_ref h2]
  exact if_pos hl
/-! loops, turn by turn, for short rows -/
def atA {β : Type} (o : Option (Option D)) (a : Out β) (f : D → Out β) (_ : Lz a := ()) (_ : Lz f := ()) : Out β := match o with
  | some none => a
  | some (some d) => f d
  | none => .bad
theorem atA_no {β : Type} (a : Out β) (f : D → Out β) : atA (some none) a f = a := rfl
theorem atA_go {β : Type} (d : D) (a : Out β) (f : D → Out β) : atA (some (some d)) a f = f d := rfl
def contA (c : Ctl × Sl) (S : Sto) (f : Sl → Sto → Out (Ctl × Sl)) (_ : Lz f := ()) : Out (Ctl × Sl) := match c with
  | (.next, ρ) => f ρ S
  | (.cont, ρ) => f ρ S
  | (.brk, ρ) => .val (.next, ρ) S
  | (.ret d, ρ) => .val (.ret d, ρ) S
theorem contA_next (ρ : Sl) (S : Sto) (f : Sl → Sto → Out (Ctl × Sl)) : contA (.next, ρ) S f = f ρ S := rfl
theorem contA_ret (d : D) (ρ : Sl) (S : Sto) (f : Sl → Sto → Out (Ctl × Sl)) : contA (.ret d, ρ) S f = .val (.ret d, ρ) S := rfl
theorem forGo_s (src : Src) (body : D → Sl → M (Ctl × Sl)) (n i : Nat) (ρ : Sl) (S : Sto) : forGo src body (n + 1) i ρ S = atA (src.at i S) (.val (.next, ρ) S) fun d => (body d ρ S).then fun c S' => contA c S' fun ρ' S' => forGo src body n (i + 1) ρ' S' := by
  cases h : src.at i S with
  | none =>
    show (match src.at i S with | some none => Out.val (Ctl.next, ρ) S | some (some d) => M.bind (body d ρ) _ S | none => .bad) = _
    rw [h]; rfl
  | some o =>
    cases o with
    | none => exact for_no h
    | some d =>
      rw [for_more h]
      show _ = (body d ρ S).then _
      congr
      funext c S'
      obtain ⟨c, ρ'⟩ := c
      cases c <;> rfl
theorem forGo_z (src : Src) (body : D → Sl → M (Ctl × Sl)) (i : Nat) (ρ : Sl) (S : Sto) : forGo src body 0 i ρ S = atA (src.at i S) (.val (.next, ρ) S) fun _ => .bad := by
  show (match src.at i S with | some none => Out.val (Ctl.next, ρ) S | _ => .bad) = _
  cases h : src.at i S with
  | none => rfl
  | some o => cases o <;> rfl
theorem size_fix (ds : List D) (S : Sto) : (Src.fix ds).size S = some ds.length := rfl
theorem size_dyn (j : Nat) (S : Sto) : (Src.dyn j).size S = (match S[j]? with | some (.lst ds) => some ds.length | _ => none) := rfl
theorem at_fix (ds : List D) (i : Nat) (S : Sto) : (Src.fix ds).at i S = some ds[i]? := rfl
theorem at_dyn (j i : Nat) (S : Sto) : (Src.dyn j).at i S = (match S[j]? with | some (.lst ds) => some ds[i]? | _ => none) := rfl
theorem turn_one (cal : Nat → List D → M D) (i : Nat) (body : Ss) (d : D) (ρ : Sl) (S : Sto) : turn cal [i] true body d ρ S = exSs cal body (ρ.set i (some d)) S := rfl
theorem dicAt_eq (S : Sto) (j : Nat) : dicAt S (.ref j) = (match S[j]? with | some (.dic kvs) => some kvs | _ => none) := rfl
theorem lstAt_eq (S : Sto) (j : Nat) : lstAt S (.ref j) = (match S[j]? with | some (.lst ds) => some ds | _ => none) := rfl
theorem dget3_str (S : Sto) (x : D) (k : Str) (w : D) : dget3D S x (.p (.str k)) w = (dicAt S x).bind fun kvs => some ((valD kvs (.inr k)).getD w) := rfl
theorem dixD_int (S : Sto) (x : D) (k : Int) : dixD S x (.p (.int k)) = (dicAt S x).bind fun kvs => valD kvs (.inl k) := rfl
theorem srcLst_eq (S : Sto) (j : Nat) : srcLst S (.ref j) = (match S[j]? with | some (.lst _) => some (.dyn j) | _ => none) := rfl
theorem ofD_ref (S : Sto) (j : Nat) : ofD S (.ref j) = lstAt S (.ref j) := rfl
theorem tupD_ref (S : Sto) (j : Nat) : tupD S (.ref j) = (lstAt S (.ref j)).bind fun ds => (plainOf ds).map fun ps => .p (.tuple ps) := rfl
theorem lenD_ref (S : Sto) (j : Nat) : lenD S (.ref j) = (match S[j]? with | some (.lst ds) => some (ds.length : Int) | _ => none) := rfl
theorem lenD_tup (S : Sto) (ds : List PyData) : lenD S (.p (.tuple ds)) = some (ds.length : Int) := rfl
theorem getI_ref (S : Sto) (j : Nat) (i : Int) : getI S (.ref j) (.p (.int i)) = (match S[j]? with | some (.lst ds) => L2.atI ds i | _ => none) := rfl
def lsA {β : Type} (o : Option MO) (f : List D → Out β) (_ : Lz f := ()) : Out β := match o with
  | some (.lst ds) => f ds
  | _ => .bad
theorem lsA_lst {β : Type} (ds : List D) (f : List D → Out β) : lsA (some (.lst ds)) f = f ds := rfl
def ifA {β : Type} (c : Bool) (a : Out β) : Out β := match c with
  | true => a
  | false => .bad
theorem ifA_t {β : Type} (a : Out β) : ifA true a = a := rfl
theorem appD_eq (S : Sto) (j : Nat) (y : D) : appD (.ref j) y S = lsA S[j]? fun ds => ifA (rb j y && decide (ds.length < 100000)) (.val (.p .none) (S.set j (.lst (ds ++ [y])))) := by
  show (match S[j]? with | some (.lst ds) => if rb j y = true ∧ ds.length < 100000 then Out.val (D.p .none) (S.set j (.lst (ds ++ [y]))) else .bad | _ => .bad) = _
  cases h : S[j]? with
  | none => rfl
  | some o =>
    cases o with
    | dic _ => rfl
    | lst ds =>
      show (if _ then _ else _) = ifA _ _
      by_cases hb : rb j y = true ∧ ds.length < 100000
      · rw [if_pos hb, hb.1, decide_eq_true hb.2]; rfl
      · rw [if_neg hb]
        have : (rb j y && decide (ds.length < 100000)) = false := by
          cases h1 : rb j y with
          | false => rfl
          | true => simp only [Bool.true_and, decide_eq_false_iff_not]; exact fun z => hb ⟨h1, z⟩
        rw [this]; rfl
theorem extD_eq (S : Sto) (j : Nat) (i : Nat) : extD (.ref j) (.ref i) S = lsA S[j]? fun ds => lsA S[i]? fun es => ifA (es.all (rb j) && decide (ds.length + es.length ≤ 100000)) (.val (.p .none) (S.set j (.lst (ds ++ es)))) := by
  cases h : S[j]? with
  | none => show (match S[j]?, lstAt S (.ref i) with | some (.lst ds), some es => _ | _, _ => Out.bad) = _; rw [h]; rfl
  | some o =>
    cases o with
    | dic _ => show (match S[j]?, lstAt S (.ref i) with | some (.lst ds), some es => _ | _, _ => Out.bad) = _; rw [h]; rfl
    | lst ds =>
      cases h2 : S[i]? with
      | none =>
        have : lstAt S (.ref i) = none := by rw [lstAt_eq, h2]
        show (match S[j]?, lstAt S (.ref i) with | some (.lst ds), some es => _ | _, _ => Out.bad) = _; rw [h, this]; rfl
      | some o2 =>
        cases o2 with
        | dic _ =>
          have : lstAt S (.ref i) = none := by rw [lstAt_eq, h2]
          show (match S[j]?, lstAt S (.ref i) with | some (.lst ds), some es => _ | _, _ => Out.bad) = _; rw [h, this]; rfl
        | lst es =>
          by_cases hb : es.all (rb j) = true ∧ ds.length + es.length ≤ 100000
          · rw [extD_ref h h2 hb.1 hb.2]
            show _ = ifA _ _
            rw [hb.1, decide_eq_true hb.2]; rfl
          · show (match S[j]?, lstAt S (.ref i) with | some (.lst ds), some es => if es.all (rb j) = true ∧ ds.length + es.length ≤ 100000 then Out.val (D.p .none) (S.set j (.lst (ds ++ es))) else .bad | _, _ => Out.bad) = _
            rw [h, lstAt_ref h2]
            show (if _ then _ else _) = ifA _ _
            rw [if_neg hb]
            have : (es.all (rb j) && decide (ds.length + es.length ≤ 100000)) = false := by
              cases h1 : es.all (rb j) with
              | false => rfl
              | true => simp only [Bool.true_and, decide_eq_false_iff_not]; exact fun z => hb ⟨h1, z⟩
            rw [this]; rfl
theorem catD_eq (S : Sto) (x y : D) : catD S x y = (lstAt S x).bind fun ds => (lstAt S y).bind fun es => if ds.length + es.length ≤ 100000 then some (ds ++ es) else none := rfl
/-- two texts compared -/
theorem eqD_str (x y : Str) : eqD (.p (.str x)) (.p (.str y)) = some (decide (x = y)) := by
  show some (PyData.eqv (.str x) (.str y)) = _
  by_cases h : x = y <;> simp [PyData.eqv, h]
end Ir


set_option Elab.async false
set_option maxRecDepth 100000
set_option maxHeartbeats 4000001
/-! The text of the law by my small language: made by gen.py from the linked text. -/
namespace Ir.K04
open PySem L2 PySem.Spec PyProof.Rows
def top (i : Nat) : Stmt := PySem.Challenge.pw_strangemill_k04_units_written.main.body.getD i (.Pass ⟨0, 0, 0, 0⟩)
/-- leads_on -/
def b0 : Ss := (.cons (.ret (.cmp .in_ (.idx (.var 0) (.cst (.p (.int 0)))) (.tup (.cons (.cst (.p (.str "jump"))) (.cons (.cst (.p (.str "nought"))) .nil)))))
    .nil)
/-- written -/
def b1 : Ss := (.cons (.asg 1 (.ifx (.cmp .eq (.idx (.var 0) (.cst (.p (.int 0)))) (.cst (.p (.str "kind")))) (.call 2 (.cons (.var 0) .nil)) (.call 3 (.cons (.var 0) .nil))))
    (.cons (.ret (.join (.cst (.p (.str "
"))) (.var 1)))
    .nil))
/-- kind_lines -/
def b2 : Ss := (.cons (.unp [1, 2, 3, 4, 5, 6] (.var 0))
    (.cons (.asg 7 (.lst (.disp (.cons (.cst (.p (.str "kind"))) (.cons (.var 2) .nil)))))
    (.cons (.ite (.cmp .ne (.var 3) (.cst (.p (.str "")))) (.cons (.expr (.extend (.var 7) (.lst (.disp (.cons (.cst (.p (.str "above"))) (.cons (.var 3) .nil))))))
    .nil) .nil)
    (.cons (.ite (.op1 truthD (.var 4)) (.cons (.expr (.extend (.var 7) (.lst (.disp (.cons (.cst (.p (.str "faces"))) (.star (.var 4) .nil))))))
    .nil) .nil)
    (.cons (.asg 8 (.lst (.disp (.cons (.join (.cst (.p (.str " "))) (.var 7)) .nil))))
    (.cons (.expr (.extend (.var 8) (.lst (.lc (.tup (.var 5)) [10] true (.join (.cst (.p (.str " "))) (.lst (.disp (.cons (.cst (.p (.str "field"))) (.star (.var 10) .nil)))))))))
    (.cons (.for_ (.tup (.var 6)) [9] true (.cons (.expr (.extend (.var 8) (.call 5 (.cons (.var 9) .nil))))
    .nil))
    (.cons (.ret (.var 8))
    .nil))))))))
/-- face_lines -/
def b3 : Ss := (.cons (.unp [1, 2, 3] (.var 0))
    (.cons (.ret (.lst (.cat (.lst (.disp (.cons (.fstr (.cons (.cst (.p (.str "face "))) (.cons (.var 2) .nil))) .nil))) (.lst (.lc (.tup (.var 3)) [4] true (.call 4 (.cons (.var 4) .nil)))))))
    .nil))
/-- signature_line -/
def b4 : Ss := (.cons (.unp [1, 2, 3] (.var 0))
    (.cons (.ret (.join (.cst (.p (.str " "))) (.lst (.disp (.cons (.cst (.p (.str "way"))) (.cons (.var 1) (.star (.var 2) (.cons (.cst (.p (.str "gives"))) (.cons (.var 3) .nil)))))))))
    .nil))
/-- way_lines -/
def b5 : Ss := (.cons (.unp [1, 2, 3] (.slice (.var 0) (some 3) none))
    (.cons (.asg 4 (.dictOf (.var 2)))
    (.cons (.asg 5 (.lst (.lc2 (.tup (.var 3)) [8] true (.slice (.var 8) none (some 2)) [9] true (.var 9))))
    (.cons (.asg 6 (.lst (.disp (.cons (.call 4 (.cons (.slice (.var 0) none (some 3)) .nil)) .nil))))
    (.cons (.expr (.extend (.var 6) (.lst (.lc (.tup (.var 3)) [10, 11, 7] false (.fstr (.cons (.cst (.p (.str "catch "))) (.cons (.call 6 (.cons (.var 10) .nil)) (.cons (.cst (.p (.str " "))) (.cons (.call 6 (.cons (.var 11) .nil)) (.cons (.cst (.p (.str " "))) (.cons (.call 6 (.cons (.var 7) .nil)) .nil)))))))))))
    (.cons (.for_ (.rng (.bin .add (.len (.var 1)) (.cst (.p (.int 1))))) [7] true (.cons (.ite (.cmp .in_ (.var 7) (.var 4)) (.cons (.expr (.append (.var 6) (.fstr (.cons (.cst (.p (.str "at "))) (.cons (.call 6 (.cons (.var 7) .nil)) (.cons (.cst (.p (.str " "))) (.cons (.op2 dixD (.var 4) (.var 7)) .nil)))))))
    .nil) (.cons (.ite (.cmp .in_ (.var 7) (.var 5)) (.cons (.expr (.append (.var 6) (.fstr (.cons (.cst (.p (.str "mark "))) (.cons (.call 6 (.cons (.var 7) .nil)) .nil)))))
    .nil) .nil)
    .nil))
    (.cons (.ite (.cmp .lt (.var 7) (.len (.var 1))) (.cons (.expr (.append (.var 6) (.call 7 (.cons (.idx (.var 1) (.var 7)) .nil))))
    .nil) .nil)
    .nil)))
    (.cons (.ret (.var 6))
    .nil)))))))
/-- label -/
def b6 : Ss := (.cons (.ret (.fstr (.cons (.cst (.p (.str "r"))) (.cons (.var 0) .nil))))
    .nil)
/-- row_line -/
def b7 : Ss := (.cons (.ite (.call 0 (.cons (.var 0) .nil)) (.cons (.ret (.fstr (.cons (.idx (.var 0) (.cst (.p (.int 0)))) (.cons (.cst (.p (.str " "))) (.cons (.call 6 (.cons (.idx (.var 0) (.cst (.p (.int 1)))) .nil)) .nil)))))
    .nil) .nil)
    (.cons (.ret (.join (.cst (.p (.str " "))) (.lst (.lc (.tup (.var 0)) [1] true (.strOf (.var 1))))))
    .nil))
/-- _law_draw -/
def b8 : Ss := (.cons (.setI (.var 0) (.cst (.p (.int 2))) (.bin .add (.idx (.var 0) (.cst (.p (.int 2)))) (.cst (.p (.int 1)))))
    (.cons (.ite (.and (.cmp .eq (.idx (.var 0) (.cst (.p (.int 1)))) (.cst (.p (.int 0)))) (.eqL true (.idx (.var 0) (.cst (.p (.int 0)))) (.disp .nil))) (.cons (.setI (.var 0) (.cst (.p (.int 1))) (.popAt (.idx (.var 0) (.cst (.p (.int 0)))) (.cst (.p (.int 0)))))
    (.cons (.ite (.cmp .lt (.idx (.var 0) (.cst (.p (.int 1)))) (.bin .pow (.cst (.p (.int 10))) (.cst (.p (.int 18))))) (.cons (.setI (.var 0) (.cst (.p (.int 3))) (.bin .mod (.bin .add (.bin .mul (.idx (.var 0) (.cst (.p (.int 3)))) (.cst (.p (.int 39373)))) (.idx (.var 0) (.cst (.p (.int 1))))) (.cst (.p (.int 2147483647)))))
    (.cons (.setI (.var 0) (.cst (.p (.int 1))) (.cst (.p (.int 0))))
    .nil)) .nil)
    .nil)) .nil)
    (.cons (.ite (.cmp .gt (.idx (.var 0) (.cst (.p (.int 1)))) (.cst (.p (.int 0)))) (.cons (.asg 2 (.bin .mod (.idx (.var 0) (.cst (.p (.int 1)))) (.var 1)))
    (.cons (.setI (.var 0) (.cst (.p (.int 1))) (.bin .fdiv (.idx (.var 0) (.cst (.p (.int 1)))) (.var 1)))
    (.cons (.ret (.var 2))
    .nil))) .nil)
    (.cons (.asg 2 (.bin .mod (.bin .pow (.bin .add (.bin .add (.idx (.var 0) (.cst (.p (.int 3)))) (.bin .mul (.cst (.p (.int 7919))) (.idx (.var 0) (.cst (.p (.int 2)))))) (.cst (.p (.int 104729)))) (.cst (.p (.int 5)))) (.cst (.p (.int 2147483647)))))
    (.cons (.ret (.bin .mod (.bin .mod (.bin .mul (.bin .add (.var 2) (.idx (.var 0) (.cst (.p (.int 2))))) (.cst (.p (.int 48271)))) (.cst (.p (.int 2147483629)))) (.var 1)))
    .nil)))))
/-- _law_word -/
def b9 : Ss := (.cons (.asg 3 (.cst (.p (.str "abcdefghijklmnopqrstuvwxyz"))))
    (.cons (.asg 4 (.idxL (.disp (.cons (.var 3) (.cons (.cst (.p (.str "ABCDEFGHIJKLMNOPQRSTUVWXYZ"))) .nil))) (.toInt (.var 1))))
    (.cons (.asg 5 (.idxL (.disp (.cons (.cst (.p (.int 0))) (.cons (.cst (.p (.int 0))) (.cons (.cst (.p (.int 2))) (.cons (.cst (.p (.int 11))) .nil))))) (.call 8 (.cons (.var 0) (.cons (.cst (.p (.int 4))) .nil)))))
    (.cons (.asg 6 (.idx (.var 4) (.call 8 (.cons (.var 0) (.cons (.cst (.p (.int 26))) .nil)))))
    (.cons (.asg 6 (.bin .add (.var 6) (.join (.cst (.p (.str ""))) (.lst (.lc (.rng (.var 5)) [8] true (.idx (.bin .add (.var 3) (.cst (.p (.str "0123456789")))) (.call 8 (.cons (.var 0) (.cons (.cst (.p (.int 36))) .nil)))))))))
    (.cons (.asg 7 (.idxL (.disp (.cons (.lst (.disp (.cons (.cst (.p (.str "num"))) (.cons (.cst (.p (.str "gives"))) (.cons (.cst (.p (.str "ask"))) (.cons (.cst (.p (.str "at"))) (.cons (.cst (.p (.str "catch"))) (.cons (.cst (.p (.str "r1"))) (.cons (.cst (.p (.str "kind"))) .nil))))))))) (.cons (.lst (.disp (.cons (.cst (.p (.str "Num"))) (.cons (.cst (.p (.str "A"))) (.cons (.cst (.p (.str "Cup"))) (.cons (.cst (.p (.str "A1"))) .nil)))))) .nil))) (.toInt (.var 1))))
    (.cons (.ite (.cmp .eq (.call 8 (.cons (.var 0) (.cons (.cst (.p (.int 3))) .nil))) (.cst (.p (.int 0)))) (.cons (.asg 6 (.idx (.var 7) (.call 8 (.cons (.var 0) (.cons (.len (.var 7)) .nil)))))
    .nil) .nil)
    (.cons (.for_ (.rng (.bin .add (.len (.var 2)) (.cst (.p (.int 1))))) [8] true (.cons (.ite (.cmp .in_ (.var 6) (.var 2)) (.cons (.asg 6 (.bin .add (.idx (.var 4) (.cst (.p (.int 25)))) (.strOf (.var 8))))
    .nil) .nil)
    .nil))
    (.cons (.ret (.var 6))
    .nil)))))))))
/-- _law_words -/
def b10 : Ss := (.cons (.asg 3 (.lst (.disp .nil)))
    (.cons (.for_ (.rng (.var 2)) [4] true (.cons (.expr (.append (.var 3) (.call 9 (.cons (.var 0) (.cons (.var 1) (.cons (.var 3) .nil))))))
    .nil))
    (.cons (.ret (.var 3))
    .nil)))
/-- _law_sorts -/
def b11 : Ss := (.cons (.asg 1 (.dlit ["num", "get", "put", "fits", "new", "jump", "nought"] (.cons (.cst (.p (.str "n"))) (.cons (.cst (.p (.str "b"))) (.cons (.cst (.p (.str "b"))) (.cons (.cst (.p (.str "u"))) (.cons (.cst (.p (.str "u"))) (.cons (.cst (.p (.str "r"))) (.cons (.cst (.p (.str "r"))) .nil)))))))))
    (.cons (.for_ (.lst (.lst (.disp (.cons (.cst (.p (.str "read"))) (.cons (.cst (.p (.str "write"))) (.cons (.cst (.p (.str "call"))) (.cons (.cst (.p (.str "hail"))) .nil))))))) [2] true (.cons (.setI (.var 1) (.var 2) (.cst (.p (.str "uw"))))
    .nil))
    (.cons (.ret (.dget3 (.var 1) (.var 0) (.cst (.p (.str "")))))
    .nil)))
/-- _law_number -/
def b12 : Ss := (.cons (.asg 1 (.bin .add (.bin .mul (.bin .pow (.cst (.p (.int 10))) (.cst (.p (.int 6)))) (.call 8 (.cons (.var 0) (.cons (.bin .pow (.cst (.p (.int 10))) (.cst (.p (.int 6)))) .nil)))) (.call 8 (.cons (.var 0) (.cons (.bin .pow (.cst (.p (.int 10))) (.cst (.p (.int 6)))) .nil)))))
    (.cons (.ret (.idxL (.disp (.cons (.neg (.bin .pow (.cst (.p (.int 10))) (.cst (.p (.int 12))))) (.cons (.bin .sub (.bin .pow (.cst (.p (.int 10))) (.cst (.p (.int 12)))) (.cst (.p (.int 1)))) (.cons (.neg (.cst (.p (.int 1)))) (.cons (.cst (.p (.int 0))) (.cons (.cst (.p (.int 7))) (.cons (.var 1) (.cons (.bin .sub (.cst (.p (.int 0))) (.var 1)) .nil)))))))) (.call 8 (.cons (.var 0) (.cons (.cst (.p (.int 7))) .nil)))))
    .nil))
/-- _law_rowwords -/
def b13 : Ss := (.cons (.asg 0 (.lst (.disp (.cons (.cst (.p (.str "ask"))) (.cons (.cst (.p (.str "say"))) (.cons (.cst (.p (.str "drop"))) (.cons (.cst (.p (.str "twin"))) (.cons (.cst (.p (.str "turn"))) (.cons (.cst (.p (.str "plus"))) (.cons (.cst (.p (.str "minus"))) (.cons (.cst (.p (.str "times"))) (.cons (.cst (.p (.str "part"))) (.cons (.cst (.p (.str "same"))) (.cons (.cst (.p (.str "give"))) (.cons (.cst (.p (.str "throw"))) .nil)))))))))))))))
    (.cons (.ret (.lst (.cat (.var 0) (.lst (.disp (.cons (.cst (.p (.str "num"))) (.cons (.cst (.p (.str "get"))) (.cons (.cst (.p (.str "put"))) (.cons (.cst (.p (.str "fits"))) (.cons (.cst (.p (.str "new"))) (.cons (.cst (.p (.str "read"))) (.cons (.cst (.p (.str "write"))) (.cons (.cst (.p (.str "call"))) (.cons (.cst (.p (.str "hail"))) (.cons (.cst (.p (.str "jump"))) (.cons (.cst (.p (.str "nought"))) .nil))))))))))))))))
    .nil))
/-- _law_new_row -/
def b14 : Ss := (.cons (.asg 3 (.idx (.call 13 .nil) (.call 8 (.cons (.var 0) (.cons (.cst (.p (.int 23))) .nil)))))
    (.cons (.ite (.cmp .eq (.call 8 (.cons (.var 0) (.cons (.cst (.p (.int 4))) .nil))) (.cst (.p (.int 0)))) (.cons (.asg 3 (.idxL (.disp (.cons (.cst (.p (.str "jump"))) (.cons (.cst (.p (.str "nought"))) .nil))) (.call 8 (.cons (.var 0) (.cons (.cst (.p (.int 2))) .nil)))))
    .nil) .nil)
    (.cons (.ite (.and (.eqL false (.var 1) (.disp .nil)) (.cmp .eq (.call 11 (.cons (.var 3) .nil)) (.cst (.p (.str "r"))))) (.cons (.asg 3 (.cst (.p (.str "drop"))))
    .nil) .nil)
    (.cons (.asg 4 (.lst (.disp .nil)))
    (.cons (.for_ (.str (.call 11 (.cons (.var 3) .nil))) [5] true (.cons (.asg 6 (.dget3 (.dlit ["u", "w", "r", "b"] (.cons (.idx (.var 2) (.cst (.p (.int 0)))) (.cons (.idx (.var 2) (.cst (.p (.int 1)))) (.cons (.var 1) (.cons (.lst (.disp (.cons (.cst (.p (.int 0))) (.cons (.cst (.p (.int 1))) (.cons (.cst (.p (.int 2))) (.cons (.cst (.p (.int 3))) (.cons (.cst (.p (.int 4))) (.cons (.cst (.p (.int 5))) (.cons (.cst (.p (.int 6))) (.cons (.cst (.p (.int 7))) .nil)))))))))) .nil))))) (.var 5) (.lst (.disp (.cons (.cst (.p (.int 0))) .nil)))))
    (.cons (.asg 7 (.idx (.var 6) (.call 8 (.cons (.var 0) (.cons (.len (.var 6)) .nil)))))
    (.cons (.expr (.append (.var 4) (.ifx (.cmp .eq (.var 5) (.cst (.p (.str "n")))) (.call 12 (.cons (.var 0) .nil)) (.var 7))))
    .nil))))
    (.cons (.ret (.bin .add (.tup (.cons (.var 3) .nil)) (.tupOf (.var 4))))
    .nil))))))
/-- _law_new_sign -/
def b15 : Ss := (.cons (.asg 4 (.lst (.lc (.rng (.call 8 (.cons (.var 0) (.cons (.bin .add (.var 3) (.cst (.p (.int 1)))) .nil)))) [5] true (.idxL (.cat (.lst (.disp (.cons (.cst (.p (.str "num"))) .nil))) (.idx (.var 2) (.cst (.p (.int 0))))) (.call 8 (.cons (.var 0) (.cons (.bin .add (.len (.idx (.var 2) (.cst (.p (.int 0))))) (.cst (.p (.int 1)))) .nil)))))))
    (.cons (.ret (.tup (.cons (.var 1) (.cons (.tupOf (.var 4)) (.cons (.idxL (.cat (.lst (.disp (.cons (.cst (.p (.str "num"))) .nil))) (.idx (.var 2) (.cst (.p (.int 0))))) (.call 8 (.cons (.var 0) (.cons (.bin .add (.len (.idx (.var 2) (.cst (.p (.int 0))))) (.cst (.p (.int 1)))) .nil)))) .nil)))))
    .nil))
/-- _law_new_way -/
def b16 : Ss := (.cons (.asg 4 (.bin .add (.cst (.p (.int 1))) (.call 8 (.cons (.var 0) (.cons (.var 3) .nil)))))
    (.cons (.asg 5 (.bin .add (.cst (.p (.int 1))) (.call 8 (.cons (.var 0) (.cons (.cst (.p (.int 4))) .nil)))))
    (.cons (.asg 6 (.lst (.disp .nil)))
    (.cons (.for_ (.rng (.var 4)) [7] true (.cons (.ite (.cmp .eq (.call 8 (.cons (.var 0) (.cons (.var 5) .nil))) (.cst (.p (.int 0)))) (.cons (.expr (.append (.var 6) (.tup (.cons (.var 7) (.cons (.idxL (.disp (.cons (.cst (.p (.int 0))) (.cons (.cst (.p (.int 1))) (.cons (.cst (.p (.int 1))) (.cons (.cst (.p (.int 8))) (.cons (.call 8 (.cons (.var 0) (.cons (.cst (.p (.int 9))) .nil))) .nil)))))) (.call 8 (.cons (.var 0) (.cons (.cst (.p (.int 5))) .nil)))) .nil)))))
    .nil) .nil)
    .nil))
    (.cons (.asg 8 (.lst (.lc (.lst (.var 6)) [7, 15] false (.var 7))))
    (.cons (.asg 9 (.lst (.lc (.rng (.var 4)) [7] true (.call 14 (.cons (.var 0) (.cons (.var 8) (.cons (.var 2) .nil)))))))
    (.cons (.asg 10 (.lst (.lcf (.lst (.var 6)) [7, 15] false (.cmp .eq (.var 15) (.cst (.p (.int 1)))) (.var 7))))
    (.cons (.asg 11 (.lst (.disp .nil)))
    (.cons (.for_ (.rng (.bin .mul (.call 8 (.cons (.var 0) (.cons (.cst (.p (.int 5))) .nil))) (.toInt (.eqL true (.var 10) (.disp .nil))))) [12] true (.cons (.asg 13 (.call 8 (.cons (.var 0) (.cons (.var 4) .nil))))
    (.cons (.asg 14 (.bin .add (.bin .add (.var 13) (.cst (.p (.int 1)))) (.call 8 (.cons (.var 0) (.cons (.bin .sub (.var 4) (.var 13)) .nil)))))
    (.cons (.expr (.append (.var 11) (.tup (.cons (.var 13) (.cons (.var 14) (.cons (.idx (.var 10) (.call 8 (.cons (.var 0) (.cons (.len (.var 10)) .nil)))) .nil))))))
    .nil))))
    (.cons (.ret (.bin .add (.call 15 (.cons (.var 0) (.cons (.var 1) (.cons (.var 2) (.cons (.cst (.p (.int 3))) .nil))))) (.tup (.cons (.tupOf (.var 9)) (.cons (.tupOf (.var 6)) (.cons (.tupOf (.var 11)) .nil))))))
    .nil))))))))))
/-- _law_new_kind -/
def b17 : Ss := (.cons (.unp [3, 4] (.idxL (.disp (.cons (.tup (.cons (.cst (.p (.int 3))) (.cons (.cst (.p (.int 9))) .nil))) (.cons (.tup (.cons (.cst (.p (.int 3))) (.cons (.cst (.p (.int 9))) .nil))) (.cons (.tup (.cons (.cst (.p (.int 3))) (.cons (.cst (.p (.int 9))) .nil))) (.cons (.tup (.cons (.cst (.p (.int 3))) (.cons (.cst (.p (.int 9))) .nil))) (.cons (.tup (.cons (.cst (.p (.int 3))) (.cons (.cst (.p (.int 9))) .nil))) (.cons (.tup (.cons (.cst (.p (.int 3))) (.cons (.cst (.p (.int 9))) .nil))) (.cons (.tup (.cons (.cst (.p (.int 8))) (.cons (.cst (.p (.int 3))) .nil))) (.cons (.tup (.cons (.cst (.p (.int 1))) (.cons (.cst (.p (.int 40))) .nil))) .nil))))))))) (.call 8 (.cons (.var 0) (.cons (.cst (.p (.int 8))) .nil)))))
    (.cons (.asg 5 (.idxL (.disp (.cons (.cst (.p (.str ""))) (.cons (.idx (.idx (.var 2) (.cst (.p (.int 0)))) (.cst (.p (.int 0)))) .nil))) (.call 8 (.cons (.var 0) (.cons (.cst (.p (.int 2))) .nil)))))
    (.cons (.asg 6 (.tupOf (.lst (.cut (.idx (.var 2) (.cst (.p (.int 0)))) .no (.at_ (.call 8 (.cons (.var 0) (.cons (.cst (.p (.int 4))) .nil))))))))
    (.cons (.asg 7 (.lst (.disp .nil)))
    (.cons (.for_ (.lst (.call 10 (.cons (.var 0) (.cons (.cst (.p (.bool false))) (.cons (.call 8 (.cons (.var 0) (.cons (.cst (.p (.int 7))) .nil))) .nil))))) [8] true (.cons (.expr (.append (.var 7) (.tup (.cons (.var 8) (.cons (.idxL (.cat (.lst (.disp (.cons (.cst (.p (.str "num"))) .nil))) (.idx (.var 2) (.cst (.p (.int 0))))) (.call 8 (.cons (.var 0) (.cons (.bin .add (.len (.idx (.var 2) (.cst (.p (.int 0))))) (.cst (.p (.int 1)))) .nil)))) .nil)))))
    .nil))
    (.cons (.asg 9 (.lst (.disp .nil)))
    (.cons (.for_ (.lst (.call 10 (.cons (.var 0) (.cons (.cst (.p (.bool false))) (.cons (.call 8 (.cons (.var 0) (.cons (.bin .add (.var 3) (.cst (.p (.int 1)))) .nil))) .nil))))) [10] true (.cons (.expr (.append (.var 9) (.call 16 (.cons (.var 0) (.cons (.var 10) (.cons (.var 2) (.cons (.var 4) .nil)))))))
    .nil))
    (.cons (.ret (.tup (.cons (.cst (.p (.str "kind"))) (.cons (.idx (.var 1) (.cst (.p (.int 0)))) (.cons (.var 5) (.cons (.var 6) (.cons (.tupOf (.var 7)) (.cons (.tupOf (.var 9)) .nil))))))))
    .nil))))))))
/-- _law_new_unit -/
def b18 : Ss := (.cons (.asg 1 (.call 10 (.cons (.var 0) (.cons (.cst (.p (.bool true))) (.cons (.cst (.p (.int 1))) .nil)))))
    (.cons (.asg 2 (.lst (.disp (.cons (.call 10 (.cons (.var 0) (.cons (.cst (.p (.bool true))) (.cons (.bin .add (.cst (.p (.int 3))) (.call 8 (.cons (.var 0) (.cons (.cst (.p (.int 3))) .nil)))) .nil)))) (.cons (.call 10 (.cons (.var 0) (.cons (.cst (.p (.bool false))) (.cons (.bin .add (.cst (.p (.int 1))) (.call 8 (.cons (.var 0) (.cons (.cst (.p (.int 4))) .nil)))) .nil)))) .nil)))))
    (.cons (.ite (.cmp .gt (.call 8 (.cons (.var 0) (.cons (.cst (.p (.int 4))) .nil))) (.cst (.p (.int 0)))) (.cons (.ret (.call 17 (.cons (.var 0) (.cons (.var 1) (.cons (.var 2) .nil)))))
    .nil) .nil)
    (.cons (.asg 3 (.lst (.disp .nil)))
    (.cons (.for_ (.lst (.call 10 (.cons (.var 0) (.cons (.cst (.p (.bool false))) (.cons (.bin .add (.cst (.p (.int 1))) (.call 8 (.cons (.var 0) (.cons (.cst (.p (.int 8))) .nil)))) .nil))))) [4] true (.cons (.expr (.append (.var 3) (.call 15 (.cons (.var 0) (.cons (.var 4) (.cons (.var 2) (.cons (.cst (.p (.int 6))) .nil)))))))
    .nil))
    (.cons (.ret (.tup (.cons (.cst (.p (.str "face"))) (.cons (.idx (.var 1) (.cst (.p (.int 0)))) (.cons (.tupOf (.var 3)) .nil)))))
    .nil))))))
/-- _law_row_line -/
def b19 : Ss := (.cons (.asg 2 (.lst (.lc (.tup (.slice (.var 0) (some 1) none)) [3] true (.strOf (.var 3)))))
    (.cons (.ite (.cmp .eq (.call 11 (.cons (.idx (.var 0) (.cst (.p (.int 0)))) .nil)) (.cst (.p (.str "r")))) (.cons (.asg 2 (.lst (.disp (.cons (.var 1) .nil))))
    .nil) .nil)
    (.cons (.ret (.join (.cst (.p (.str " "))) (.lst (.cat (.lst (.disp (.cons (.idx (.var 0) (.cst (.p (.int 0)))) .nil))) (.var 2)))))
    .nil)))
/-- _law_sign_line -/
def b20 : Ss := (.cons (.ret (.join (.cst (.p (.str " "))) (.lst (.cat (.lst (.cat (.lst (.disp (.cons (.cst (.p (.str "way"))) (.cons (.idx (.var 0) (.cst (.p (.int 0)))) .nil)))) (.lst (.of (.idx (.var 0) (.cst (.p (.int 1)))))))) (.lst (.disp (.cons (.cst (.p (.str "gives"))) (.cons (.idx (.var 0) (.cst (.p (.int 2)))) .nil))))))))
    .nil)
/-- _law_head_line -/
def b21 : Ss := (.cons (.asg 1 (.bin .add (.bin .add (.idx (.var 0) (.cst (.p (.int 0)))) (.cst (.p (.str " ")))) (.idx (.var 0) (.cst (.p (.int 1))))))
    (.cons (.ite (.cmp .eq (.idx (.var 0) (.cst (.p (.int 0)))) (.cst (.p (.str "face")))) (.cons (.ret (.var 1))
    .nil) .nil)
    (.cons (.ite (.cmp .ne (.idx (.var 0) (.cst (.p (.int 2)))) (.cst (.p (.str "")))) (.cons (.asg 1 (.bin .add (.bin .add (.var 1) (.cst (.p (.str " above ")))) (.idx (.var 0) (.cst (.p (.int 2))))))
    .nil) .nil)
    (.cons (.ite (.cmp .ne (.idx (.var 0) (.cst (.p (.int 3)))) (.tup .nil)) (.cons (.asg 1 (.bin .add (.bin .add (.var 1) (.cst (.p (.str " faces ")))) (.join (.cst (.p (.str " "))) (.idx (.var 0) (.cst (.p (.int 3)))))))
    .nil) .nil)
    (.cons (.ret (.var 1))
    .nil)))))
/-- _law_way_lines -/
def b22 : Ss := (.cons (.asg 1 (.dictOf (.idx (.var 0) (.cst (.p (.int 4))))))
    (.cons (.asg 2 (.lst (.cat (.lst (.lc (.tup (.idx (.var 0) (.cst (.p (.int 5))))) [5] true (.idx (.var 5) (.cst (.p (.int 0)))))) (.lst (.lc (.tup (.idx (.var 0) (.cst (.p (.int 5))))) [5] true (.idx (.var 5) (.cst (.p (.int 1)))))))))
    (.cons (.asg 3 (.lst (.disp (.cons (.call 20 (.cons (.var 0) .nil)) .nil))))
    (.cons (.expr (.extend (.var 3) (.lst (.lc (.tup (.idx (.var 0) (.cst (.p (.int 5))))) [5] true (.join (.cst (.p (.str " "))) (.lst (.cat (.lst (.disp (.cons (.cst (.p (.str "catch"))) .nil))) (.lst (.lc (.tup (.var 5)) [6] true (.bin .add (.cst (.p (.str "r"))) (.strOf (.var 6))))))))))))
    (.cons (.for_ (.rng (.bin .add (.len (.idx (.var 0) (.cst (.p (.int 3))))) (.cst (.p (.int 1))))) [4] true (.cons (.ite (.cmp .in_ (.var 4) (.var 1)) (.cons (.expr (.append (.var 3) (.bin .add (.bin .add (.bin .add (.cst (.p (.str "at r"))) (.strOf (.var 4))) (.cst (.p (.str " ")))) (.strOf (.op2 dixD (.var 1) (.var 4))))))
    .nil) (.cons (.ite (.cmp .in_ (.var 4) (.var 2)) (.cons (.expr (.append (.var 3) (.bin .add (.cst (.p (.str "mark r"))) (.strOf (.var 4)))))
    .nil) .nil)
    .nil))
    (.cons (.ite (.cmp .lt (.var 4) (.len (.idx (.var 0) (.cst (.p (.int 3)))))) (.cons (.expr (.append (.var 3) (.call 19 (.cons (.idx (.idx (.var 0) (.cst (.p (.int 3)))) (.var 4)) (.cons (.bin .add (.cst (.p (.str "r"))) (.strOf (.idx (.idx (.idx (.var 0) (.cst (.p (.int 3)))) (.var 4)) (.neg (.cst (.p (.int 1))))))) .nil)))))
    .nil) .nil)
    .nil)))
    (.cons (.ret (.var 3))
    .nil))))))
/-- _law_as_written -/
def b23 : Ss := (.cons (.asg 1 (.lst (.disp (.cons (.call 21 (.cons (.var 0) .nil)) .nil))))
    (.cons (.ite (.cmp .eq (.idx (.var 0) (.cst (.p (.int 0)))) (.cst (.p (.str "face")))) (.cons (.expr (.extend (.var 1) (.lst (.lc (.tup (.idx (.var 0) (.cst (.p (.int 2))))) [3] true (.call 20 (.cons (.var 3) .nil))))))
    (.cons (.ret (.join (.cst (.p (.str "
"))) (.var 1)))
    .nil)) .nil)
    (.cons (.expr (.extend (.var 1) (.lst (.lc (.tup (.idx (.var 0) (.cst (.p (.int 4))))) [4, 5] false (.bin .add (.bin .add (.bin .add (.cst (.p (.str "field "))) (.var 4)) (.cst (.p (.str " ")))) (.var 5))))))
    (.cons (.for_ (.tup (.idx (.var 0) (.cst (.p (.int 5))))) [2] true (.cons (.expr (.extend (.var 1) (.call 22 (.cons (.var 2) .nil))))
    .nil))
    (.cons (.ret (.join (.cst (.p (.str "
"))) (.var 1)))
    .nil)))))
/-- law -/
def b24 : Ss := (.cons (.asg 1 (.lst (.disp (.cons (.lst (.of (.var 0))) (.cons (.cst (.p (.int 0))) (.cons (.cst (.p (.int 0))) (.cons (.cst (.p (.int 0))) .nil)))))))
    (.cons (.for_ (.rng (.cst (.p (.int 2)))) [2] true (.cons (.asg 3 (.call 18 (.cons (.var 1) .nil)))
    (.cons (.asg 4 (.call 1 (.cons (.var 3) .nil)))
    (.cons (.ite (.or (.not (.isi (.var 4) .str)) (.cmp .ne (.var 4) (.call 23 (.cons (.var 3) .nil)))) (.cons (.ret (.cst (.p (.bool false))))
    .nil) .nil)
    .nil))))
    (.cons (.ret (.cst (.p (.bool true))))
    .nil)))
def fns : List Fn := [⟨1, 1, b0⟩, ⟨1, 2, b1⟩, ⟨1, 11, b2⟩, ⟨1, 5, b3⟩, ⟨1, 4, b4⟩, ⟨1, 12, b5⟩, ⟨1, 1, b6⟩, ⟨1, 2, b7⟩, ⟨2, 3, b8⟩, ⟨3, 9, b9⟩, ⟨3, 5, b10⟩, ⟨1, 3, b11⟩, ⟨1, 2, b12⟩, ⟨0, 1, b13⟩, ⟨3, 8, b14⟩, ⟨4, 6, b15⟩, ⟨4, 16, b16⟩, ⟨3, 11, b17⟩, ⟨1, 5, b18⟩, ⟨2, 4, b19⟩, ⟨1, 1, b20⟩, ⟨1, 2, b21⟩, ⟨1, 7, b22⟩, ⟨1, 6, b23⟩, ⟨1, 5, b24⟩]
def fs (i : Nat) : Option Fn := fns[i]?
structure Txt (g : Gc) (w : World) (mg : Str → Option Value) (a : Nat → Addr) : Prop where
  ph : ∀ i f, g.ph i = some f → i < 25 ∧ f = a i
  p0 : g.ph 0 = some (a 0)
  m0 : mg "leads_on" = some (.ref (a 0))
  p1 : g.ph 1 = some (a 1)
  m1 : mg "written" = some (.ref (a 1))
  p2 : g.ph 2 = some (a 2)
  m2 : mg "kind_lines" = some (.ref (a 2))
  p3 : g.ph 3 = some (a 3)
  m3 : mg "face_lines" = some (.ref (a 3))
  p4 : g.ph 4 = some (a 4)
  m4 : mg "signature_line" = some (.ref (a 4))
  p5 : g.ph 5 = some (a 5)
  m5 : mg "way_lines" = some (.ref (a 5))
  p6 : g.ph 6 = some (a 6)
  m6 : mg "label" = some (.ref (a 6))
  p7 : g.ph 7 = some (a 7)
  m7 : mg "row_line" = some (.ref (a 7))
  p8 : g.ph 8 = some (a 8)
  m8 : mg "_law_draw" = some (.ref (a 8))
  p9 : g.ph 9 = some (a 9)
  m9 : mg "_law_word" = some (.ref (a 9))
  p10 : g.ph 10 = some (a 10)
  m10 : mg "_law_words" = some (.ref (a 10))
  p11 : g.ph 11 = some (a 11)
  m11 : mg "_law_sorts" = some (.ref (a 11))
  p12 : g.ph 12 = some (a 12)
  m12 : mg "_law_number" = some (.ref (a 12))
  p13 : g.ph 13 = some (a 13)
  m13 : mg "_law_rowwords" = some (.ref (a 13))
  p14 : g.ph 14 = some (a 14)
  m14 : mg "_law_new_row" = some (.ref (a 14))
  p15 : g.ph 15 = some (a 15)
  m15 : mg "_law_new_sign" = some (.ref (a 15))
  p16 : g.ph 16 = some (a 16)
  m16 : mg "_law_new_way" = some (.ref (a 16))
  p17 : g.ph 17 = some (a 17)
  m17 : mg "_law_new_kind" = some (.ref (a 17))
  p18 : g.ph 18 = some (a 18)
  m18 : mg "_law_new_unit" = some (.ref (a 18))
  p19 : g.ph 19 = some (a 19)
  m19 : mg "_law_row_line" = some (.ref (a 19))
  p20 : g.ph 20 = some (a 20)
  m20 : mg "_law_sign_line" = some (.ref (a 20))
  p21 : g.ph 21 = some (a 21)
  m21 : mg "_law_head_line" = some (.ref (a 21))
  p22 : g.ph 22 = some (a 22)
  m22 : mg "_law_way_lines" = some (.ref (a 22))
  p23 : g.ph 23 = some (a 23)
  m23 : mg "_law_as_written" = some (.ref (a 23))
  p24 : g.ph 24 = some (a 24)
  m24 : mg "law" = some (.ref (a 24))
  b_dict : mg "dict" = none
  b_int : mg "int" = none
  b_isinstance : mg "isinstance" = none
  b_len : mg "len" = none
  b_list : mg "list" = none
  b_range : mg "range" = none
  b_str : mg "str" = none
  b_tuple : mg "tuple" = none
section
variable {P : Program} {w : World} {g : Gc} {mg : Str → Option Value} {base : Heap} {cal : Nat → List D → M D} {k : Nat} {a : Nat → Addr}
theorem Txt.v23 (T : Txt g w mg a) : Gv g mg "_law_as_written" (.fn 23) := ⟨.ref (a 23), .ref (a 23), T.m23, rfl, fun _ _ => ⟨a 23, T.p23, rfl⟩⟩
theorem Txt.v8 (T : Txt g w mg a) : Gv g mg "_law_draw" (.fn 8) := ⟨.ref (a 8), .ref (a 8), T.m8, rfl, fun _ _ => ⟨a 8, T.p8, rfl⟩⟩
theorem Txt.v21 (T : Txt g w mg a) : Gv g mg "_law_head_line" (.fn 21) := ⟨.ref (a 21), .ref (a 21), T.m21, rfl, fun _ _ => ⟨a 21, T.p21, rfl⟩⟩
theorem Txt.v17 (T : Txt g w mg a) : Gv g mg "_law_new_kind" (.fn 17) := ⟨.ref (a 17), .ref (a 17), T.m17, rfl, fun _ _ => ⟨a 17, T.p17, rfl⟩⟩
theorem Txt.v14 (T : Txt g w mg a) : Gv g mg "_law_new_row" (.fn 14) := ⟨.ref (a 14), .ref (a 14), T.m14, rfl, fun _ _ => ⟨a 14, T.p14, rfl⟩⟩
theorem Txt.v15 (T : Txt g w mg a) : Gv g mg "_law_new_sign" (.fn 15) := ⟨.ref (a 15), .ref (a 15), T.m15, rfl, fun _ _ => ⟨a 15, T.p15, rfl⟩⟩
theorem Txt.v18 (T : Txt g w mg a) : Gv g mg "_law_new_unit" (.fn 18) := ⟨.ref (a 18), .ref (a 18), T.m18, rfl, fun _ _ => ⟨a 18, T.p18, rfl⟩⟩
theorem Txt.v16 (T : Txt g w mg a) : Gv g mg "_law_new_way" (.fn 16) := ⟨.ref (a 16), .ref (a 16), T.m16, rfl, fun _ _ => ⟨a 16, T.p16, rfl⟩⟩
theorem Txt.v12 (T : Txt g w mg a) : Gv g mg "_law_number" (.fn 12) := ⟨.ref (a 12), .ref (a 12), T.m12, rfl, fun _ _ => ⟨a 12, T.p12, rfl⟩⟩
theorem Txt.v19 (T : Txt g w mg a) : Gv g mg "_law_row_line" (.fn 19) := ⟨.ref (a 19), .ref (a 19), T.m19, rfl, fun _ _ => ⟨a 19, T.p19, rfl⟩⟩
theorem Txt.v13 (T : Txt g w mg a) : Gv g mg "_law_rowwords" (.fn 13) := ⟨.ref (a 13), .ref (a 13), T.m13, rfl, fun _ _ => ⟨a 13, T.p13, rfl⟩⟩
theorem Txt.v20 (T : Txt g w mg a) : Gv g mg "_law_sign_line" (.fn 20) := ⟨.ref (a 20), .ref (a 20), T.m20, rfl, fun _ _ => ⟨a 20, T.p20, rfl⟩⟩
theorem Txt.v11 (T : Txt g w mg a) : Gv g mg "_law_sorts" (.fn 11) := ⟨.ref (a 11), .ref (a 11), T.m11, rfl, fun _ _ => ⟨a 11, T.p11, rfl⟩⟩
theorem Txt.v22 (T : Txt g w mg a) : Gv g mg "_law_way_lines" (.fn 22) := ⟨.ref (a 22), .ref (a 22), T.m22, rfl, fun _ _ => ⟨a 22, T.p22, rfl⟩⟩
theorem Txt.v9 (T : Txt g w mg a) : Gv g mg "_law_word" (.fn 9) := ⟨.ref (a 9), .ref (a 9), T.m9, rfl, fun _ _ => ⟨a 9, T.p9, rfl⟩⟩
theorem Txt.v10 (T : Txt g w mg a) : Gv g mg "_law_words" (.fn 10) := ⟨.ref (a 10), .ref (a 10), T.m10, rfl, fun _ _ => ⟨a 10, T.p10, rfl⟩⟩
theorem Txt.v3 (T : Txt g w mg a) : Gv g mg "face_lines" (.fn 3) := ⟨.ref (a 3), .ref (a 3), T.m3, rfl, fun _ _ => ⟨a 3, T.p3, rfl⟩⟩
theorem Txt.v2 (T : Txt g w mg a) : Gv g mg "kind_lines" (.fn 2) := ⟨.ref (a 2), .ref (a 2), T.m2, rfl, fun _ _ => ⟨a 2, T.p2, rfl⟩⟩
theorem Txt.v6 (T : Txt g w mg a) : Gv g mg "label" (.fn 6) := ⟨.ref (a 6), .ref (a 6), T.m6, rfl, fun _ _ => ⟨a 6, T.p6, rfl⟩⟩
theorem Txt.v0 (T : Txt g w mg a) : Gv g mg "leads_on" (.fn 0) := ⟨.ref (a 0), .ref (a 0), T.m0, rfl, fun _ _ => ⟨a 0, T.p0, rfl⟩⟩
theorem Txt.v7 (T : Txt g w mg a) : Gv g mg "row_line" (.fn 7) := ⟨.ref (a 7), .ref (a 7), T.m7, rfl, fun _ _ => ⟨a 7, T.p7, rfl⟩⟩
theorem Txt.v4 (T : Txt g w mg a) : Gv g mg "signature_line" (.fn 4) := ⟨.ref (a 4), .ref (a 4), T.m4, rfl, fun _ _ => ⟨a 4, T.p4, rfl⟩⟩
theorem Txt.v5 (T : Txt g w mg a) : Gv g mg "way_lines" (.fn 5) := ⟨.ref (a 5), .ref (a 5), T.m5, rfl, fun _ _ => ⟨a 5, T.p5, rfl⟩⟩
theorem Txt.v1 (T : Txt g w mg a) : Gv g mg "written" (.fn 1) := ⟨.ref (a 1), .ref (a 1), T.m1, rfl, fun _ _ => ⟨a 1, T.p1, rfl⟩⟩
theorem sc0 : FnScope ["row"] ["row"] (defScope (top 1)) := ⟨rfl, rfl, rfl, by decide +kernel, rfl, by decide +kernel, by decide +kernel⟩
theorem bd0 (T : Txt g w mg a) {f : Addr} {cdv : Value} {A : Around} {outer : List Env} {s : Shared} {H : Hp} {E : XK} (G : Gd (cxOf CX0 P w g.K mg base ["row"] "leads_on" (defScope (top 1)) f cdv A outer s H E).nox g W0 CX0 cal k) :
    PSs (cxOf CX0 P w g.K mg base ["row"] "leads_on" (defScope (top 1)) f cdv A outer s H E).nox (defBody (top 1)) (rS g W0 (exSs cal b0)) :=
    (ss_cons (s_ret (e_c (c_in G) (e_idx G.K (e_var 0) e_int) (e_tup (a_cons e_str (a_cons e_str a_nil)))))
    ss_nil)
theorem sc1 : FnScope ["unit", "lines"] ["unit"] (defScope (top 3)) := ⟨rfl, rfl, rfl, by decide +kernel, rfl, by decide +kernel, by decide +kernel⟩
theorem bd1 (T : Txt g w mg a) {f : Addr} {cdv : Value} {A : Around} {outer : List Env} {s : Shared} {H : Hp} {E : XK} (G : Gd (cxOf CX0 P w g.K mg base ["unit", "lines"] "written" (defScope (top 3)) f cdv A outer s H E).nox g W0 CX0 cal k) :
    PSs (cxOf CX0 P w g.K mg base ["unit", "lines"] "written" (defScope (top 3)) f cdv A outer s H E).nox (defBody (top 3)) (rS g W0 (exSs cal b1)) :=
    (ss_cons (s_asg 1 G.nd (e_ifx (t_c (c_eq G) (e_idx G.K (e_var 0) e_int) e_str) (e_call G T.p2 T.m2 (a_cons (e_var 0) a_nil)) (e_call G T.p3 T.m3 (a_cons (e_var 0) a_nil))))
    (ss_cons (s_ret (e_join G.K e_str (e_var 1)))
    ss_nil))
theorem sc2 : FnScope ["unit", "_", "name", "above", "faces", "fields", "ways", "head", "lines", "way", "field"] ["unit"] (defScope (top 4)) := ⟨rfl, rfl, rfl, by decide +kernel, rfl, by decide +kernel, by decide +kernel⟩
theorem bd2 (T : Txt g w mg a) {f : Addr} {cdv : Value} {A : Around} {outer : List Env} {s : Shared} {H : Hp} {E : XK} (G : Gd (cxOf CX0 P w g.K mg base ["unit", "_", "name", "above", "faces", "fields", "ways", "head", "lines", "way", "field"] "kind_lines" (defScope (top 4)) f cdv A outer s H E).nox g W0 CX0 cal k) :
    PSs (cxOf CX0 P w g.K mg base ["unit", "_", "name", "above", "faces", "fields", "ways", "head", "lines", "way", "field"] "kind_lines" (defScope (top 4)) f cdv A outer s H E).nox (defBody (top 4)) (rS g W0 (exSs cal b2)) :=
    (ss_cons (s_unp (e_var 0) (g_tup G.K G.calm (g_cons 1 G.nd (g_cons 2 G.nd (g_cons 3 G.nd (g_cons 4 G.nd (g_cons 5 G.nd (g_cons 6 G.nd g_nil))))))))
    (ss_cons (s_asg 7 G.nd (e_lst (l_disp (a_cons e_str (a_cons (e_var 2) a_nil)))))
    (ss_cons (s_ite (t_c (c_ne G) (e_var 3) e_str) (ss_cons (s_augL 7 G (e_lst (l_disp (a_cons e_str (a_cons (e_var 3) a_nil)))))
    ss_nil) ss_nil)
    (ss_cons (s_ite (t_truth G.K (e_var 4)) (ss_cons (s_augL 7 G (e_lst (l_disp (a_cons e_str (a_star G.K (e_var 4) a_nil)))))
    ss_nil) ss_nil)
    (ss_cons (s_asg 8 G.nd (e_lst (l_disp (a_cons (e_join G.K e_str (e_var 7)) a_nil))))
    (ss_cons (s_augL 8 G (e_lst (l_lc [("field", 10)] G (i_tup G.K (e_var 5)) (by rfl) (fun _ _ _ _ _ => g_one 10 G.nd) (fun _ _ _ _ _ G => (e_join G.K e_str (e_lst (l_disp (a_cons e_str (a_star G.K (e_var 10) a_nil)))))))))
    (ss_cons (s_for PassesOwn.never G.calm (i_tup G.K (e_var 6)) (g_one 9 G.nd) (ss_cons (s_augL 8 G (e_call G T.p5 T.m5 (a_cons (e_var 9) a_nil)))
    ss_nil))
    (ss_cons (s_ret (e_var 8))
    ss_nil))))))))
theorem sc3 : FnScope ["unit", "_", "name", "signatures", "signature"] ["unit"] (defScope (top 5)) := ⟨rfl, rfl, rfl, by decide +kernel, rfl, by decide +kernel, by decide +kernel⟩
theorem bd3 (T : Txt g w mg a) {f : Addr} {cdv : Value} {A : Around} {outer : List Env} {s : Shared} {H : Hp} {E : XK} (G : Gd (cxOf CX0 P w g.K mg base ["unit", "_", "name", "signatures", "signature"] "face_lines" (defScope (top 5)) f cdv A outer s H E).nox g W0 CX0 cal k) :
    PSs (cxOf CX0 P w g.K mg base ["unit", "_", "name", "signatures", "signature"] "face_lines" (defScope (top 5)) f cdv A outer s H E).nox (defBody (top 5)) (rS g W0 (exSs cal b3)) :=
    (ss_cons (s_unp (e_var 0) (g_tup G.K G.calm (g_cons 1 G.nd (g_cons 2 G.nd (g_cons 3 G.nd g_nil)))))
    (ss_cons (s_ret (e_lst (l_cat (e_lst (l_disp (a_cons (e_fstr (j_txt (j_fmt (e_var 2) j_nil))) a_nil))) (e_lst (l_lc [("signature", 4)] G (i_tup G.K (e_var 3)) (by rfl) (fun _ _ _ _ _ => g_one 4 G.nd) (fun _ _ _ _ _ G => (e_call G T.p4 T.m4 (a_cons (e_var 4) a_nil))))))))
    ss_nil))
theorem sc4 : FnScope ["signature", "name", "takes", "gives"] ["signature"] (defScope (top 6)) := ⟨rfl, rfl, rfl, by decide +kernel, rfl, by decide +kernel, by decide +kernel⟩
theorem bd4 (T : Txt g w mg a) {f : Addr} {cdv : Value} {A : Around} {outer : List Env} {s : Shared} {H : Hp} {E : XK} (G : Gd (cxOf CX0 P w g.K mg base ["signature", "name", "takes", "gives"] "signature_line" (defScope (top 6)) f cdv A outer s H E).nox g W0 CX0 cal k) :
    PSs (cxOf CX0 P w g.K mg base ["signature", "name", "takes", "gives"] "signature_line" (defScope (top 6)) f cdv A outer s H E).nox (defBody (top 6)) (rS g W0 (exSs cal b4)) :=
    (ss_cons (s_unp (e_var 0) (g_tup G.K G.calm (g_cons 1 G.nd (g_cons 2 G.nd (g_cons 3 G.nd g_nil)))))
    (ss_cons (s_ret (e_join G.K e_str (e_lst (l_disp (a_cons e_str (a_cons (e_var 1) (a_star G.K (e_var 2) (a_cons e_str (a_cons (e_var 3) a_nil)))))))))
    ss_nil))
theorem sc5 : FnScope ["way", "rows", "entries", "catches", "heights", "ends", "lines", "at", "catch", "row", "first", "end"] ["way"] (defScope (top 7)) := ⟨rfl, rfl, rfl, by decide +kernel, rfl, by decide +kernel, by decide +kernel⟩
theorem bd5 (T : Txt g w mg a) {f : Addr} {cdv : Value} {A : Around} {outer : List Env} {s : Shared} {H : Hp} {E : XK} (G : Gd (cxOf CX0 P w g.K mg base ["way", "rows", "entries", "catches", "heights", "ends", "lines", "at", "catch", "row", "first", "end"] "way_lines" (defScope (top 7)) f cdv A outer s H E).nox g W0 CX0 cal k) :
    PSs (cxOf CX0 P w g.K mg base ["way", "rows", "entries", "catches", "heights", "ends", "lines", "at", "catch", "row", "first", "end"] "way_lines" (defScope (top 7)) f cdv A outer s H E).nox (defBody (top 7)) (rS g W0 (exSs cal b5)) :=
    (ss_cons (s_unp (e_slice G.K (e_var 0) pt_int pt_none) (g_tup G.K G.calm (g_cons 1 G.nd (g_cons 2 G.nd (g_cons 3 G.nd g_nil)))))
    (ss_cons (s_asg 4 G.nd (e_dictOf G.calm G.K T.b_dict (e_var 2)))
    (ss_cons (s_asgLc2 5 [("catch", 8)] [("row", 9)] G (i_tup G.K (e_var 3)) (by rfl) (fun _ _ _ _ _ => g_one 8 G.nd) (fun _ _ _ _ _ G => (e_slice G.K (e_var 8) pt_none pt_int)) (fun _ _ _ _ _ => g_one 9 G.nd) (fun _ _ _ _ _ G => (e_var 9)) (sw_true rfl rfl rfl (by decide +kernel)))
    (ss_cons (s_asg 6 G.nd (e_lst (l_disp (a_cons (e_call G T.p4 T.m4 (a_cons (e_slice G.K (e_var 0) pt_none pt_int) a_nil)) a_nil))))
    (ss_cons (s_augL 6 G (e_lst (l_lc [("first", 10), ("end", 11), ("at", 7)] G (i_tup G.K (e_var 3)) (by rfl) (fun _ _ _ _ _ => g_tup G.K G.calm (g_cons 10 G.nd (g_cons 11 G.nd (g_cons 7 G.nd g_nil)))) (fun _ _ _ _ _ G => (e_fstr (j_txt (j_fmt (e_call G T.p6 T.m6 (a_cons (e_var 10) a_nil)) (j_txt (j_fmt (e_call G T.p6 T.m6 (a_cons (e_var 11) a_nil)) (j_txt (j_fmt (e_call G T.p6 T.m6 (a_cons (e_var 7) a_nil)) j_nil)))))))))))
    (ss_cons (s_for PassesOwn.never G.calm (i_rng T.b_range (e_add G (e_len G.K T.b_len (e_var 1)) e_int)) (g_one 7 G.nd) (ss_cons (s_ite (t_c (c_in G) (e_var 7) (e_var 4)) (ss_cons (s_expr (e_append G.K (e_var 6) (e_fstr (j_txt (j_fmt (e_call G T.p6 T.m6 (a_cons (e_var 7) a_nil)) (j_txt (j_fmt (e_dix G (e_var 4) (e_var 7)) j_nil)))))))
    ss_nil) (ss_cons (s_ite (t_c (c_in G) (e_var 7) (e_var 5)) (ss_cons (s_expr (e_append G.K (e_var 6) (e_fstr (j_txt (j_fmt (e_call G T.p6 T.m6 (a_cons (e_var 7) a_nil)) j_nil)))))
    ss_nil) ss_nil)
    ss_nil))
    (ss_cons (s_ite (t_c (c_lt G) (e_var 7) (e_len G.K T.b_len (e_var 1))) (ss_cons (s_expr (e_append G.K (e_var 6) (e_call G T.p7 T.m7 (a_cons (e_idx G.K (e_var 1) (e_var 7)) a_nil))))
    ss_nil) ss_nil)
    ss_nil)))
    (ss_cons (s_ret (e_var 6))
    ss_nil)))))))
theorem sc6 : FnScope ["row"] ["row"] (defScope (top 8)) := ⟨rfl, rfl, rfl, by decide +kernel, rfl, by decide +kernel, by decide +kernel⟩
theorem bd6 (T : Txt g w mg a) {f : Addr} {cdv : Value} {A : Around} {outer : List Env} {s : Shared} {H : Hp} {E : XK} (G : Gd (cxOf CX0 P w g.K mg base ["row"] "label" (defScope (top 8)) f cdv A outer s H E).nox g W0 CX0 cal k) :
    PSs (cxOf CX0 P w g.K mg base ["row"] "label" (defScope (top 8)) f cdv A outer s H E).nox (defBody (top 8)) (rS g W0 (exSs cal b6)) :=
    (ss_cons (s_ret (e_fstr (j_txt (j_fmt (e_var 0) j_nil))))
    ss_nil)
theorem sc7 : FnScope ["row", "part"] ["row"] (defScope (top 9)) := ⟨rfl, rfl, rfl, by decide +kernel, rfl, by decide +kernel, by decide +kernel⟩
theorem bd7 (T : Txt g w mg a) {f : Addr} {cdv : Value} {A : Around} {outer : List Env} {s : Shared} {H : Hp} {E : XK} (G : Gd (cxOf CX0 P w g.K mg base ["row", "part"] "row_line" (defScope (top 9)) f cdv A outer s H E).nox g W0 CX0 cal k) :
    PSs (cxOf CX0 P w g.K mg base ["row", "part"] "row_line" (defScope (top 9)) f cdv A outer s H E).nox (defBody (top 9)) (rS g W0 (exSs cal b7)) :=
    (ss_cons (s_ite (t_val (e_call G T.p0 T.m0 (a_cons (e_var 0) a_nil))) (ss_cons (s_ret (e_fstr (j_fmt (e_idx G.K (e_var 0) e_int) (j_txt (j_fmt (e_call G T.p6 T.m6 (a_cons (e_idx G.K (e_var 0) e_int) a_nil)) j_nil)))))
    ss_nil) ss_nil)
    (ss_cons (s_ret (e_join G.K e_str (e_lst (l_lc [("part", 1)] G (i_tup G.K (e_var 0)) (by rfl) (fun _ _ _ _ _ => g_one 1 G.nd) (fun _ _ _ _ _ G => (e_strOf T.b_str (e_var 1)))))))
    ss_nil))
theorem sc8 : FnScope ["_law_stream", "_law_many", "_law_number_here"] ["_law_stream", "_law_many"] (defScope (top 11)) := ⟨rfl, rfl, rfl, by decide +kernel, rfl, by decide +kernel, by decide +kernel⟩
theorem bd8 (T : Txt g w mg a) {f : Addr} {cdv : Value} {A : Around} {outer : List Env} {s : Shared} {H : Hp} {E : XK} (G : Gd (cxOf CX0 P w g.K mg base ["_law_stream", "_law_many", "_law_number_here"] "_law_draw" (defScope (top 11)) f cdv A outer s H E).nox g W0 CX0 cal k) :
    PSs (cxOf CX0 P w g.K mg base ["_law_stream", "_law_many", "_law_number_here"] "_law_draw" (defScope (top 11)) f cdv A outer s H E).nox (defBody (top 11)) (rS g W0 (exSs cal b8)) :=
    (ss_cons (s_setI G (e_add G (e_idx G.K (e_var 0) e_int) e_int) (e_var 0) e_int)
    (ss_cons (s_ite (t_w (w_and (t_c (c_eq G) (e_idx G.K (e_var 0) e_int) e_int) (w_and1 (t_neL G (e_idx G.K (e_var 0) e_int) (l_disp a_nil))))) (ss_cons (s_setI G (e_popAt G.K (e_idx G.K (e_var 0) e_int) e_int) (e_var 0) e_int)
    (ss_cons (s_ite (t_c (c_lt G) (e_idx G.K (e_var 0) e_int) (e_pow G e_int e_int)) (ss_cons (s_setI G (e_mod G (e_add G (e_mul G (e_idx G.K (e_var 0) e_int) e_int) (e_idx G.K (e_var 0) e_int)) e_int) (e_var 0) e_int)
    (ss_cons (s_setI G e_int (e_var 0) e_int)
    ss_nil)) ss_nil)
    ss_nil)) ss_nil)
    (ss_cons (s_ite (t_c (c_gt G) (e_idx G.K (e_var 0) e_int) e_int) (ss_cons (s_asg 2 G.nd (e_mod G (e_idx G.K (e_var 0) e_int) (e_var 1)))
    (ss_cons (s_setI G (e_fdiv G (e_idx G.K (e_var 0) e_int) (e_var 1)) (e_var 0) e_int)
    (ss_cons (s_ret (e_var 2))
    ss_nil))) ss_nil)
    (ss_cons (s_asg 2 G.nd (e_mod G (e_pow G (e_add G (e_add G (e_idx G.K (e_var 0) e_int) (e_mul G e_int (e_idx G.K (e_var 0) e_int))) e_int) e_int) e_int))
    (ss_cons (s_ret (e_mod G (e_mod G (e_mul G (e_add G (e_var 2) (e_idx G.K (e_var 0) e_int)) e_int) e_int) (e_var 1)))
    ss_nil)))))
theorem sc9 : FnScope ["_law_stream", "_law_capital", "_law_used", "_law_small", "_law_firsts", "_law_size", "_law_text", "_law_some", "_law_k"] ["_law_stream", "_law_capital", "_law_used"] (defScope (top 12)) := ⟨rfl, rfl, rfl, by decide +kernel, rfl, by decide +kernel, by decide +kernel⟩
theorem bd9 (T : Txt g w mg a) {f : Addr} {cdv : Value} {A : Around} {outer : List Env} {s : Shared} {H : Hp} {E : XK} (G : Gd (cxOf CX0 P w g.K mg base ["_law_stream", "_law_capital", "_law_used", "_law_small", "_law_firsts", "_law_size", "_law_text", "_law_some", "_law_k"] "_law_word" (defScope (top 12)) f cdv A outer s H E).nox g W0 CX0 cal k) :
    PSs (cxOf CX0 P w g.K mg base ["_law_stream", "_law_capital", "_law_used", "_law_small", "_law_firsts", "_law_size", "_law_text", "_law_some", "_law_k"] "_law_word" (defScope (top 12)) f cdv A outer s H E).nox (defBody (top 12)) (rS g W0 (exSs cal b9)) :=
    (ss_cons (s_asg 3 G.nd e_str)
    (ss_cons (s_asg 4 G.nd (e_idxL G.K (l_disp (a_cons (e_var 3) (a_cons e_str a_nil))) (e_toInt T.b_int (e_var 1))))
    (ss_cons (s_asg 5 G.nd (e_idxL G.K (l_disp (a_cons e_int (a_cons e_int (a_cons e_int (a_cons e_int a_nil))))) (e_call G T.p8 T.m8 (a_cons (e_var 0) (a_cons e_int a_nil)))))
    (ss_cons (s_asg 6 G.nd (e_idx G.K (e_var 4) (e_call G T.p8 T.m8 (a_cons (e_var 0) (a_cons e_int a_nil)))))
    (ss_cons (s_asg 6 G.nd (e_add G (e_var 6) (e_join G.K e_str (e_lst (l_lc [("_law_k", 8)] G (i_rng T.b_range (e_var 5)) (by rfl) (fun _ _ _ _ _ => g_one 8 G.nd) (fun _ _ _ _ _ G => (e_idx G.K (e_add G (e_var 3) e_str) (e_call G T.p8 T.m8 (a_cons (e_var 0) (a_cons e_int a_nil))))))))))
    (ss_cons (s_asg 7 G.nd (e_idxL G.K (l_disp (a_cons (e_lst (l_disp (a_cons e_str (a_cons e_str (a_cons e_str (a_cons e_str (a_cons e_str (a_cons e_str (a_cons e_str a_nil))))))))) (a_cons (e_lst (l_disp (a_cons e_str (a_cons e_str (a_cons e_str (a_cons e_str a_nil)))))) a_nil))) (e_toInt T.b_int (e_var 1))))
    (ss_cons (s_ite (t_c (c_eq G) (e_call G T.p8 T.m8 (a_cons (e_var 0) (a_cons e_int a_nil))) e_int) (ss_cons (s_asg 6 G.nd (e_idx G.K (e_var 7) (e_call G T.p8 T.m8 (a_cons (e_var 0) (a_cons (e_len G.K T.b_len (e_var 7)) a_nil)))))
    ss_nil) ss_nil)
    (ss_cons (s_for PassesOwn.never G.calm (i_rng T.b_range (e_add G (e_len G.K T.b_len (e_var 2)) e_int)) (g_one 8 G.nd) (ss_cons (s_ite (t_c (c_in G) (e_var 6) (e_var 2)) (ss_cons (s_asg 6 G.nd (e_add G (e_idx G.K (e_var 4) e_int) (e_strOf T.b_str (e_var 8))))
    ss_nil) ss_nil)
    ss_nil))
    (ss_cons (s_ret (e_var 6))
    ss_nil)))))))))
theorem sc10 : FnScope ["_law_stream", "_law_capital", "_law_many", "_law_found", "_law_k"] ["_law_stream", "_law_capital", "_law_many"] (defScope (top 13)) := ⟨rfl, rfl, rfl, by decide +kernel, rfl, by decide +kernel, by decide +kernel⟩
theorem bd10 (T : Txt g w mg a) {f : Addr} {cdv : Value} {A : Around} {outer : List Env} {s : Shared} {H : Hp} {E : XK} (G : Gd (cxOf CX0 P w g.K mg base ["_law_stream", "_law_capital", "_law_many", "_law_found", "_law_k"] "_law_words" (defScope (top 13)) f cdv A outer s H E).nox g W0 CX0 cal k) :
    PSs (cxOf CX0 P w g.K mg base ["_law_stream", "_law_capital", "_law_many", "_law_found", "_law_k"] "_law_words" (defScope (top 13)) f cdv A outer s H E).nox (defBody (top 13)) (rS g W0 (exSs cal b10)) :=
    (ss_cons (s_asg 3 G.nd (e_lst (l_disp a_nil)))
    (ss_cons (s_for PassesOwn.never G.calm (i_rng T.b_range (e_var 2)) (g_one 4 G.nd) (ss_cons (s_expr (e_append G.K (e_var 3) (e_call G T.p9 T.m9 (a_cons (e_var 0) (a_cons (e_var 1) (a_cons (e_var 3) a_nil))))))
    ss_nil))
    (ss_cons (s_ret (e_var 3))
    ss_nil)))
theorem sc11 : FnScope ["_law_word_here", "_law_found", "_law_one"] ["_law_word_here"] (defScope (top 14)) := ⟨rfl, rfl, rfl, by decide +kernel, rfl, by decide +kernel, by decide +kernel⟩
theorem bd11 (T : Txt g w mg a) {f : Addr} {cdv : Value} {A : Around} {outer : List Env} {s : Shared} {H : Hp} {E : XK} (G : Gd (cxOf CX0 P w g.K mg base ["_law_word_here", "_law_found", "_law_one"] "_law_sorts" (defScope (top 14)) f cdv A outer s H E).nox g W0 CX0 cal k) :
    PSs (cxOf CX0 P w g.K mg base ["_law_word_here", "_law_found", "_law_one"] "_law_sorts" (defScope (top 14)) f cdv A outer s H E).nox (defBody (top 14)) (rS g W0 (exSs cal b11)) :=
    (ss_cons (s_asg 1 G.nd (e_dlit (d_cons e_str (d_cons e_str (d_cons e_str (d_cons e_str (d_cons e_str (d_cons e_str (d_cons e_str d_nil)))))))))
    (ss_cons (s_for PassesOwn.never G.calm (i_lst G.K (e_lst (l_disp (a_cons e_str (a_cons e_str (a_cons e_str (a_cons e_str a_nil))))))) (g_one 2 G.nd) (ss_cons (s_setI G e_str (e_var 1) (e_var 2))
    ss_nil))
    (ss_cons (s_ret (e_dget3 G (e_var 1) (e_var 0) e_str))
    ss_nil)))
theorem sc12 : FnScope ["_law_stream", "_law_far"] ["_law_stream"] (defScope (top 15)) := ⟨rfl, rfl, rfl, by decide +kernel, rfl, by decide +kernel, by decide +kernel⟩
theorem bd12 (T : Txt g w mg a) {f : Addr} {cdv : Value} {A : Around} {outer : List Env} {s : Shared} {H : Hp} {E : XK} (G : Gd (cxOf CX0 P w g.K mg base ["_law_stream", "_law_far"] "_law_number" (defScope (top 15)) f cdv A outer s H E).nox g W0 CX0 cal k) :
    PSs (cxOf CX0 P w g.K mg base ["_law_stream", "_law_far"] "_law_number" (defScope (top 15)) f cdv A outer s H E).nox (defBody (top 15)) (rS g W0 (exSs cal b12)) :=
    (ss_cons (s_asg 1 G.nd (e_add G (e_mul G (e_pow G e_int e_int) (e_call G T.p8 T.m8 (a_cons (e_var 0) (a_cons (e_pow G e_int e_int) a_nil)))) (e_call G T.p8 T.m8 (a_cons (e_var 0) (a_cons (e_pow G e_int e_int) a_nil)))))
    (ss_cons (s_ret (e_idxL G.K (l_disp (a_cons (e_neg (e_pow G e_int e_int)) (a_cons (e_sub G (e_pow G e_int e_int) e_int) (a_cons (e_neg e_int) (a_cons e_int (a_cons e_int (a_cons (e_var 1) (a_cons (e_sub G e_int (e_var 1)) a_nil)))))))) (e_call G T.p8 T.m8 (a_cons (e_var 0) (a_cons e_int a_nil)))))
    ss_nil))
theorem sc13 : FnScope ["_law_plain"] [] (defScope (top 16)) := ⟨rfl, rfl, rfl, by decide +kernel, rfl, by decide +kernel, by decide +kernel⟩
theorem bd13 (T : Txt g w mg a) {f : Addr} {cdv : Value} {A : Around} {outer : List Env} {s : Shared} {H : Hp} {E : XK} (G : Gd (cxOf CX0 P w g.K mg base ["_law_plain"] "_law_rowwords" (defScope (top 16)) f cdv A outer s H E).nox g W0 CX0 cal k) :
    PSs (cxOf CX0 P w g.K mg base ["_law_plain"] "_law_rowwords" (defScope (top 16)) f cdv A outer s H E).nox (defBody (top 16)) (rS g W0 (exSs cal b13)) :=
    (ss_cons (s_asg 0 G.nd (e_lst (l_disp (a_cons e_str (a_cons e_str (a_cons e_str (a_cons e_str (a_cons e_str (a_cons e_str (a_cons e_str (a_cons e_str (a_cons e_str (a_cons e_str (a_cons e_str (a_cons e_str a_nil)))))))))))))))
    (ss_cons (s_ret (e_lst (l_cat (e_var 0) (e_lst (l_disp (a_cons e_str (a_cons e_str (a_cons e_str (a_cons e_str (a_cons e_str (a_cons e_str (a_cons e_str (a_cons e_str (a_cons e_str (a_cons e_str (a_cons e_str a_nil))))))))))))))))
    ss_nil))
theorem sc14 : FnScope ["_law_stream", "_law_goals", "_law_kit", "_law_word_here", "_law_parts", "_law_sort", "_law_some", "_law_part"] ["_law_stream", "_law_goals", "_law_kit"] (defScope (top 17)) := ⟨rfl, rfl, rfl, by decide +kernel, rfl, by decide +kernel, by decide +kernel⟩
theorem bd14 (T : Txt g w mg a) {f : Addr} {cdv : Value} {A : Around} {outer : List Env} {s : Shared} {H : Hp} {E : XK} (G : Gd (cxOf CX0 P w g.K mg base ["_law_stream", "_law_goals", "_law_kit", "_law_word_here", "_law_parts", "_law_sort", "_law_some", "_law_part"] "_law_new_row" (defScope (top 17)) f cdv A outer s H E).nox g W0 CX0 cal k) :
    PSs (cxOf CX0 P w g.K mg base ["_law_stream", "_law_goals", "_law_kit", "_law_word_here", "_law_parts", "_law_sort", "_law_some", "_law_part"] "_law_new_row" (defScope (top 17)) f cdv A outer s H E).nox (defBody (top 17)) (rS g W0 (exSs cal b14)) :=
    (ss_cons (s_asg 3 G.nd (e_idx G.K (e_call0 G T.p13 T.m13) (e_call G T.p8 T.m8 (a_cons (e_var 0) (a_cons e_int a_nil)))))
    (ss_cons (s_ite (t_c (c_eq G) (e_call G T.p8 T.m8 (a_cons (e_var 0) (a_cons e_int a_nil))) e_int) (ss_cons (s_asg 3 G.nd (e_idxL G.K (l_disp (a_cons e_str (a_cons e_str a_nil))) (e_call G T.p8 T.m8 (a_cons (e_var 0) (a_cons e_int a_nil)))))
    ss_nil) ss_nil)
    (ss_cons (s_ite (t_w (w_and (t_eqL G (e_var 1) (l_disp a_nil)) (w_and1 (t_c (c_eq G) (e_call G T.p11 T.m11 (a_cons (e_var 3) a_nil)) e_str)))) (ss_cons (s_asg 3 G.nd e_str)
    ss_nil) ss_nil)
    (ss_cons (s_asg 4 G.nd (e_lst (l_disp a_nil)))
    (ss_cons (s_for PassesOwn.never G.calm (i_str (e_call G T.p11 T.m11 (a_cons (e_var 3) a_nil))) (g_one 5 G.nd) (ss_cons (s_asg 6 G.nd (e_dget3 G (e_dlit (d_cons (e_idx G.K (e_var 2) e_int) (d_cons (e_idx G.K (e_var 2) e_int) (d_cons (e_var 1) (d_cons (e_lst (l_disp (a_cons e_int (a_cons e_int (a_cons e_int (a_cons e_int (a_cons e_int (a_cons e_int (a_cons e_int (a_cons e_int a_nil)))))))))) d_nil))))) (e_var 5) (e_lst (l_disp (a_cons e_int a_nil)))))
    (ss_cons (s_asg 7 G.nd (e_idx G.K (e_var 6) (e_call G T.p8 T.m8 (a_cons (e_var 0) (a_cons (e_len G.K T.b_len (e_var 6)) a_nil)))))
    (ss_cons (s_expr (e_append G.K (e_var 4) (e_ifx (t_c (c_eq G) (e_var 5) e_str) (e_call G T.p12 T.m12 (a_cons (e_var 0) a_nil)) (e_var 7))))
    ss_nil))))
    (ss_cons (s_ret (e_add G (e_tup (a_cons (e_var 3) a_nil)) (e_tupOf G.K T.b_tuple (e_var 4))))
    ss_nil))))))
theorem sc15 : FnScope ["_law_stream", "_law_name", "_law_kit", "_law_most", "_law_takes", "_law_k"] ["_law_stream", "_law_name", "_law_kit", "_law_most"] (defScope (top 18)) := ⟨rfl, rfl, rfl, by decide +kernel, rfl, by decide +kernel, by decide +kernel⟩
theorem bd15 (T : Txt g w mg a) {f : Addr} {cdv : Value} {A : Around} {outer : List Env} {s : Shared} {H : Hp} {E : XK} (G : Gd (cxOf CX0 P w g.K mg base ["_law_stream", "_law_name", "_law_kit", "_law_most", "_law_takes", "_law_k"] "_law_new_sign" (defScope (top 18)) f cdv A outer s H E).nox g W0 CX0 cal k) :
    PSs (cxOf CX0 P w g.K mg base ["_law_stream", "_law_name", "_law_kit", "_law_most", "_law_takes", "_law_k"] "_law_new_sign" (defScope (top 18)) f cdv A outer s H E).nox (defBody (top 18)) (rS g W0 (exSs cal b15)) :=
    (ss_cons (s_asgLc 4 [("_law_k", 5)] G (i_rng T.b_range (e_call G T.p8 T.m8 (a_cons (e_var 0) (a_cons (e_add G (e_var 3) e_int) a_nil)))) (by rfl) (fun _ _ _ _ _ => g_one 5 G.nd) (fun _ _ _ _ _ G => (e_idxL G.K (l_cat (e_lst (l_disp (a_cons e_str a_nil))) (e_idx G.K (e_var 2) e_int)) (e_call G T.p8 T.m8 (a_cons (e_var 0) (a_cons (e_add G (e_len G.K T.b_len (e_idx G.K (e_var 2) e_int)) e_int) a_nil))))) (sw_true rfl rfl rfl (by decide +kernel)))
    (ss_cons (s_ret (e_tup (a_cons (e_var 1) (a_cons (e_tupOf G.K T.b_tuple (e_var 4)) (a_cons (e_idxL G.K (l_cat (e_lst (l_disp (a_cons e_str a_nil))) (e_idx G.K (e_var 2) e_int)) (e_call G T.p8 T.m8 (a_cons (e_var 0) (a_cons (e_add G (e_len G.K T.b_len (e_idx G.K (e_var 2) e_int)) e_int) a_nil)))) a_nil)))))
    ss_nil))
theorem sc16 : FnScope ["_law_stream", "_law_name", "_law_kit", "_law_most", "_law_many", "_law_share", "_law_entries", "_law_row", "_law_goals", "_law_rows", "_law_ones", "_law_catches", "_law_k", "_law_begin", "_law_end", "_law_height"] ["_law_stream", "_law_name", "_law_kit", "_law_most"] (defScope (top 19)) := ⟨rfl, rfl, rfl, by decide +kernel, rfl, by decide +kernel, by decide +kernel⟩
theorem bd16 (T : Txt g w mg a) {f : Addr} {cdv : Value} {A : Around} {outer : List Env} {s : Shared} {H : Hp} {E : XK} (G : Gd (cxOf CX0 P w g.K mg base ["_law_stream", "_law_name", "_law_kit", "_law_most", "_law_many", "_law_share", "_law_entries", "_law_row", "_law_goals", "_law_rows", "_law_ones", "_law_catches", "_law_k", "_law_begin", "_law_end", "_law_height"] "_law_new_way" (defScope (top 19)) f cdv A outer s H E).nox g W0 CX0 cal k) :
    PSs (cxOf CX0 P w g.K mg base ["_law_stream", "_law_name", "_law_kit", "_law_most", "_law_many", "_law_share", "_law_entries", "_law_row", "_law_goals", "_law_rows", "_law_ones", "_law_catches", "_law_k", "_law_begin", "_law_end", "_law_height"] "_law_new_way" (defScope (top 19)) f cdv A outer s H E).nox (defBody (top 19)) (rS g W0 (exSs cal b16)) :=
    (ss_cons (s_asg 4 G.nd (e_add G e_int (e_call G T.p8 T.m8 (a_cons (e_var 0) (a_cons (e_var 3) a_nil)))))
    (ss_cons (s_asg 5 G.nd (e_add G e_int (e_call G T.p8 T.m8 (a_cons (e_var 0) (a_cons e_int a_nil)))))
    (ss_cons (s_asg 6 G.nd (e_lst (l_disp a_nil)))
    (ss_cons (s_for PassesOwn.never G.calm (i_rng T.b_range (e_var 4)) (g_one 7 G.nd) (ss_cons (s_ite (t_c (c_eq G) (e_call G T.p8 T.m8 (a_cons (e_var 0) (a_cons (e_var 5) a_nil))) e_int) (ss_cons (s_expr (e_append G.K (e_var 6) (e_tup (a_cons (e_var 7) (a_cons (e_idxL G.K (l_disp (a_cons e_int (a_cons e_int (a_cons e_int (a_cons e_int (a_cons (e_call G T.p8 T.m8 (a_cons (e_var 0) (a_cons e_int a_nil))) a_nil)))))) (e_call G T.p8 T.m8 (a_cons (e_var 0) (a_cons e_int a_nil)))) a_nil)))))
    ss_nil) ss_nil)
    ss_nil))
    (ss_cons (s_asg 8 G.nd (e_lst (l_lc [("_law_row", 7), ("_law_height", 15)] G (i_lst G.K (e_var 6)) (by rfl) (fun _ _ _ _ _ => g_tup G.K G.calm (g_cons 7 G.nd (g_cons 15 G.nd g_nil))) (fun _ _ _ _ _ G => (e_var 7)))))
    (ss_cons (s_asgLc 9 [("_law_row", 7)] G (i_rng T.b_range (e_var 4)) (by rfl) (fun _ _ _ _ _ => g_one 7 G.nd) (fun _ _ _ _ _ G => (e_call G T.p14 T.m14 (a_cons (e_var 0) (a_cons (e_var 8) (a_cons (e_var 2) a_nil))))) (sw_true rfl rfl rfl (by decide +kernel)))
    (ss_cons (s_asgLcf 10 [("_law_row", 7), ("_law_height", 15)] G (i_lst G.K (e_var 6)) (by rfl) (fun _ _ _ _ _ => g_tup G.K G.calm (g_cons 7 G.nd (g_cons 15 G.nd g_nil))) (fun _ _ _ _ _ G => (t_c (c_eq G) (e_var 15) e_int)) (fun _ _ _ _ _ G => (e_var 7)) (sw_true rfl rfl rfl (by decide +kernel)))
    (ss_cons (s_asg 11 G.nd (e_lst (l_disp a_nil)))
    (ss_cons (s_for PassesOwn.never G.calm (i_rng T.b_range (e_mul G (e_call G T.p8 T.m8 (a_cons (e_var 0) (a_cons e_int a_nil))) (e_toInt T.b_int (e_neL G (e_var 10) (l_disp a_nil))))) (g_one 12 G.nd) (ss_cons (s_asg 13 G.nd (e_call G T.p8 T.m8 (a_cons (e_var 0) (a_cons (e_var 4) a_nil))))
    (ss_cons (s_asg 14 G.nd (e_add G (e_add G (e_var 13) e_int) (e_call G T.p8 T.m8 (a_cons (e_var 0) (a_cons (e_sub G (e_var 4) (e_var 13)) a_nil)))))
    (ss_cons (s_expr (e_append G.K (e_var 11) (e_tup (a_cons (e_var 13) (a_cons (e_var 14) (a_cons (e_idx G.K (e_var 10) (e_call G T.p8 T.m8 (a_cons (e_var 0) (a_cons (e_len G.K T.b_len (e_var 10)) a_nil)))) a_nil))))))
    ss_nil))))
    (ss_cons (s_ret (e_add G (e_call G T.p15 T.m15 (a_cons (e_var 0) (a_cons (e_var 1) (a_cons (e_var 2) (a_cons e_int a_nil))))) (e_tup (a_cons (e_tupOf G.K T.b_tuple (e_var 9)) (a_cons (e_tupOf G.K T.b_tuple (e_var 6)) (a_cons (e_tupOf G.K T.b_tuple (e_var 11)) a_nil))))))
    ss_nil))))))))))
theorem sc17 : FnScope ["_law_stream", "_law_names", "_law_kit", "_law_ways", "_law_most", "_law_above", "_law_faces", "_law_fields", "_law_field", "_law_found", "_law_name"] ["_law_stream", "_law_names", "_law_kit"] (defScope (top 20)) := ⟨rfl, rfl, rfl, by decide +kernel, rfl, by decide +kernel, by decide +kernel⟩
theorem bd17 (T : Txt g w mg a) {f : Addr} {cdv : Value} {A : Around} {outer : List Env} {s : Shared} {H : Hp} {E : XK} (G : Gd (cxOf CX0 P w g.K mg base ["_law_stream", "_law_names", "_law_kit", "_law_ways", "_law_most", "_law_above", "_law_faces", "_law_fields", "_law_field", "_law_found", "_law_name"] "_law_new_kind" (defScope (top 20)) f cdv A outer s H E).nox g W0 CX0 cal k) :
    PSs (cxOf CX0 P w g.K mg base ["_law_stream", "_law_names", "_law_kit", "_law_ways", "_law_most", "_law_above", "_law_faces", "_law_fields", "_law_field", "_law_found", "_law_name"] "_law_new_kind" (defScope (top 20)) f cdv A outer s H E).nox (defBody (top 20)) (rS g W0 (exSs cal b17)) :=
    (ss_cons (s_unp (e_idxL G.K (l_disp (a_cons (e_tup (a_cons e_int (a_cons e_int a_nil))) (a_cons (e_tup (a_cons e_int (a_cons e_int a_nil))) (a_cons (e_tup (a_cons e_int (a_cons e_int a_nil))) (a_cons (e_tup (a_cons e_int (a_cons e_int a_nil))) (a_cons (e_tup (a_cons e_int (a_cons e_int a_nil))) (a_cons (e_tup (a_cons e_int (a_cons e_int a_nil))) (a_cons (e_tup (a_cons e_int (a_cons e_int a_nil))) (a_cons (e_tup (a_cons e_int (a_cons e_int a_nil))) a_nil))))))))) (e_call G T.p8 T.m8 (a_cons (e_var 0) (a_cons e_int a_nil)))) (g_tup G.K G.calm (g_cons 3 G.nd (g_cons 4 G.nd g_nil))))
    (ss_cons (s_asg 5 G.nd (e_idxL G.K (l_disp (a_cons e_str (a_cons (e_idx G.K (e_idx G.K (e_var 2) e_int) e_int) a_nil))) (e_call G T.p8 T.m8 (a_cons (e_var 0) (a_cons e_int a_nil)))))
    (ss_cons (s_asg 6 G.nd (e_tupOf G.K T.b_tuple (e_lst (l_cut G.K (e_idx G.K (e_var 2) e_int) b_no (b_at (e_call G T.p8 T.m8 (a_cons (e_var 0) (a_cons e_int a_nil))))))))
    (ss_cons (s_asg 7 G.nd (e_lst (l_disp a_nil)))
    (ss_cons (s_for PassesOwn.never G.calm (i_lst G.K (e_call G T.p10 T.m10 (a_cons (e_var 0) (a_cons e_bl (a_cons (e_call G T.p8 T.m8 (a_cons (e_var 0) (a_cons e_int a_nil))) a_nil))))) (g_one 8 G.nd) (ss_cons (s_expr (e_append G.K (e_var 7) (e_tup (a_cons (e_var 8) (a_cons (e_idxL G.K (l_cat (e_lst (l_disp (a_cons e_str a_nil))) (e_idx G.K (e_var 2) e_int)) (e_call G T.p8 T.m8 (a_cons (e_var 0) (a_cons (e_add G (e_len G.K T.b_len (e_idx G.K (e_var 2) e_int)) e_int) a_nil)))) a_nil)))))
    ss_nil))
    (ss_cons (s_asg 9 G.nd (e_lst (l_disp a_nil)))
    (ss_cons (s_for PassesOwn.never G.calm (i_lst G.K (e_call G T.p10 T.m10 (a_cons (e_var 0) (a_cons e_bl (a_cons (e_call G T.p8 T.m8 (a_cons (e_var 0) (a_cons (e_add G (e_var 3) e_int) a_nil))) a_nil))))) (g_one 10 G.nd) (ss_cons (s_expr (e_append G.K (e_var 9) (e_call G T.p16 T.m16 (a_cons (e_var 0) (a_cons (e_var 10) (a_cons (e_var 2) (a_cons (e_var 4) a_nil)))))))
    ss_nil))
    (ss_cons (s_ret (e_tup (a_cons e_str (a_cons (e_idx G.K (e_var 1) e_int) (a_cons (e_var 5) (a_cons (e_var 6) (a_cons (e_tupOf G.K T.b_tuple (e_var 7)) (a_cons (e_tupOf G.K T.b_tuple (e_var 9)) a_nil))))))))
    ss_nil))))))))
theorem sc18 : FnScope ["_law_stream", "_law_names", "_law_kit", "_law_found", "_law_name"] ["_law_stream"] (defScope (top 21)) := ⟨rfl, rfl, rfl, by decide +kernel, rfl, by decide +kernel, by decide +kernel⟩
theorem bd18 (T : Txt g w mg a) {f : Addr} {cdv : Value} {A : Around} {outer : List Env} {s : Shared} {H : Hp} {E : XK} (G : Gd (cxOf CX0 P w g.K mg base ["_law_stream", "_law_names", "_law_kit", "_law_found", "_law_name"] "_law_new_unit" (defScope (top 21)) f cdv A outer s H E).nox g W0 CX0 cal k) :
    PSs (cxOf CX0 P w g.K mg base ["_law_stream", "_law_names", "_law_kit", "_law_found", "_law_name"] "_law_new_unit" (defScope (top 21)) f cdv A outer s H E).nox (defBody (top 21)) (rS g W0 (exSs cal b18)) :=
    (ss_cons (s_asg 1 G.nd (e_call G T.p10 T.m10 (a_cons (e_var 0) (a_cons e_bl (a_cons e_int a_nil)))))
    (ss_cons (s_asg 2 G.nd (e_lst (l_disp (a_cons (e_call G T.p10 T.m10 (a_cons (e_var 0) (a_cons e_bl (a_cons (e_add G e_int (e_call G T.p8 T.m8 (a_cons (e_var 0) (a_cons e_int a_nil)))) a_nil)))) (a_cons (e_call G T.p10 T.m10 (a_cons (e_var 0) (a_cons e_bl (a_cons (e_add G e_int (e_call G T.p8 T.m8 (a_cons (e_var 0) (a_cons e_int a_nil)))) a_nil)))) a_nil)))))
    (ss_cons (s_ite (t_c (c_gt G) (e_call G T.p8 T.m8 (a_cons (e_var 0) (a_cons e_int a_nil))) e_int) (ss_cons (s_ret (e_call G T.p17 T.m17 (a_cons (e_var 0) (a_cons (e_var 1) (a_cons (e_var 2) a_nil)))))
    ss_nil) ss_nil)
    (ss_cons (s_asg 3 G.nd (e_lst (l_disp a_nil)))
    (ss_cons (s_for PassesOwn.never G.calm (i_lst G.K (e_call G T.p10 T.m10 (a_cons (e_var 0) (a_cons e_bl (a_cons (e_add G e_int (e_call G T.p8 T.m8 (a_cons (e_var 0) (a_cons e_int a_nil)))) a_nil))))) (g_one 4 G.nd) (ss_cons (s_expr (e_append G.K (e_var 3) (e_call G T.p15 T.m15 (a_cons (e_var 0) (a_cons (e_var 4) (a_cons (e_var 2) (a_cons e_int a_nil)))))))
    ss_nil))
    (ss_cons (s_ret (e_tup (a_cons e_str (a_cons (e_idx G.K (e_var 1) e_int) (a_cons (e_tupOf G.K T.b_tuple (e_var 3)) a_nil)))))
    ss_nil))))))
theorem sc19 : FnScope ["_law_row", "_law_label", "_law_parts", "_law_part"] ["_law_row", "_law_label"] (defScope (top 22)) := ⟨rfl, rfl, rfl, by decide +kernel, rfl, by decide +kernel, by decide +kernel⟩
theorem bd19 (T : Txt g w mg a) {f : Addr} {cdv : Value} {A : Around} {outer : List Env} {s : Shared} {H : Hp} {E : XK} (G : Gd (cxOf CX0 P w g.K mg base ["_law_row", "_law_label", "_law_parts", "_law_part"] "_law_row_line" (defScope (top 22)) f cdv A outer s H E).nox g W0 CX0 cal k) :
    PSs (cxOf CX0 P w g.K mg base ["_law_row", "_law_label", "_law_parts", "_law_part"] "_law_row_line" (defScope (top 22)) f cdv A outer s H E).nox (defBody (top 22)) (rS g W0 (exSs cal b19)) :=
    (ss_cons (s_asgLc 2 [("_law_part", 3)] G (i_tup G.K (e_slice G.K (e_var 0) pt_int pt_none)) (by rfl) (fun _ _ _ _ _ => g_one 3 G.nd) (fun _ _ _ _ _ G => (e_strOf T.b_str (e_var 3))) (sw_true rfl rfl rfl (by decide +kernel)))
    (ss_cons (s_ite (t_c (c_eq G) (e_call G T.p11 T.m11 (a_cons (e_idx G.K (e_var 0) e_int) a_nil)) e_str) (ss_cons (s_asg 2 G.nd (e_lst (l_disp (a_cons (e_var 1) a_nil))))
    ss_nil) ss_nil)
    (ss_cons (s_ret (e_join G.K e_str (e_lst (l_cat (e_lst (l_disp (a_cons (e_idx G.K (e_var 0) e_int) a_nil))) (e_var 2)))))
    ss_nil)))
theorem sc20 : FnScope ["_law_one"] ["_law_one"] (defScope (top 23)) := ⟨rfl, rfl, rfl, by decide +kernel, rfl, by decide +kernel, by decide +kernel⟩
theorem bd20 (T : Txt g w mg a) {f : Addr} {cdv : Value} {A : Around} {outer : List Env} {s : Shared} {H : Hp} {E : XK} (G : Gd (cxOf CX0 P w g.K mg base ["_law_one"] "_law_sign_line" (defScope (top 23)) f cdv A outer s H E).nox g W0 CX0 cal k) :
    PSs (cxOf CX0 P w g.K mg base ["_law_one"] "_law_sign_line" (defScope (top 23)) f cdv A outer s H E).nox (defBody (top 23)) (rS g W0 (exSs cal b20)) :=
    (ss_cons (s_ret (e_join G.K e_str (e_lst (l_cat (e_lst (l_cat (e_lst (l_disp (a_cons e_str (a_cons (e_idx G.K (e_var 0) e_int) a_nil)))) (e_lst (l_of G.K T.b_list (e_idx G.K (e_var 0) e_int))))) (e_lst (l_disp (a_cons e_str (a_cons (e_idx G.K (e_var 0) e_int) a_nil))))))))
    ss_nil)
theorem sc21 : FnScope ["_law_unit", "_law_found"] ["_law_unit"] (defScope (top 24)) := ⟨rfl, rfl, rfl, by decide +kernel, rfl, by decide +kernel, by decide +kernel⟩
theorem bd21 (T : Txt g w mg a) {f : Addr} {cdv : Value} {A : Around} {outer : List Env} {s : Shared} {H : Hp} {E : XK} (G : Gd (cxOf CX0 P w g.K mg base ["_law_unit", "_law_found"] "_law_head_line" (defScope (top 24)) f cdv A outer s H E).nox g W0 CX0 cal k) :
    PSs (cxOf CX0 P w g.K mg base ["_law_unit", "_law_found"] "_law_head_line" (defScope (top 24)) f cdv A outer s H E).nox (defBody (top 24)) (rS g W0 (exSs cal b21)) :=
    (ss_cons (s_asg 1 G.nd (e_add G (e_add G (e_idx G.K (e_var 0) e_int) e_str) (e_idx G.K (e_var 0) e_int)))
    (ss_cons (s_ite (t_c (c_eq G) (e_idx G.K (e_var 0) e_int) e_str) (ss_cons (s_ret (e_var 1))
    ss_nil) ss_nil)
    (ss_cons (s_ite (t_c (c_ne G) (e_idx G.K (e_var 0) e_int) e_str) (ss_cons (s_asg 1 G.nd (e_add G (e_add G (e_var 1) e_str) (e_idx G.K (e_var 0) e_int)))
    ss_nil) ss_nil)
    (ss_cons (s_ite (t_c (c_ne G) (e_idx G.K (e_var 0) e_int) (e_tup a_nil)) (ss_cons (s_asg 1 G.nd (e_add G (e_add G (e_var 1) e_str) (e_join G.K e_str (e_idx G.K (e_var 0) e_int))))
    ss_nil) ss_nil)
    (ss_cons (s_ret (e_var 1))
    ss_nil)))))
theorem sc22 : FnScope ["_law_way", "_law_heights", "_law_spots", "_law_found", "_law_row", "_law_catch", "_law_spot"] ["_law_way"] (defScope (top 25)) := ⟨rfl, rfl, rfl, by decide +kernel, rfl, by decide +kernel, by decide +kernel⟩
theorem bd22 (T : Txt g w mg a) {f : Addr} {cdv : Value} {A : Around} {outer : List Env} {s : Shared} {H : Hp} {E : XK} (G : Gd (cxOf CX0 P w g.K mg base ["_law_way", "_law_heights", "_law_spots", "_law_found", "_law_row", "_law_catch", "_law_spot"] "_law_way_lines" (defScope (top 25)) f cdv A outer s H E).nox g W0 CX0 cal k) :
    PSs (cxOf CX0 P w g.K mg base ["_law_way", "_law_heights", "_law_spots", "_law_found", "_law_row", "_law_catch", "_law_spot"] "_law_way_lines" (defScope (top 25)) f cdv A outer s H E).nox (defBody (top 25)) (rS g W0 (exSs cal b22)) :=
    (ss_cons (s_asg 1 G.nd (e_dictOf G.calm G.K T.b_dict (e_idx G.K (e_var 0) e_int)))
    (ss_cons (s_asg 2 G.nd (e_lst (l_cat (e_lst (l_lc [("_law_catch", 5)] G (i_tup G.K (e_idx G.K (e_var 0) e_int)) (by rfl) (fun _ _ _ _ _ => g_one 5 G.nd) (fun _ _ _ _ _ G => (e_idx G.K (e_var 5) e_int)))) (e_lst (l_lc [("_law_catch", 5)] G (i_tup G.K (e_idx G.K (e_var 0) e_int)) (by rfl) (fun _ _ _ _ _ => g_one 5 G.nd) (fun _ _ _ _ _ G => (e_idx G.K (e_var 5) e_int)))))))
    (ss_cons (s_asg 3 G.nd (e_lst (l_disp (a_cons (e_call G T.p20 T.m20 (a_cons (e_var 0) a_nil)) a_nil))))
    (ss_cons (s_expr (e_extend G.K (e_var 3) (e_lst (l_lc [("_law_catch", 5)] G (i_tup G.K (e_idx G.K (e_var 0) e_int)) (by rfl) (fun _ _ _ _ _ => g_one 5 G.nd) (fun _ _ _ _ _ G => (e_join G.K e_str (e_lst (l_cat (e_lst (l_disp (a_cons e_str a_nil))) (e_lst (l_lc [("_law_spot", 6)] G (i_tup G.K (e_var 5)) (by rfl) (fun _ _ _ _ _ => g_one 6 G.nd) (fun _ _ _ _ _ G => (e_add G e_str (e_strOf T.b_str (e_var 6))))))))))))))
    (ss_cons (s_for PassesOwn.never G.calm (i_rng T.b_range (e_add G (e_len G.K T.b_len (e_idx G.K (e_var 0) e_int)) e_int)) (g_one 4 G.nd) (ss_cons (s_ite (t_c (c_in G) (e_var 4) (e_var 1)) (ss_cons (s_expr (e_append G.K (e_var 3) (e_add G (e_add G (e_add G e_str (e_strOf T.b_str (e_var 4))) e_str) (e_strOf T.b_str (e_dix G (e_var 1) (e_var 4))))))
    ss_nil) (ss_cons (s_ite (t_c (c_in G) (e_var 4) (e_var 2)) (ss_cons (s_expr (e_append G.K (e_var 3) (e_add G e_str (e_strOf T.b_str (e_var 4)))))
    ss_nil) ss_nil)
    ss_nil))
    (ss_cons (s_ite (t_c (c_lt G) (e_var 4) (e_len G.K T.b_len (e_idx G.K (e_var 0) e_int))) (ss_cons (s_expr (e_append G.K (e_var 3) (e_call G T.p19 T.m19 (a_cons (e_idx G.K (e_idx G.K (e_var 0) e_int) (e_var 4)) (a_cons (e_add G e_str (e_strOf T.b_str (e_idx G.K (e_idx G.K (e_idx G.K (e_var 0) e_int) (e_var 4)) (e_neg e_int)))) a_nil)))))
    ss_nil) ss_nil)
    ss_nil)))
    (ss_cons (s_ret (e_var 3))
    ss_nil))))))
theorem sc23 : FnScope ["_law_unit", "_law_found", "_law_way", "_law_one", "_law_name", "_law_told"] ["_law_unit"] (defScope (top 26)) := ⟨rfl, rfl, rfl, by decide +kernel, rfl, by decide +kernel, by decide +kernel⟩
theorem bd23 (T : Txt g w mg a) {f : Addr} {cdv : Value} {A : Around} {outer : List Env} {s : Shared} {H : Hp} {E : XK} (G : Gd (cxOf CX0 P w g.K mg base ["_law_unit", "_law_found", "_law_way", "_law_one", "_law_name", "_law_told"] "_law_as_written" (defScope (top 26)) f cdv A outer s H E).nox g W0 CX0 cal k) :
    PSs (cxOf CX0 P w g.K mg base ["_law_unit", "_law_found", "_law_way", "_law_one", "_law_name", "_law_told"] "_law_as_written" (defScope (top 26)) f cdv A outer s H E).nox (defBody (top 26)) (rS g W0 (exSs cal b23)) :=
    (ss_cons (s_asg 1 G.nd (e_lst (l_disp (a_cons (e_call G T.p21 T.m21 (a_cons (e_var 0) a_nil)) a_nil))))
    (ss_cons (s_ite (t_c (c_eq G) (e_idx G.K (e_var 0) e_int) e_str) (ss_cons (s_expr (e_extend G.K (e_var 1) (e_lst (l_lc [("_law_one", 3)] G (i_tup G.K (e_idx G.K (e_var 0) e_int)) (by rfl) (fun _ _ _ _ _ => g_one 3 G.nd) (fun _ _ _ _ _ G => (e_call G T.p20 T.m20 (a_cons (e_var 3) a_nil)))))))
    (ss_cons (s_ret (e_join G.K e_str (e_var 1)))
    ss_nil)) ss_nil)
    (ss_cons (s_expr (e_extend G.K (e_var 1) (e_lst (l_lc [("_law_name", 4), ("_law_told", 5)] G (i_tup G.K (e_idx G.K (e_var 0) e_int)) (by rfl) (fun _ _ _ _ _ => g_tup G.K G.calm (g_cons 4 G.nd (g_cons 5 G.nd g_nil))) (fun _ _ _ _ _ G => (e_add G (e_add G (e_add G e_str (e_var 4)) e_str) (e_var 5)))))))
    (ss_cons (s_for PassesOwn.never G.calm (i_tup G.K (e_idx G.K (e_var 0) e_int)) (g_one 2 G.nd) (ss_cons (s_expr (e_extend G.K (e_var 1) (e_call G T.p22 T.m22 (a_cons (e_var 2) a_nil))))
    ss_nil))
    (ss_cons (s_ret (e_join G.K e_str (e_var 1)))
    ss_nil)))))
theorem sc24 : FnScope ["_law_script", "_law_stream", "_law_turn", "_law_unit", "_law_found"] ["_law_script"] (defScope (top 27)) := ⟨rfl, rfl, rfl, by decide +kernel, rfl, by decide +kernel, by decide +kernel⟩
theorem bd24 (T : Txt g w mg a) {f : Addr} {cdv : Value} {A : Around} {outer : List Env} {s : Shared} {H : Hp} {E : XK} (G : Gd (cxOf CX0 P w g.K mg base ["_law_script", "_law_stream", "_law_turn", "_law_unit", "_law_found"] "law" (defScope (top 27)) f cdv A outer s H E).nox g W0 CX0 cal k) :
    PSs (cxOf CX0 P w g.K mg base ["_law_script", "_law_stream", "_law_turn", "_law_unit", "_law_found"] "law" (defScope (top 27)) f cdv A outer s H E).nox (defBody (top 27)) (rS g W0 (exSs cal b24)) :=
    (ss_cons (s_asg 1 G.nd (e_lst (l_disp (a_cons (e_lst (l_of G.K T.b_list (e_var 0))) (a_cons e_int (a_cons e_int (a_cons e_int a_nil)))))))
    (ss_cons (s_for PassesOwn.never G.calm (i_rng T.b_range e_int) (g_one 2 G.nd) (ss_cons (s_asg 3 G.nd (e_call G T.p18 T.m18 (a_cons (e_var 1) a_nil)))
    (ss_cons (s_asg 4 G.nd (e_call G T.p1 T.m1 (a_cons (e_var 3) a_nil)))
    (ss_cons (s_ite (t_w (w_or (t_not (t_val (e_isi .str boot_str G.K T.b_isinstance T.b_str (e_var 4)))) (w_or1 (t_c (c_ne G) (e_var 4) (e_call G T.p23 T.m23 (a_cons (e_var 3) a_nil)))))) (ss_cons (s_ret e_bl)
    ss_nil) ss_nil)
    ss_nil))))
    (ss_cons (s_ret e_bl)
    ss_nil)))
end
end Ir.K04
set_option Elab.async false
set_option linter.all false
set_option maxRecDepth 100000
set_option maxHeartbeats 1000000
namespace Ir.K04
open PySem
theorem c0 (k : Nat) : calK fs (k + 1) 0 = callF (calK fs k) ⟨1, 1, b0⟩ := rfl
theorem c4 (k : Nat) : calK fs (k + 1) 4 = callF (calK fs k) ⟨1, 4, b4⟩ := rfl
theorem c6 (k : Nat) : calK fs (k + 1) 6 = callF (calK fs k) ⟨1, 1, b6⟩ := rfl
theorem c7 (k : Nat) : calK fs (k + 1) 7 = callF (calK fs k) ⟨1, 2, b7⟩ := rfl
def numS (r : Int) : Str := Str.ofString (toString r)
def lbl (r : Int) : Str := "r" ++ numS r
theorem fstep_str (a z : Str) (h : a.length + z.length ≤ 16777216) : fstep a (.p (.str z)) = some (a ++ z) := by
  have h1 : z.length ≤ sizeLine := by rw [sizeLine_eq]; omega
  have h2 : (a ++ z).length ≤ sizeLine := by rw [str_len, sizeLine_eq]; omega
  unfold fstep fpart
  simp only [h1, if_true, Option.bind_some, h2]
theorem fstep_int (a : Str) (i : Int) (h0 : i.natAbs.log2 < 1920) (h : a.length + (numS i).length ≤ 16777216) : fstep a (.p (.int i)) = some (a ++ numS i) := by
  have h2 : (a ++ numS i).length ≤ sizeLine := by rw [str_len, sizeLine_eq]; omega
  unfold numS at h2 ⊢
  unfold fstep fpart
  simp only [h0, if_true, Option.bind_some, h2]
/-- numbers that are not long -/
structure Sm (i : Int) : Prop where
  lg : i.natAbs.log2 < 1920
  ln : (numS i).length ≤ 1000
theorem len_r : ("r" : Str).length = 1 := by decide +kernel
theorem len_b : (" " : Str).length = 1 := by decide +kernel
theorem lbl_len {r : Int} (h : Sm r) : (lbl r).length ≤ 1001 := by
  have := h.ln
  unfold lbl; rw [str_len, len_r]; omega
theorem label_ok (k : Nat) (r : Int) (h : Sm r) (S : Sto) : calK fs (k + 1) 6 [.p (.int r)] S = .val (.p (.str (lbl r))) S := by
  rw [c6, callA S rfl]
  unfold b6
  have e1 : fstep Str.empty (.p (.str "r")) = some ("r" : Str) := by rw [fstep_str _ _ (by decide +kernel), str_nil]
  have e2 : fstep "r" (.p (.int r)) = some ("r" ++ numS r) := fstep_int _ _ h.lg (by have := h.ln; rw [len_r]; omega)
  simp -dsimp only [Ir.then_val, Ir.optA_some, Ir.boolA_t, Ir.boolA_f, Ir.seqA_next, Ir.seqA_ret, Ir.wp_val_, Ir.v_var, Ir.v_cst, Ir.v_bin, Ir.v_cmp, Ir.v_chain, Ir.v_and, Ir.v_or, Ir.v_not, Ir.v_ifx, Ir.v_neg, Ir.v_call, Ir.v_tup, Ir.v_lst, Ir.v_idx, Ir.v_idxL, Ir.v_slice, Ir.v_strOf, Ir.v_join, Ir.v_extend, Ir.v_append, Ir.v_len, Ir.v_isi, Ir.v_toInt, Ir.v_all, Ir.v_tupOf, Ir.v_dictOf, Ir.v_dlit, Ir.v_dget3, Ir.v_eqL, Ir.v_op1, Ir.v_op2, Ir.v_fstr, Ir.f_nil, Ir.f_cons, Ir.a_nil', Ir.a_cons', Ir.a_star', Ir.l_disp', Ir.l_of', Ir.l_cat', Ir.l_cut', Ir.b_no', Ir.b_at', Ir.i_tup', Ir.i_lst', Ir.i_str', Ir.i_rng', Ir.ss_nil', Ir.ss_asg, Ir.ss_expr, Ir.ss_ret, Ir.ss_unp, Ir.ss_ite, Ir.ss_setI, Ir.ss_for, Ir.finA_p, Ir.strD_str, Ir.ofD_tup, Ir.dicAt_eq, Ir.lstAt_eq, Ir.dget3_str, Ir.dixD_int, Ir.srcLst_eq, Ir.ofD_ref, Ir.tupD_ref, Ir.lenD_ref, Ir.lenD_tup, Ir.getI_ref, Ir.lsA_lst, Ir.ifA_t, Ir.appD_eq, Ir.extD_eq, Ir.catD_eq, Ir.rb_p, decide_true, decide_false, Bool.true_and, Bool.and_true, Ir.atA_no, Ir.atA_go, Ir.contA_next, Ir.contA_ret, Ir.size_fix, Ir.size_dyn, Ir.at_fix, Ir.at_dyn, Ir.turn_one, List.length_map, List.getElem?_nil, Ir.tgt, Ir.setAll, Bool.false_eq_true, List.set_nil, List.getElem?_cons_zero, List.getElem?_cons_succ, List.set_cons_zero, List.set_cons_succ, List.map_cons, List.map_nil, List.length_cons, List.length_nil, List.replicate_succ, List.replicate_zero, List.cons_append, List.nil_append, Option.map_some, Option.bind_some, Ir.app_get, Ir.app_get0, Ir.app_set, Ir.app_set0, Ir.app_take, Ir.app_one, Ir.len_app, Nat.reduceAdd, Nat.reduceSub, Nat.reduceLeDiff, if_true, if_false, e1, e2, List.take_length, lbl]
/-- a part of a row, as text -/
def ptxt : PyData → Str
  | .int i => numS i
  | .str z => z
  | _ => Str.empty
inductive PartOk : PyData → Prop
  | int (i : Int) : Sm i → PartOk (.int i)
  | str (z : Str) : z.length ≤ 50 → PartOk (.str z)
inductive RowOk : PyData → Prop
  | plain (w : Str) (ps : List PyData) : w ≠ "jump" → w ≠ "nought" → w.length ≤ 50 → (∀ p ∈ ps, PartOk p) → ps.length ≤ 2 → RowOk (.tuple (.str w :: ps))
  | lead (w : Str) (r : Int) : w = "jump" ∨ w = "nought" → Sm r → RowOk (.tuple [.str w, .int r])
theorem strOf_ok {p : PyData} (h : PartOk p) : strOfD (.p p) = some (.p (.str (ptxt p))) := by
  cases h with
  | int i hi => unfold strOfD; simp only [hi.lg, if_true]; rfl
  | str z hz => rfl
theorem eqv_str (x y : Str) : PyData.eqv (.str x) (.str y) = decide (x = y) := by
  by_cases h : x = y <;> simp [PyData.eqv, h]
theorem leads_ok (k : Nat) (w : Str) (ps : List PyData) (S : Sto) : calK fs (k + 1) 0 [.p (.tuple (.str w :: ps))] S = .val (.p (.bool (decide (w = "jump") || decide (w = "nought")))) S := by
  rw [c0, callA S rfl]
  unfold b0
  have e1 : getI S (.p (.tuple (.str w :: ps))) (.p (.int 0)) = some (.p (.str w)) := by
    unfold getI
    show Option.map _ (L2.atI (.str w :: ps) 0) = _
    have : L2.atI (PyData.str w :: ps) 0 = some (.str w) := by simp [L2.atI, L2.ixN]
    rw [this]; rfl
  have e2 : cop S .in_ (.p (.str w)) (.p (.tuple [.str "jump", .str "nought"])) = some (decide (w = "jump") || decide (w = "nought")) := by
    show (if (flatP (.str w) && [PyData.str "jump", .str "nought"].all flatP) = true then some (([PyData.str "jump", .str "nought"]).any fun y => PyData.eqv y (.str w)) else none) = _
    rw [if_pos (by rfl)]
    simp only [List.any_cons, List.any_nil, Bool.or_false, eqv_str, eq_comm]
  have e3 : (2 : Nat) ≤ sizeLine := by rw [sizeLine_eq]; omega
  simp -dsimp only [Ir.then_val, Ir.optA_some, Ir.boolA_t, Ir.boolA_f, Ir.seqA_next, Ir.seqA_ret, Ir.wp_val_, Ir.v_var, Ir.v_cst, Ir.v_bin, Ir.v_cmp, Ir.v_chain, Ir.v_and, Ir.v_or, Ir.v_not, Ir.v_ifx, Ir.v_neg, Ir.v_call, Ir.v_tup, Ir.v_lst, Ir.v_idx, Ir.v_idxL, Ir.v_slice, Ir.v_strOf, Ir.v_join, Ir.v_extend, Ir.v_append, Ir.v_len, Ir.v_isi, Ir.v_toInt, Ir.v_all, Ir.v_tupOf, Ir.v_dictOf, Ir.v_dlit, Ir.v_dget3, Ir.v_eqL, Ir.v_op1, Ir.v_op2, Ir.v_fstr, Ir.f_nil, Ir.f_cons, Ir.a_nil', Ir.a_cons', Ir.a_star', Ir.l_disp', Ir.l_of', Ir.l_cat', Ir.l_cut', Ir.b_no', Ir.b_at', Ir.i_tup', Ir.i_lst', Ir.i_str', Ir.i_rng', Ir.ss_nil', Ir.ss_asg, Ir.ss_expr, Ir.ss_ret, Ir.ss_unp, Ir.ss_ite, Ir.ss_setI, Ir.ss_for, Ir.finA_p, Ir.strD_str, Ir.ofD_tup, Ir.dicAt_eq, Ir.lstAt_eq, Ir.dget3_str, Ir.dixD_int, Ir.srcLst_eq, Ir.ofD_ref, Ir.tupD_ref, Ir.lenD_ref, Ir.lenD_tup, Ir.getI_ref, Ir.lsA_lst, Ir.ifA_t, Ir.appD_eq, Ir.extD_eq, Ir.catD_eq, Ir.rb_p, decide_true, decide_false, Bool.true_and, Bool.and_true, Ir.atA_no, Ir.atA_go, Ir.contA_next, Ir.contA_ret, Ir.size_fix, Ir.size_dyn, Ir.at_fix, Ir.at_dyn, Ir.turn_one, List.length_map, List.getElem?_nil, Ir.tgt, Ir.setAll, Bool.false_eq_true, List.set_nil, List.getElem?_cons_zero, List.getElem?_cons_succ, List.set_cons_zero, List.set_cons_succ, List.map_cons, List.map_nil, List.length_cons, List.length_nil, List.replicate_succ, List.replicate_zero, List.cons_append, List.nil_append, Option.map_some, Option.bind_some, Ir.app_get, Ir.app_get0, Ir.app_set, Ir.app_set0, Ir.app_take, Ir.app_one, Ir.len_app, Nat.reduceAdd, Nat.reduceSub, Nat.reduceLeDiff, if_true, if_false, e1, e2, e3, plainOf, List.take_length]
theorem get0 (S : Sto) (d : PyData) (ps : List PyData) : getI S (.p (.tuple (d :: ps))) (.p (.int 0)) = some (.p d) := by
  show Option.map _ (L2.atI (d :: ps) 0) = _
  have : L2.atI (d :: ps) 0 = some d := by simp [L2.atI, L2.ixN]
  rw [this]; rfl
theorem get1 (S : Sto) (d e : PyData) (ps : List PyData) : getI S (.p (.tuple (d :: e :: ps))) (.p (.int 1)) = some (.p e) := by
  show Option.map _ (L2.atI (d :: e :: ps) 1) = _
  have : L2.atI (d :: e :: ps) 1 = some e := by
    have h : (1 : Int) < (ps.length : Int) + 1 + 1 := by omega
    simp [L2.atI, L2.ixN, h]
  rw [this]; rfl
def rowS : PyData → Str
  | .tuple (.str w :: ps) => if w = "jump" ∨ w = "nought" then w ++ " " ++ (match ps with | [.int r] => lbl r | _ => Str.empty) else Txt.join " " (w :: ps.map ptxt)
  | _ => Str.empty
theorem sum_le (n : Nat) : ∀ l : List Str, (∀ z ∈ l, z.length ≤ n) → (l.map (·.length)).sum ≤ l.length * n
  | [], _ => by simp
  | x :: l, h => by
    have h1 := h x (List.mem_cons_self ..)
    have h2 := sum_le n l fun z hz => h z (List.mem_cons_of_mem _ hz)
    simp only [List.map_cons, List.sum_cons, List.length_cons, Nat.succ_mul]
    omega
theorem ptxt_len {p : PyData} (h : PartOk p) : (ptxt p).length ≤ 1000 := by
  cases h with
  | int i hi => exact hi.ln
  | str z hz => show z.length ≤ 1000; omega
theorem row_ok (k : Nat) {d : PyData} (h : RowOk d) (S : Sto) : calK fs (k + 2) 7 [.p d] S = .val (.p (.str (rowS d))) S := by
  rw [c7, callA S rfl]
  unfold b7
  cases h with
  | lead w r hw hr =>
    have e0 : (decide (w = "jump") || decide (w = "nought")) = true := by rcases hw with h | h <;> simp [h]
    have hl : w.length ≤ 6 := by rcases hw with rfl | rfl <;> decide +kernel
    have e1 : fstep Str.empty (.p (.str w)) = some w := by rw [fstep_str _ _ (by show 0 + _ ≤ _; omega), str_nil]
    have e2 : fstep w (.p (.str " ")) = some (w ++ " ") := fstep_str _ _ (by rw [len_b]; omega)
    have e3 : fstep (w ++ " ") (.p (.str (lbl r))) = some (w ++ " " ++ lbl r) := fstep_str _ _ (by have := lbl_len hr; rw [str_len, len_b]; omega)
    simp -dsimp only [Ir.then_val, Ir.optA_some, Ir.boolA_t, Ir.boolA_f, Ir.seqA_next, Ir.seqA_ret, Ir.wp_val_, Ir.v_var, Ir.v_cst, Ir.v_bin, Ir.v_cmp, Ir.v_chain, Ir.v_and, Ir.v_or, Ir.v_not, Ir.v_ifx, Ir.v_neg, Ir.v_call, Ir.v_tup, Ir.v_lst, Ir.v_idx, Ir.v_idxL, Ir.v_slice, Ir.v_strOf, Ir.v_join, Ir.v_extend, Ir.v_append, Ir.v_len, Ir.v_isi, Ir.v_toInt, Ir.v_all, Ir.v_tupOf, Ir.v_dictOf, Ir.v_dlit, Ir.v_dget3, Ir.v_eqL, Ir.v_op1, Ir.v_op2, Ir.v_fstr, Ir.f_nil, Ir.f_cons, Ir.a_nil', Ir.a_cons', Ir.a_star', Ir.l_disp', Ir.l_of', Ir.l_cat', Ir.l_cut', Ir.b_no', Ir.b_at', Ir.i_tup', Ir.i_lst', Ir.i_str', Ir.i_rng', Ir.ss_nil', Ir.ss_asg, Ir.ss_expr, Ir.ss_ret, Ir.ss_unp, Ir.ss_ite, Ir.ss_setI, Ir.ss_for, Ir.finA_p, Ir.strD_str, Ir.ofD_tup, Ir.dicAt_eq, Ir.lstAt_eq, Ir.dget3_str, Ir.dixD_int, Ir.srcLst_eq, Ir.ofD_ref, Ir.tupD_ref, Ir.lenD_ref, Ir.lenD_tup, Ir.getI_ref, Ir.lsA_lst, Ir.ifA_t, Ir.appD_eq, Ir.extD_eq, Ir.catD_eq, Ir.rb_p, decide_true, decide_false, Bool.true_and, Bool.and_true, Ir.atA_no, Ir.atA_go, Ir.contA_next, Ir.contA_ret, Ir.size_fix, Ir.size_dyn, Ir.at_fix, Ir.at_dyn, Ir.turn_one, List.length_map, List.getElem?_nil, Ir.tgt, Ir.setAll, Bool.false_eq_true, List.set_nil, List.getElem?_cons_zero, List.getElem?_cons_succ, List.set_cons_zero, List.set_cons_succ, List.map_cons, List.map_nil, List.length_cons, List.length_nil, List.replicate_succ, List.replicate_zero, List.cons_append, List.nil_append, Option.map_some, Option.bind_some, Ir.app_get, Ir.app_get0, Ir.app_set, Ir.app_set0, Ir.app_take, Ir.app_one, Ir.len_app, Nat.reduceAdd, Nat.reduceSub, Nat.reduceLeDiff, if_true, if_false, leads_ok, e0, get0, get1, e1, e2, e3, label_ok k r hr, List.take_length]
    unfold rowS
    simp only [hw, if_true]
  | plain w ps h1 h2 h3 h4 h5 =>
    have e0 : (decide (w = "jump") || decide (w = "nought")) = false := by simp [h1, h2]
    have ha : ∀ p ∈ PyData.str w :: ps, PartOk p := fun p hp => by
      rcases List.mem_cons.mp hp with rfl | hp
      · exact .str w h3
      · exact h4 p hp
    have e4 : ((PyData.str w :: ps).map D.p).map (fun d => match d with | .p q => D.p (.str (ptxt q)) | x => x) = ((PyData.str w :: ps).map ptxt).map fun z => D.p (.str z) := by
      simp [List.map_map]
    have e1 : evL (calK fs (k + 1)) (.lc (.tup (.var 0)) [1] true (.strOf (.var 1))) [some (.p (.tuple (.str w :: ps))), none] S = .val (((PyData.str w :: ps).map ptxt).map fun z => D.p (.str z)) S := by
      rw [← e4]
      refine l_lc_fix (S1 := S) (by simp -dsimp only [Ir.then_val, Ir.optA_some, Ir.boolA_t, Ir.boolA_f, Ir.seqA_next, Ir.seqA_ret, Ir.wp_val_, Ir.v_var, Ir.v_cst, Ir.v_bin, Ir.v_cmp, Ir.v_chain, Ir.v_and, Ir.v_or, Ir.v_not, Ir.v_ifx, Ir.v_neg, Ir.v_call, Ir.v_tup, Ir.v_lst, Ir.v_idx, Ir.v_idxL, Ir.v_slice, Ir.v_strOf, Ir.v_join, Ir.v_extend, Ir.v_append, Ir.v_len, Ir.v_isi, Ir.v_toInt, Ir.v_all, Ir.v_tupOf, Ir.v_dictOf, Ir.v_dlit, Ir.v_dget3, Ir.v_eqL, Ir.v_op1, Ir.v_op2, Ir.v_fstr, Ir.f_nil, Ir.f_cons, Ir.a_nil', Ir.a_cons', Ir.a_star', Ir.l_disp', Ir.l_of', Ir.l_cat', Ir.l_cut', Ir.b_no', Ir.b_at', Ir.i_tup', Ir.i_lst', Ir.i_str', Ir.i_rng', Ir.ss_nil', Ir.ss_asg, Ir.ss_expr, Ir.ss_ret, Ir.ss_unp, Ir.ss_ite, Ir.ss_setI, Ir.ss_for, Ir.finA_p, Ir.strD_str, Ir.ofD_tup, Ir.dicAt_eq, Ir.lstAt_eq, Ir.dget3_str, Ir.dixD_int, Ir.srcLst_eq, Ir.ofD_ref, Ir.tupD_ref, Ir.lenD_ref, Ir.lenD_tup, Ir.getI_ref, Ir.lsA_lst, Ir.ifA_t, Ir.appD_eq, Ir.extD_eq, Ir.catD_eq, Ir.rb_p, decide_true, decide_false, Bool.true_and, Bool.and_true, Ir.atA_no, Ir.atA_go, Ir.contA_next, Ir.contA_ret, Ir.size_fix, Ir.size_dyn, Ir.at_fix, Ir.at_dyn, Ir.turn_one, List.length_map, List.getElem?_nil, Ir.tgt, Ir.setAll, Bool.false_eq_true, List.set_nil, List.getElem?_cons_zero, List.getElem?_cons_succ, List.set_cons_zero, List.set_cons_succ, List.map_cons, List.map_nil, List.length_cons, List.length_nil, List.replicate_succ, List.replicate_zero, List.cons_append, List.nil_append, Option.map_some, Option.bind_some, Ir.app_get, Ir.app_get0, Ir.app_set, Ir.app_set0, Ir.app_take, Ir.app_one, Ir.len_app, Nat.reduceAdd, Nat.reduceSub, Nat.reduceLeDiff, if_true, if_false, srcTup]) (by simp; omega) fun d hd => ?_
      obtain ⟨p, hp, rfl⟩ := List.mem_map.mp hd
      refine ⟨_, rfl, ?_⟩
      simp -dsimp only [Ir.then_val, Ir.optA_some, Ir.boolA_t, Ir.boolA_f, Ir.seqA_next, Ir.seqA_ret, Ir.wp_val_, Ir.v_var, Ir.v_cst, Ir.v_bin, Ir.v_cmp, Ir.v_chain, Ir.v_and, Ir.v_or, Ir.v_not, Ir.v_ifx, Ir.v_neg, Ir.v_call, Ir.v_tup, Ir.v_lst, Ir.v_idx, Ir.v_idxL, Ir.v_slice, Ir.v_strOf, Ir.v_join, Ir.v_extend, Ir.v_append, Ir.v_len, Ir.v_isi, Ir.v_toInt, Ir.v_all, Ir.v_tupOf, Ir.v_dictOf, Ir.v_dlit, Ir.v_dget3, Ir.v_eqL, Ir.v_op1, Ir.v_op2, Ir.v_fstr, Ir.f_nil, Ir.f_cons, Ir.a_nil', Ir.a_cons', Ir.a_star', Ir.l_disp', Ir.l_of', Ir.l_cat', Ir.l_cut', Ir.b_no', Ir.b_at', Ir.i_tup', Ir.i_lst', Ir.i_str', Ir.i_rng', Ir.ss_nil', Ir.ss_asg, Ir.ss_expr, Ir.ss_ret, Ir.ss_unp, Ir.ss_ite, Ir.ss_setI, Ir.ss_for, Ir.finA_p, Ir.strD_str, Ir.ofD_tup, Ir.dicAt_eq, Ir.lstAt_eq, Ir.dget3_str, Ir.dixD_int, Ir.srcLst_eq, Ir.ofD_ref, Ir.tupD_ref, Ir.lenD_ref, Ir.lenD_tup, Ir.getI_ref, Ir.lsA_lst, Ir.ifA_t, Ir.appD_eq, Ir.extD_eq, Ir.catD_eq, Ir.rb_p, decide_true, decide_false, Bool.true_and, Bool.and_true, Ir.atA_no, Ir.atA_go, Ir.contA_next, Ir.contA_ret, Ir.size_fix, Ir.size_dyn, Ir.at_fix, Ir.at_dyn, Ir.turn_one, List.length_map, List.getElem?_nil, Ir.tgt, Ir.setAll, Bool.false_eq_true, List.set_nil, List.getElem?_cons_zero, List.getElem?_cons_succ, List.set_cons_zero, List.set_cons_succ, List.map_cons, List.map_nil, List.length_cons, List.length_nil, List.replicate_succ, List.replicate_zero, List.cons_append, List.nil_append, Option.map_some, Option.bind_some, Ir.app_get, Ir.app_get0, Ir.app_set, Ir.app_set0, Ir.app_take, Ir.app_one, Ir.len_app, Nat.reduceAdd, Nat.reduceSub, Nat.reduceLeDiff, if_true, if_false, wipeD, strOf_ok (ha p hp)]
    have e5 : ((((PyData.str w :: ps).map ptxt).map fun z => D.p (.str z)).all (rb S.length)) = true := by
      rw [List.all_eq_true]
      intro x hx
      obtain ⟨z, _, rfl⟩ := List.mem_map.mp hx
      rfl
    have e6 : joinD (S ++ [.lst (((PyData.str w :: ps).map ptxt).map fun z => D.p (.str z))]) (.p (.str " ")) (.ref S.length) = some (.p (.str (Txt.join " " ((PyData.str w :: ps).map ptxt)))) := by
      refine joinD_lst _ _ _ _ (app_get0 ..) ?_
      have := sum_le 1000 ((PyData.str w :: ps).map ptxt) fun z hz => by
        obtain ⟨p, hp, rfl⟩ := List.mem_map.mp hz
        exact ptxt_len (ha p hp)
      rw [len_b]
      simp only [List.length_map, List.length_cons] at this ⊢
      omega
    have e7 : rowS (.tuple (.str w :: ps)) = Txt.join " " ((PyData.str w :: ps).map ptxt) := by
      show (if w = "jump" ∨ w = "nought" then _ else _) = _
      exact if_neg fun h => h.elim h1 h2
    rw [e7]
    generalize (PyData.str w :: ps).map ptxt = zs at e1 e5 e6 ⊢
    simp -dsimp only [Ir.then_val, Ir.optA_some, Ir.boolA_t, Ir.boolA_f, Ir.seqA_next, Ir.seqA_ret, Ir.wp_val_, Ir.v_var, Ir.v_cst, Ir.v_bin, Ir.v_cmp, Ir.v_chain, Ir.v_and, Ir.v_or, Ir.v_not, Ir.v_ifx, Ir.v_neg, Ir.v_call, Ir.v_tup, Ir.v_lst, Ir.v_idx, Ir.v_idxL, Ir.v_slice, Ir.v_strOf, Ir.v_join, Ir.v_extend, Ir.v_append, Ir.v_len, Ir.v_isi, Ir.v_toInt, Ir.v_all, Ir.v_tupOf, Ir.v_dictOf, Ir.v_dlit, Ir.v_dget3, Ir.v_eqL, Ir.v_op1, Ir.v_op2, Ir.v_fstr, Ir.f_nil, Ir.f_cons, Ir.a_nil', Ir.a_cons', Ir.a_star', Ir.l_disp', Ir.l_of', Ir.l_cat', Ir.l_cut', Ir.b_no', Ir.b_at', Ir.i_tup', Ir.i_lst', Ir.i_str', Ir.i_rng', Ir.ss_nil', Ir.ss_asg, Ir.ss_expr, Ir.ss_ret, Ir.ss_unp, Ir.ss_ite, Ir.ss_setI, Ir.ss_for, Ir.finA_p, Ir.strD_str, Ir.ofD_tup, Ir.dicAt_eq, Ir.lstAt_eq, Ir.dget3_str, Ir.dixD_int, Ir.srcLst_eq, Ir.ofD_ref, Ir.tupD_ref, Ir.lenD_ref, Ir.lenD_tup, Ir.getI_ref, Ir.lsA_lst, Ir.ifA_t, Ir.appD_eq, Ir.extD_eq, Ir.catD_eq, Ir.rb_p, decide_true, decide_false, Bool.true_and, Bool.and_true, Ir.atA_no, Ir.atA_go, Ir.contA_next, Ir.contA_ret, Ir.size_fix, Ir.size_dyn, Ir.at_fix, Ir.at_dyn, Ir.turn_one, List.length_map, List.getElem?_nil, Ir.tgt, Ir.setAll, Bool.false_eq_true, List.set_nil, List.getElem?_cons_zero, List.getElem?_cons_succ, List.set_cons_zero, List.set_cons_succ, List.map_cons, List.map_nil, List.length_cons, List.length_nil, List.replicate_succ, List.replicate_zero, List.cons_append, List.nil_append, Option.map_some, Option.bind_some, Ir.app_get, Ir.app_get0, Ir.app_set, Ir.app_set0, Ir.app_take, Ir.app_one, Ir.len_app, Nat.reduceAdd, Nat.reduceSub, Nat.reduceLeDiff, if_true, if_false, leads_ok, e0, e1, allocL _ _ e5, e6]
end Ir.K04
set_option Elab.async false
set_option linter.all false
set_option maxRecDepth 100000
set_option maxHeartbeats 1000000
namespace Ir.K04
open PySem
theorem c11 (k : Nat) : calK fs (k + 1) 11 = callF (calK fs k) ⟨1, 3, b11⟩ := rfl
theorem c20 (k : Nat) : calK fs (k + 1) 20 = callF (calK fs k) ⟨1, 1, b20⟩ := rfl
inductive SigOk : PyData → Prop
  | mk (n : Str) (ts : List Str) (g : Str) : n.length ≤ 50 → (∀ t ∈ ts, t.length ≤ 50) → ts.length ≤ 6 → g.length ≤ 50 → SigOk (.tuple [.str n, .tuple (ts.map .str), .str g])
abbrev fz : Str → D := fun z => .p (.str z)
def sigL (n : Str) (ts : List Str) (g : Str) : List Str := "way" :: n :: (ts ++ [("gives" : Str), g])
def sigS (n : Str) (ts : List Str) (g : Str) : Str := Txt.join " " (sigL n ts g)
theorem sigL_le {n : Str} {ts : List Str} {g : Str} (h1 : n.length ≤ 50) (h2 : ∀ t ∈ ts, t.length ≤ 50) (h3 : ts.length ≤ 6) (h4 : g.length ≤ 50) : ((sigL n ts g).map (·.length)).sum + (sigL n ts g).length * (" " : Str).length ≤ 1000 := by
  have e := sum_le 50 (sigL n ts g) fun z hz => by
    unfold sigL at hz
    simp only [List.mem_cons, List.mem_append, List.not_mem_nil, or_false] at hz
    rcases hz with rfl | rfl | hz | rfl | rfl
    · decide +kernel
    · exact h1
    · exact h2 z hz
    · decide +kernel
    · exact h4
  have l : (sigL n ts g).length ≤ 10 := by
    unfold sigL
    simp only [List.length_cons, List.length_append, List.length_nil]
    omega
  rw [len_b]
  omega
theorem all_fz (n : Nat) (zs : List Str) : (zs.map fz).all (rb n) = true := by
  rw [List.all_eq_true]
  intro x hx
  obtain ⟨z, _, rfl⟩ := List.mem_map.mp hx
  rfl
theorem sign_ok (k : Nat) {n : Str} {ts : List Str} {g : Str} (h1 : n.length ≤ 50) (h2 : ∀ t ∈ ts, t.length ≤ 50) (h3 : ts.length ≤ 6) (h4 : g.length ≤ 50) (S : Sto) :
    calK fs (k + 1) 4 [.p (.tuple [.str n, .tuple (ts.map .str), .str g])] S = .val (.p (.str (sigS n ts g))) S := by
  rw [c4, callA S rfl]
  unfold b4
  have hL : (D.p (.str "way") :: D.p (.str n) :: ((ts.map PyData.str).map D.p ++ [D.p (.str "gives"), D.p (.str g)])) = (sigL n ts g).map fz := by
    unfold sigL
    simp only [List.map_cons, List.map_append, List.map_map, List.map_nil]
    rfl
  have hl : (sigL n ts g).length ≤ 100000 := by
    unfold sigL
    simp only [List.length_cons, List.length_append, List.length_nil]
    omega
  have e6 := joinD_lst (S ++ [.lst ((sigL n ts g).map fz)]) S.length " " (sigL n ts g) (app_get0 ..) (by have := sigL_le h1 h2 h3 h4; omega)
  simp -dsimp only [Ir.then_val, Ir.optA_some, Ir.boolA_t, Ir.boolA_f, Ir.seqA_next, Ir.seqA_ret, Ir.wp_val_, Ir.v_var, Ir.v_cst, Ir.v_bin, Ir.v_cmp, Ir.v_chain, Ir.v_and, Ir.v_or, Ir.v_not, Ir.v_ifx, Ir.v_neg, Ir.v_call, Ir.v_tup, Ir.v_lst, Ir.v_idx, Ir.v_idxL, Ir.v_slice, Ir.v_strOf, Ir.v_join, Ir.v_extend, Ir.v_append, Ir.v_len, Ir.v_isi, Ir.v_toInt, Ir.v_all, Ir.v_tupOf, Ir.v_dictOf, Ir.v_dlit, Ir.v_dget3, Ir.v_eqL, Ir.v_op1, Ir.v_op2, Ir.v_fstr, Ir.f_nil, Ir.f_cons, Ir.a_nil', Ir.a_cons', Ir.a_star', Ir.l_disp', Ir.l_of', Ir.l_cat', Ir.l_cut', Ir.b_no', Ir.b_at', Ir.i_tup', Ir.i_lst', Ir.i_str', Ir.i_rng', Ir.ss_nil', Ir.ss_asg, Ir.ss_expr, Ir.ss_ret, Ir.ss_unp, Ir.ss_ite, Ir.ss_setI, Ir.ss_for, Ir.finA_p, Ir.strD_str, Ir.ofD_tup, Ir.dicAt_eq, Ir.lstAt_eq, Ir.dget3_str, Ir.dixD_int, Ir.srcLst_eq, Ir.ofD_ref, Ir.tupD_ref, Ir.lenD_ref, Ir.lenD_tup, Ir.getI_ref, Ir.lsA_lst, Ir.ifA_t, Ir.appD_eq, Ir.extD_eq, Ir.catD_eq, Ir.rb_p, decide_true, decide_false, Bool.true_and, Bool.and_true, Ir.atA_no, Ir.atA_go, Ir.contA_next, Ir.contA_ret, Ir.size_fix, Ir.size_dyn, Ir.at_fix, Ir.at_dyn, Ir.turn_one, List.length_map, List.getElem?_nil, Ir.tgt, Ir.setAll, Bool.false_eq_true, List.set_nil, List.getElem?_cons_zero, List.getElem?_cons_succ, List.set_cons_zero, List.set_cons_succ, List.map_cons, List.map_nil, List.length_cons, List.length_nil, List.replicate_succ, List.replicate_zero, List.cons_append, List.nil_append, Option.map_some, Option.bind_some, Ir.app_get, Ir.app_get0, Ir.app_set, Ir.app_set0, Ir.app_take, Ir.app_one, Ir.len_app, Nat.reduceAdd, Nat.reduceSub, Nat.reduceLeDiff, if_true, if_false, hL, hl, List.length_map, allocL _ _ (all_fz S.length (sigL n ts g)), e6]
  rfl
/-! ### the law's sorts of words -/
def sortsKv : List (Sum Int Str × D) := [(.inr "num", .p (.str "n")), (.inr "get", .p (.str "b")), (.inr "put", .p (.str "b")), (.inr "fits", .p (.str "u")), (.inr "new", .p (.str "u")), (.inr "jump", .p (.str "r")), (.inr "nought", .p (.str "r")),
  (.inr "read", .p (.str "uw")), (.inr "write", .p (.str "uw")), (.inr "call", .p (.str "uw")), (.inr "hail", .p (.str "uw"))]
def sortsKv0 : List (Sum Int Str × D) := [(.inr "num", .p (.str "n")), (.inr "get", .p (.str "b")), (.inr "put", .p (.str "b")), (.inr "fits", .p (.str "u")), (.inr "new", .p (.str "u")), (.inr "jump", .p (.str "r")), (.inr "nought", .p (.str "r"))]
def sortsF (w : Str) : D := (valD sortsKv (.inr w)).getD (.p (.str ""))
def fourW : List D := [.p (.str "read"), .p (.str "write"), .p (.str "call"), .p (.str "hail")]
theorem sorts_ok (k : Nat) (w : Str) (S : Sto) : wp (exSs (calK fs k) b11 [some (.p (.str w)), none, none] S) (fun c S' => c.1 = .ret (sortsF w) ∧ S'.take S.length = S) (fun _ _ => False) := by
  unfold b11
  have e1 : dlitD ["num", "get", "put", "fits", "new", "jump", "nought"] [.p (.str "n"), .p (.str "b"), .p (.str "b"), .p (.str "u"), .p (.str "u"), .p (.str "r"), .p (.str "r")] = some sortsKv0 := by kernel_rfl
  have e2 : (4 : Nat) ≤ 100000 := by omega
  simp -dsimp only [Ir.then_val, Ir.optA_some, Ir.boolA_t, Ir.boolA_f, Ir.seqA_next, Ir.seqA_ret, Ir.wp_val_, Ir.v_var, Ir.v_cst, Ir.v_bin, Ir.v_cmp, Ir.v_chain, Ir.v_and, Ir.v_or, Ir.v_not, Ir.v_ifx, Ir.v_neg, Ir.v_call, Ir.v_tup, Ir.v_lst, Ir.v_idx, Ir.v_idxL, Ir.v_slice, Ir.v_strOf, Ir.v_join, Ir.v_extend, Ir.v_append, Ir.v_len, Ir.v_isi, Ir.v_toInt, Ir.v_all, Ir.v_tupOf, Ir.v_dictOf, Ir.v_dlit, Ir.v_dget3, Ir.v_eqL, Ir.v_op1, Ir.v_op2, Ir.v_fstr, Ir.f_nil, Ir.f_cons, Ir.a_nil', Ir.a_cons', Ir.a_star', Ir.l_disp', Ir.l_of', Ir.l_cat', Ir.l_cut', Ir.b_no', Ir.b_at', Ir.i_tup', Ir.i_lst', Ir.i_str', Ir.i_rng', Ir.ss_nil', Ir.ss_asg, Ir.ss_expr, Ir.ss_ret, Ir.ss_unp, Ir.ss_ite, Ir.ss_setI, Ir.ss_for, Ir.finA_p, Ir.strD_str, Ir.ofD_tup, Ir.dicAt_eq, Ir.lstAt_eq, Ir.dget3_str, Ir.dixD_int, Ir.srcLst_eq, Ir.ofD_ref, Ir.tupD_ref, Ir.lenD_ref, Ir.lenD_tup, Ir.getI_ref, Ir.lsA_lst, Ir.ifA_t, Ir.appD_eq, Ir.extD_eq, Ir.catD_eq, Ir.rb_p, decide_true, decide_false, Bool.true_and, Bool.and_true, Ir.atA_no, Ir.atA_go, Ir.contA_next, Ir.contA_ret, Ir.size_fix, Ir.size_dyn, Ir.at_fix, Ir.at_dyn, Ir.turn_one, List.length_map, List.getElem?_nil, Ir.tgt, Ir.setAll, Bool.false_eq_true, List.set_nil, List.getElem?_cons_zero, List.getElem?_cons_succ, List.set_cons_zero, List.set_cons_succ, List.map_cons, List.map_nil, List.length_cons, List.length_nil, List.replicate_succ, List.replicate_zero, List.cons_append, List.nil_append, Option.map_some, Option.bind_some, Ir.app_get, Ir.app_get0, Ir.app_set, Ir.app_set0, Ir.app_take, Ir.app_one, Ir.len_app, Nat.reduceAdd, Nat.reduceSub, Nat.reduceLeDiff, if_true, if_false, e1, allocD S sortsKv0 (by rfl), e2]
  rw [allocL _ _ (by rfl)]
  simp -dsimp only [Ir.then_val, Ir.optA_some, Ir.boolA_t, Ir.boolA_f, Ir.seqA_next, Ir.seqA_ret, Ir.wp_val_, Ir.v_var, Ir.v_cst, Ir.v_bin, Ir.v_cmp, Ir.v_chain, Ir.v_and, Ir.v_or, Ir.v_not, Ir.v_ifx, Ir.v_neg, Ir.v_call, Ir.v_tup, Ir.v_lst, Ir.v_idx, Ir.v_idxL, Ir.v_slice, Ir.v_strOf, Ir.v_join, Ir.v_extend, Ir.v_append, Ir.v_len, Ir.v_isi, Ir.v_toInt, Ir.v_all, Ir.v_tupOf, Ir.v_dictOf, Ir.v_dlit, Ir.v_dget3, Ir.v_eqL, Ir.v_op1, Ir.v_op2, Ir.v_fstr, Ir.f_nil, Ir.f_cons, Ir.a_nil', Ir.a_cons', Ir.a_star', Ir.l_disp', Ir.l_of', Ir.l_cat', Ir.l_cut', Ir.b_no', Ir.b_at', Ir.i_tup', Ir.i_lst', Ir.i_str', Ir.i_rng', Ir.ss_nil', Ir.ss_asg, Ir.ss_expr, Ir.ss_ret, Ir.ss_unp, Ir.ss_ite, Ir.ss_setI, Ir.ss_for, Ir.finA_p, Ir.strD_str, Ir.ofD_tup, Ir.dicAt_eq, Ir.lstAt_eq, Ir.dget3_str, Ir.dixD_int, Ir.srcLst_eq, Ir.ofD_ref, Ir.tupD_ref, Ir.lenD_ref, Ir.lenD_tup, Ir.getI_ref, Ir.lsA_lst, Ir.ifA_t, Ir.appD_eq, Ir.extD_eq, Ir.catD_eq, Ir.rb_p, decide_true, decide_false, Bool.true_and, Bool.and_true, Ir.atA_no, Ir.atA_go, Ir.contA_next, Ir.contA_ret, Ir.size_fix, Ir.size_dyn, Ir.at_fix, Ir.at_dyn, Ir.turn_one, List.length_map, List.getElem?_nil, Ir.tgt, Ir.setAll, Bool.false_eq_true, List.set_nil, List.getElem?_cons_zero, List.getElem?_cons_succ, List.set_cons_zero, List.set_cons_succ, List.map_cons, List.map_nil, List.length_cons, List.length_nil, List.replicate_succ, List.replicate_zero, List.cons_append, List.nil_append, Option.map_some, Option.bind_some, Ir.app_get, Ir.app_get0, Ir.app_set, Ir.app_set0, Ir.app_take, Ir.app_one, Ir.len_app, Nat.reduceAdd, Nat.reduceSub, Nat.reduceLeDiff, if_true, if_false, srcLst]
  have p1 : putD sortsKv0 (.inr "read") (.p (.str "uw")) = sortsKv.take 8 := by kernel_rfl
  have p2 : putD (sortsKv.take 8) (.inr "write") (.p (.str "uw")) = sortsKv.take 9 := by kernel_rfl
  have p3 : putD (sortsKv.take 9) (.inr "call") (.p (.str "uw")) = sortsKv.take 10 := by kernel_rfl
  have p4 : putD (sortsKv.take 10) (.inr "hail") (.p (.str "uw")) = sortsKv := by kernel_rfl
  have q0 : ∀ S' j k d, putA S' j k (.p d) (some (.dic sortsKv0)) = .val () (S'.set j (.dic (putD sortsKv0 k (.p d)))) := fun S' j k d => putA_dic _ _ _ _ _ rfl (by decide)
  have q1 : ∀ S' j k d, putA S' j k (.p d) (some (.dic (sortsKv.take 8))) = .val () (S'.set j (.dic (putD (sortsKv.take 8) k (.p d)))) := fun S' j k d => putA_dic _ _ _ _ _ rfl (by decide)
  have q2 : ∀ S' j k d, putA S' j k (.p d) (some (.dic (sortsKv.take 9))) = .val () (S'.set j (.dic (putD (sortsKv.take 9) k (.p d)))) := fun S' j k d => putA_dic _ _ _ _ _ rfl (by decide)
  have q3 : ∀ S' j k d, putA S' j k (.p d) (some (.dic (sortsKv.take 10))) = .val () (S'.set j (.dic (putD (sortsKv.take 10) k (.p d)))) := fun S' j k d => putA_dic _ _ _ _ _ rfl (by decide)
  simp -dsimp only [Ir.then_val, Ir.optA_some, Ir.boolA_t, Ir.boolA_f, Ir.seqA_next, Ir.seqA_ret, Ir.wp_val_, Ir.v_var, Ir.v_cst, Ir.v_bin, Ir.v_cmp, Ir.v_chain, Ir.v_and, Ir.v_or, Ir.v_not, Ir.v_ifx, Ir.v_neg, Ir.v_call, Ir.v_tup, Ir.v_lst, Ir.v_idx, Ir.v_idxL, Ir.v_slice, Ir.v_strOf, Ir.v_join, Ir.v_extend, Ir.v_append, Ir.v_len, Ir.v_isi, Ir.v_toInt, Ir.v_all, Ir.v_tupOf, Ir.v_dictOf, Ir.v_dlit, Ir.v_dget3, Ir.v_eqL, Ir.v_op1, Ir.v_op2, Ir.v_fstr, Ir.f_nil, Ir.f_cons, Ir.a_nil', Ir.a_cons', Ir.a_star', Ir.l_disp', Ir.l_of', Ir.l_cat', Ir.l_cut', Ir.b_no', Ir.b_at', Ir.i_tup', Ir.i_lst', Ir.i_str', Ir.i_rng', Ir.ss_nil', Ir.ss_asg, Ir.ss_expr, Ir.ss_ret, Ir.ss_unp, Ir.ss_ite, Ir.ss_setI, Ir.ss_for, Ir.finA_p, Ir.strD_str, Ir.ofD_tup, Ir.dicAt_eq, Ir.lstAt_eq, Ir.dget3_str, Ir.dixD_int, Ir.srcLst_eq, Ir.ofD_ref, Ir.tupD_ref, Ir.lenD_ref, Ir.lenD_tup, Ir.getI_ref, Ir.lsA_lst, Ir.ifA_t, Ir.appD_eq, Ir.extD_eq, Ir.catD_eq, Ir.rb_p, decide_true, decide_false, Bool.true_and, Bool.and_true, Ir.atA_no, Ir.atA_go, Ir.contA_next, Ir.contA_ret, Ir.size_fix, Ir.size_dyn, Ir.at_fix, Ir.at_dyn, Ir.turn_one, List.length_map, List.getElem?_nil, Ir.tgt, Ir.setAll, Bool.false_eq_true, List.set_nil, List.getElem?_cons_zero, List.getElem?_cons_succ, List.set_cons_zero, List.set_cons_succ, List.map_cons, List.map_nil, List.length_cons, List.length_nil, List.replicate_succ, List.replicate_zero, List.cons_append, List.nil_append, Option.map_some, Option.bind_some, Ir.app_get, Ir.app_get0, Ir.app_set, Ir.app_set0, Ir.app_take, Ir.app_one, Ir.len_app, Nat.reduceAdd, Nat.reduceSub, Nat.reduceLeDiff, if_true, if_false, forGo_s, forGo_z, setD_str, q0, q1, q2, q3, p1, p2, p3, p4]
  refine ⟨?_, ?_⟩ <;> first | trivial | rfl
theorem sorts_str (w : Str) : ∃ z, sortsF w = .p (.str z) := by
  unfold sortsF valD
  cases h : sortsKv.find? fun kv => decide (kv.1 = .inr w) with
  | none => exact ⟨_, rfl⟩
  | some p =>
    have hm := List.mem_of_find?_eq_some h
    unfold sortsKv at hm
    simp only [List.mem_cons, List.not_mem_nil, or_false] at hm
    rcases hm with rfl | rfl | rfl | rfl | rfl | rfl | rfl | rfl | rfl | rfl | rfl <;> exact ⟨_, rfl⟩
theorem sort_ok (k : Nat) (w : Str) (S : Sto) : calK fs (k + 1) 11 [.p (.str w)] S = .val (sortsF w) S := by
  rw [c11, callA S rfl]
  have h := sorts_ok k w S
  obtain ⟨z, hz⟩ := sorts_str w
  show finA S.length (exSs (calK fs k) b11 [some (.p (.str w)), none, none] S) = _
  cases e : exSs (calK fs k) b11 [some (.p (.str w)), none, none] S with
  | val c S' =>
    rw [e] at h
    obtain ⟨c, ρ⟩ := c
    obtain ⟨h1, h2⟩ := h
    have h1 : c = .ret (sortsF w) := h1
    subst h1
    rw [hz]
    show Out.val (D.p (.str z)) (S'.take S.length) = _
    rw [h2]
  | exc _ _ => rw [e] at h; exact h.elim
  | bad => rw [e] at h; exact h.elim
theorem sorts_r (w : Str) : (cop [] .eq (sortsF w) (.p (.str "r"))) = some (decide (w = "jump") || decide (w = "nought")) := by
  unfold sortsF valD
  by_cases h1 : w = "jump"
  · subst h1; kernel_rfl
  by_cases h2 : w = "nought"
  · subst h2; kernel_rfl
  rw [decide_eq_false h1, decide_eq_false h2]
  cases h : sortsKv.find? fun kv => decide (kv.1 = .inr w) with
  | none => kernel_rfl
  | some p =>
    have hm := List.mem_of_find?_eq_some h
    have hp := List.find?_some h
    unfold sortsKv at hm
    simp only [List.mem_cons, List.not_mem_nil, or_false] at hm
    have hp : p.1 = .inr w := of_decide_eq_true hp
    rcases hm with rfl | rfl | rfl | rfl | rfl | rfl | rfl | rfl | rfl | rfl | rfl
    · kernel_rfl
    · kernel_rfl
    · kernel_rfl
    · kernel_rfl
    · kernel_rfl
    · exact absurd (Sum.inr.inj hp).symm h1
    · exact absurd (Sum.inr.inj hp).symm h2
    · kernel_rfl
    · kernel_rfl
    · kernel_rfl
    · kernel_rfl
end Ir.K04
set_option Elab.async false
set_option linter.all false
set_option maxRecDepth 100000
set_option maxHeartbeats 1000000
namespace Ir.K04
open PySem
theorem c19 (k : Nat) : calK fs (k + 1) 19 = callF (calK fs k) ⟨2, 4, b19⟩ := rfl
theorem cut1 (d : PyData) (ps : List PyData) : sliceD (.p (.tuple (d :: ps))) (some 1) none = some (.p (.tuple ps)) := by
  show some (D.p (.tuple (cutP (d :: ps) (some 1) none))) = _
  have : cutP (d :: ps) (some 1) none = ps := by
    unfold cutP
    simp [HT.sIx]
  rw [this]
theorem cop_eq (S : Sto) (x y : D) : cop S .eq x y = eqD x y := rfl
theorem cop_ne (S : Sto) (x y : D) : cop S .ne x y = (eqD x y).map (!·) := rfl
theorem lawrow_ok (k : Nat) {w : Str} {ps : List PyData} (h3 : w.length ≤ 50) (h4 : ∀ p ∈ ps, PartOk p) (h5 : ps.length ≤ 2) (lab : Str) (hlab : lab.length ≤ 2000) (S : Sto) :
    calK fs (k + 2) 19 [.p (.tuple (.str w :: ps)), .p (.str lab)] S = .val (.p (.str (if w = "jump" ∨ w = "nought" then w ++ " " ++ lab else Txt.join " " (w :: ps.map ptxt)))) S := by
  rw [c19, callA S rfl]
  unfold b19
  have e1 : evL (calK fs (k + 1)) (.lc (.tup (.slice (.var 0) (some 1) none)) [3] true (.strOf (.var 3))) [some (.p (.tuple (.str w :: ps))), some (.p (.str lab)), none, none] S = .val ((ps.map ptxt).map fz) S := by
    have : (ps.map ptxt).map fz = (ps.map D.p).map fun d => match d with | .p q => D.p (.str (ptxt q)) | x => x := by
      simp [List.map_map]
    rw [this]
    refine l_lc_fix (S1 := S) (by simp -dsimp only [Ir.then_val, Ir.optA_some, Ir.boolA_t, Ir.boolA_f, Ir.seqA_next, Ir.seqA_ret, Ir.wp_val_, Ir.v_var, Ir.v_cst, Ir.v_bin, Ir.v_cmp, Ir.v_chain, Ir.v_and, Ir.v_or, Ir.v_not, Ir.v_ifx, Ir.v_neg, Ir.v_call, Ir.v_tup, Ir.v_lst, Ir.v_idx, Ir.v_idxL, Ir.v_slice, Ir.v_strOf, Ir.v_join, Ir.v_extend, Ir.v_append, Ir.v_len, Ir.v_isi, Ir.v_toInt, Ir.v_all, Ir.v_tupOf, Ir.v_dictOf, Ir.v_dlit, Ir.v_dget3, Ir.v_eqL, Ir.v_op1, Ir.v_op2, Ir.v_fstr, Ir.f_nil, Ir.f_cons, Ir.a_nil', Ir.a_cons', Ir.a_star', Ir.l_disp', Ir.l_of', Ir.l_cat', Ir.l_cut', Ir.b_no', Ir.b_at', Ir.i_tup', Ir.i_lst', Ir.i_str', Ir.i_rng', Ir.ss_nil', Ir.ss_asg, Ir.ss_expr, Ir.ss_ret, Ir.ss_unp, Ir.ss_ite, Ir.ss_setI, Ir.ss_for, Ir.finA_p, Ir.strD_str, Ir.ofD_tup, Ir.dicAt_eq, Ir.lstAt_eq, Ir.dget3_str, Ir.dixD_int, Ir.srcLst_eq, Ir.ofD_ref, Ir.tupD_ref, Ir.lenD_ref, Ir.lenD_tup, Ir.getI_ref, Ir.lsA_lst, Ir.ifA_t, Ir.appD_eq, Ir.extD_eq, Ir.catD_eq, Ir.rb_p, decide_true, decide_false, Bool.true_and, Bool.and_true, Ir.atA_no, Ir.atA_go, Ir.contA_next, Ir.contA_ret, Ir.size_fix, Ir.size_dyn, Ir.at_fix, Ir.at_dyn, Ir.turn_one, List.length_map, List.getElem?_nil, Ir.tgt, Ir.setAll, Bool.false_eq_true, List.set_nil, List.getElem?_cons_zero, List.getElem?_cons_succ, List.set_cons_zero, List.set_cons_succ, List.map_cons, List.map_nil, List.length_cons, List.length_nil, List.replicate_succ, List.replicate_zero, List.cons_append, List.nil_append, Option.map_some, Option.bind_some, Ir.app_get, Ir.app_get0, Ir.app_set, Ir.app_set0, Ir.app_take, Ir.app_one, Ir.len_app, Nat.reduceAdd, Nat.reduceSub, Nat.reduceLeDiff, if_true, if_false, cut1, srcTup]) (by simp; omega) fun d hd => ?_
    obtain ⟨p, hp, rfl⟩ := List.mem_map.mp hd
    refine ⟨_, rfl, ?_⟩
    simp -dsimp only [Ir.then_val, Ir.optA_some, Ir.boolA_t, Ir.boolA_f, Ir.seqA_next, Ir.seqA_ret, Ir.wp_val_, Ir.v_var, Ir.v_cst, Ir.v_bin, Ir.v_cmp, Ir.v_chain, Ir.v_and, Ir.v_or, Ir.v_not, Ir.v_ifx, Ir.v_neg, Ir.v_call, Ir.v_tup, Ir.v_lst, Ir.v_idx, Ir.v_idxL, Ir.v_slice, Ir.v_strOf, Ir.v_join, Ir.v_extend, Ir.v_append, Ir.v_len, Ir.v_isi, Ir.v_toInt, Ir.v_all, Ir.v_tupOf, Ir.v_dictOf, Ir.v_dlit, Ir.v_dget3, Ir.v_eqL, Ir.v_op1, Ir.v_op2, Ir.v_fstr, Ir.f_nil, Ir.f_cons, Ir.a_nil', Ir.a_cons', Ir.a_star', Ir.l_disp', Ir.l_of', Ir.l_cat', Ir.l_cut', Ir.b_no', Ir.b_at', Ir.i_tup', Ir.i_lst', Ir.i_str', Ir.i_rng', Ir.ss_nil', Ir.ss_asg, Ir.ss_expr, Ir.ss_ret, Ir.ss_unp, Ir.ss_ite, Ir.ss_setI, Ir.ss_for, Ir.finA_p, Ir.strD_str, Ir.ofD_tup, Ir.dicAt_eq, Ir.lstAt_eq, Ir.dget3_str, Ir.dixD_int, Ir.srcLst_eq, Ir.ofD_ref, Ir.tupD_ref, Ir.lenD_ref, Ir.lenD_tup, Ir.getI_ref, Ir.lsA_lst, Ir.ifA_t, Ir.appD_eq, Ir.extD_eq, Ir.catD_eq, Ir.rb_p, decide_true, decide_false, Bool.true_and, Bool.and_true, Ir.atA_no, Ir.atA_go, Ir.contA_next, Ir.contA_ret, Ir.size_fix, Ir.size_dyn, Ir.at_fix, Ir.at_dyn, Ir.turn_one, List.length_map, List.getElem?_nil, Ir.tgt, Ir.setAll, Bool.false_eq_true, List.set_nil, List.getElem?_cons_zero, List.getElem?_cons_succ, List.set_cons_zero, List.set_cons_succ, List.map_cons, List.map_nil, List.length_cons, List.length_nil, List.replicate_succ, List.replicate_zero, List.cons_append, List.nil_append, Option.map_some, Option.bind_some, Ir.app_get, Ir.app_get0, Ir.app_set, Ir.app_set0, Ir.app_take, Ir.app_one, Ir.len_app, Nat.reduceAdd, Nat.reduceSub, Nat.reduceLeDiff, if_true, if_false, wipeD, strOf_ok (h4 p hp)]
  have e5 := allocL S _ (all_fz S.length (ps.map ptxt))
  have hlz : (ps.map ptxt).length ≤ 2 := by simp; omega
  have hz : ∀ z ∈ ps.map ptxt, z.length ≤ 1000 := fun z hz => by
    obtain ⟨p, hp, rfl⟩ := List.mem_map.mp hz
    exact ptxt_len (h4 p hp)
  generalize ps.map ptxt = zs at *
  have hr := sorts_r w
  rw [cop_eq] at hr
  have h1 : (1 : Nat) ≤ 100000 := by omega
  by_cases hw : w = "jump" ∨ w = "nought"
  · have e0 : (decide (w = "jump") || decide (w = "nought")) = true := by rcases hw with h | h <;> simp [h]
    rw [e0] at hr
    have e6 : joinD (S ++ [.lst (zs.map fz), .lst [.p (.str lab)], .lst [.p (.str w)], .lst [.p (.str w), .p (.str lab)]]) (.p (.str " ")) (.ref (S.length + 3)) = some (.p (.str (Txt.join " " [w, lab]))) :=
      joinD_lst _ _ _ [w, lab] (app_get ..) (by rw [len_b]; simp; omega)
    have e7 : Txt.join " " [w, lab] = w ++ " " ++ lab := by rw [join_cons, join_one]
    have a1 := allocL (S ++ [.lst (zs.map fz)]) [.p (.str lab)] rfl
    have a2 := allocL (S ++ [.lst (zs.map fz), .lst [.p (.str lab)]]) [.p (.str w)] rfl
    have a3 := allocL (S ++ [.lst (zs.map fz), .lst [.p (.str lab)], .lst [.p (.str w)]]) [.p (.str w), .p (.str lab)] rfl
    have h2 : (1 + 1 : Nat) ≤ 100000 := by omega
    simp -dsimp only [Ir.then_val, Ir.optA_some, Ir.boolA_t, Ir.boolA_f, Ir.seqA_next, Ir.seqA_ret, Ir.wp_val_, Ir.v_var, Ir.v_cst, Ir.v_bin, Ir.v_cmp, Ir.v_chain, Ir.v_and, Ir.v_or, Ir.v_not, Ir.v_ifx, Ir.v_neg, Ir.v_call, Ir.v_tup, Ir.v_lst, Ir.v_idx, Ir.v_idxL, Ir.v_slice, Ir.v_strOf, Ir.v_join, Ir.v_extend, Ir.v_append, Ir.v_len, Ir.v_isi, Ir.v_toInt, Ir.v_all, Ir.v_tupOf, Ir.v_dictOf, Ir.v_dlit, Ir.v_dget3, Ir.v_eqL, Ir.v_op1, Ir.v_op2, Ir.v_fstr, Ir.f_nil, Ir.f_cons, Ir.a_nil', Ir.a_cons', Ir.a_star', Ir.l_disp', Ir.l_of', Ir.l_cat', Ir.l_cut', Ir.b_no', Ir.b_at', Ir.i_tup', Ir.i_lst', Ir.i_str', Ir.i_rng', Ir.ss_nil', Ir.ss_asg, Ir.ss_expr, Ir.ss_ret, Ir.ss_unp, Ir.ss_ite, Ir.ss_setI, Ir.ss_for, Ir.finA_p, Ir.strD_str, Ir.ofD_tup, Ir.dicAt_eq, Ir.lstAt_eq, Ir.dget3_str, Ir.dixD_int, Ir.srcLst_eq, Ir.ofD_ref, Ir.tupD_ref, Ir.lenD_ref, Ir.lenD_tup, Ir.getI_ref, Ir.lsA_lst, Ir.ifA_t, Ir.appD_eq, Ir.extD_eq, Ir.catD_eq, Ir.rb_p, decide_true, decide_false, Bool.true_and, Bool.and_true, Ir.atA_no, Ir.atA_go, Ir.contA_next, Ir.contA_ret, Ir.size_fix, Ir.size_dyn, Ir.at_fix, Ir.at_dyn, Ir.turn_one, List.length_map, List.getElem?_nil, Ir.tgt, Ir.setAll, Bool.false_eq_true, List.set_nil, List.getElem?_cons_zero, List.getElem?_cons_succ, List.set_cons_zero, List.set_cons_succ, List.map_cons, List.map_nil, List.length_cons, List.length_nil, List.replicate_succ, List.replicate_zero, List.cons_append, List.nil_append, Option.map_some, Option.bind_some, Ir.app_get, Ir.app_get0, Ir.app_set, Ir.app_set0, Ir.app_take, Ir.app_one, Ir.len_app, Nat.reduceAdd, Nat.reduceSub, Nat.reduceLeDiff, if_true, if_false, e1, e5, get0, sort_ok, cop_eq, hr, a1, h1, a2, a3, h2, e6, e7, hw]
  · have e0 : (decide (w = "jump") || decide (w = "nought")) = false := by
      simp only [not_or] at hw; simp [hw.1, hw.2]
    rw [e0] at hr
    have e6 : joinD (S ++ [.lst (zs.map fz), .lst [.p (.str w)], .lst ((w :: zs).map fz)]) (.p (.str " ")) (.ref (S.length + 2)) = some (.p (.str (Txt.join " " (w :: zs)))) :=
      joinD_lst _ _ _ (w :: zs) (app_get ..) (by
        have := sum_le 1000 zs hz
        rw [len_b]; simp only [List.map_cons, List.sum_cons, List.length_cons]; omega)
    have a2 := allocL (S ++ [.lst (zs.map fz)]) [.p (.str w)] rfl
    have a3 := allocL (S ++ [.lst (zs.map fz), .lst [.p (.str w)]]) ((w :: zs).map fz) (all_fz _ _)
    have h2 : 1 + zs.length ≤ 100000 := by omega
    simp only [List.map_cons] at a3 e6
    simp -dsimp only [Ir.then_val, Ir.optA_some, Ir.boolA_t, Ir.boolA_f, Ir.seqA_next, Ir.seqA_ret, Ir.wp_val_, Ir.v_var, Ir.v_cst, Ir.v_bin, Ir.v_cmp, Ir.v_chain, Ir.v_and, Ir.v_or, Ir.v_not, Ir.v_ifx, Ir.v_neg, Ir.v_call, Ir.v_tup, Ir.v_lst, Ir.v_idx, Ir.v_idxL, Ir.v_slice, Ir.v_strOf, Ir.v_join, Ir.v_extend, Ir.v_append, Ir.v_len, Ir.v_isi, Ir.v_toInt, Ir.v_all, Ir.v_tupOf, Ir.v_dictOf, Ir.v_dlit, Ir.v_dget3, Ir.v_eqL, Ir.v_op1, Ir.v_op2, Ir.v_fstr, Ir.f_nil, Ir.f_cons, Ir.a_nil', Ir.a_cons', Ir.a_star', Ir.l_disp', Ir.l_of', Ir.l_cat', Ir.l_cut', Ir.b_no', Ir.b_at', Ir.i_tup', Ir.i_lst', Ir.i_str', Ir.i_rng', Ir.ss_nil', Ir.ss_asg, Ir.ss_expr, Ir.ss_ret, Ir.ss_unp, Ir.ss_ite, Ir.ss_setI, Ir.ss_for, Ir.finA_p, Ir.strD_str, Ir.ofD_tup, Ir.dicAt_eq, Ir.lstAt_eq, Ir.dget3_str, Ir.dixD_int, Ir.srcLst_eq, Ir.ofD_ref, Ir.tupD_ref, Ir.lenD_ref, Ir.lenD_tup, Ir.getI_ref, Ir.lsA_lst, Ir.ifA_t, Ir.appD_eq, Ir.extD_eq, Ir.catD_eq, Ir.rb_p, decide_true, decide_false, Bool.true_and, Bool.and_true, Ir.atA_no, Ir.atA_go, Ir.contA_next, Ir.contA_ret, Ir.size_fix, Ir.size_dyn, Ir.at_fix, Ir.at_dyn, Ir.turn_one, List.length_map, List.getElem?_nil, Ir.tgt, Ir.setAll, Bool.false_eq_true, List.set_nil, List.getElem?_cons_zero, List.getElem?_cons_succ, List.set_cons_zero, List.set_cons_succ, List.map_cons, List.map_nil, List.length_cons, List.length_nil, List.replicate_succ, List.replicate_zero, List.cons_append, List.nil_append, Option.map_some, Option.bind_some, Ir.app_get, Ir.app_get0, Ir.app_set, Ir.app_set0, Ir.app_take, Ir.app_one, Ir.len_app, Nat.reduceAdd, Nat.reduceSub, Nat.reduceLeDiff, if_true, if_false, e1, e5, get0, sort_ok, cop_eq, hr, h1, a2, a3, h2, e6, hw]
theorem get2 (S : Sto) (a b d : PyData) (ps : List PyData) : getI S (.p (.tuple (a :: b :: d :: ps))) (.p (.int 2)) = some (.p d) := by
  show Option.map _ (L2.atI (a :: b :: d :: ps) 2) = _
  have : L2.atI (a :: b :: d :: ps) 2 = some d := by
    have h : (2 : Int) < (ps.length : Int) + 1 + 1 + 1 := by omega
    simp [L2.atI, L2.ixN, h]
  rw [this]; rfl
theorem lawsign_ok (k : Nat) {n : Str} {ts : List Str} {g : Str} (h1 : n.length ≤ 50) (h2 : ∀ t ∈ ts, t.length ≤ 50) (h3 : ts.length ≤ 6) (h4 : g.length ≤ 50) (rest : List PyData) (S : Sto) :
    calK fs (k + 1) 20 [.p (.tuple (.str n :: .tuple (ts.map .str) :: .str g :: rest))] S = .val (.p (.str (sigS n ts g))) S := by
  rw [c20, callA S rfl]
  unfold b20
  have m1 : (ts.map PyData.str).map D.p = ts.map fz := by rw [List.map_map]; rfl
  have a1 := allocL S [.p (.str "way"), .p (.str n)] rfl
  have a2 := allocL (S ++ [.lst [.p (.str "way"), .p (.str n)]]) (ts.map fz) (all_fz _ _)
  have a3 := allocL (S ++ [.lst [.p (.str "way"), .p (.str n)], .lst (ts.map fz)]) (D.p (.str "way") :: D.p (.str n) :: ts.map fz) (all_fz _ ("way" :: n :: ts))
  have a4 := allocL (S ++ [.lst [.p (.str "way"), .p (.str n)], .lst (ts.map fz), .lst (D.p (.str "way") :: D.p (.str n) :: ts.map fz)]) [.p (.str "gives"), .p (.str g)] rfl
  have hL : D.p (.str "way") :: D.p (.str n) :: (ts.map fz ++ [.p (.str "gives"), .p (.str g)]) = (sigL n ts g).map fz := by
    unfold sigL
    simp only [List.map_cons, List.map_append, List.map_nil]
  have a5 := allocL (S ++ [.lst [.p (.str "way"), .p (.str n)], .lst (ts.map fz), .lst (D.p (.str "way") :: D.p (.str n) :: ts.map fz), .lst [.p (.str "gives"), .p (.str g)]]) ((sigL n ts g).map fz) (all_fz _ _)
  have e6 := joinD_lst (S ++ [.lst [.p (.str "way"), .p (.str n)], .lst (ts.map fz), .lst (D.p (.str "way") :: D.p (.str n) :: ts.map fz), .lst [.p (.str "gives"), .p (.str g)], .lst ((sigL n ts g).map fz)]) (S.length + 4) " " (sigL n ts g) (app_get ..) (by have := sigL_le h1 h2 h3 h4; omega)
  have l1 : (1 + 1 : Nat) ≤ 100000 := by omega
  have l2 : 2 + ts.length ≤ 100000 := by omega
  have l3 : ts.length ≤ 99996 := by omega
  simp -dsimp only [Ir.then_val, Ir.optA_some, Ir.boolA_t, Ir.boolA_f, Ir.seqA_next, Ir.seqA_ret, Ir.wp_val_, Ir.v_var, Ir.v_cst, Ir.v_bin, Ir.v_cmp, Ir.v_chain, Ir.v_and, Ir.v_or, Ir.v_not, Ir.v_ifx, Ir.v_neg, Ir.v_call, Ir.v_tup, Ir.v_lst, Ir.v_idx, Ir.v_idxL, Ir.v_slice, Ir.v_strOf, Ir.v_join, Ir.v_extend, Ir.v_append, Ir.v_len, Ir.v_isi, Ir.v_toInt, Ir.v_all, Ir.v_tupOf, Ir.v_dictOf, Ir.v_dlit, Ir.v_dget3, Ir.v_eqL, Ir.v_op1, Ir.v_op2, Ir.v_fstr, Ir.f_nil, Ir.f_cons, Ir.a_nil', Ir.a_cons', Ir.a_star', Ir.l_disp', Ir.l_of', Ir.l_cat', Ir.l_cut', Ir.b_no', Ir.b_at', Ir.i_tup', Ir.i_lst', Ir.i_str', Ir.i_rng', Ir.ss_nil', Ir.ss_asg, Ir.ss_expr, Ir.ss_ret, Ir.ss_unp, Ir.ss_ite, Ir.ss_setI, Ir.ss_for, Ir.finA_p, Ir.strD_str, Ir.ofD_tup, Ir.dicAt_eq, Ir.lstAt_eq, Ir.dget3_str, Ir.dixD_int, Ir.srcLst_eq, Ir.ofD_ref, Ir.tupD_ref, Ir.lenD_ref, Ir.lenD_tup, Ir.getI_ref, Ir.lsA_lst, Ir.ifA_t, Ir.appD_eq, Ir.extD_eq, Ir.catD_eq, Ir.rb_p, decide_true, decide_false, Bool.true_and, Bool.and_true, Ir.atA_no, Ir.atA_go, Ir.contA_next, Ir.contA_ret, Ir.size_fix, Ir.size_dyn, Ir.at_fix, Ir.at_dyn, Ir.turn_one, List.length_map, List.getElem?_nil, Ir.tgt, Ir.setAll, Bool.false_eq_true, List.set_nil, List.getElem?_cons_zero, List.getElem?_cons_succ, List.set_cons_zero, List.set_cons_succ, List.map_cons, List.map_nil, List.length_cons, List.length_nil, List.replicate_succ, List.replicate_zero, List.cons_append, List.nil_append, Option.map_some, Option.bind_some, Ir.app_get, Ir.app_get0, Ir.app_set, Ir.app_set0, Ir.app_take, Ir.app_one, Ir.len_app, Nat.reduceAdd, Nat.reduceSub, Nat.reduceLeDiff, if_true, if_false, get0, get1, get2, m1, a1, a2, a3, a4, hL, a5, e6, l1, l2, l3]
  rfl
end Ir.K04
set_option Elab.async false
set_option linter.all false
set_option maxRecDepth 100000
set_option maxHeartbeats 1000000
namespace Ir.K04
open PySem
theorem c5 (k : Nat) : calK fs (k + 1) 5 = callF (calK fs k) ⟨1, 12, b5⟩ := rfl
theorem c22 (k : Nat) : calK fs (k + 1) 22 = callF (calK fs k) ⟨1, 7, b22⟩ := rfl
/-- a catch, an entry -/
structure Ct where
  f : Int
  t : Int
  a : Int
abbrev Ct.py (c : Ct) : PyData := .tuple [.int c.f, .int c.t, .int c.a]
abbrev enPy (e : Int × Int) : PyData := .tuple [.int e.1, .int e.2]
structure Way where
  n : Str
  ts : List Str
  g : Str
  rows : List PyData
  es : List (Int × Int)
  cs : List Ct
def Way.py (w : Way) : PyData := .tuple [.str w.n, .tuple (w.ts.map .str), .str w.g, .tuple w.rows, .tuple (w.es.map enPy), .tuple (w.cs.map Ct.py)]
structure Way.Ok (w : Way) : Prop where
  n : w.n.length ≤ 50
  ts : ∀ t ∈ w.ts, t.length ≤ 50
  tl : w.ts.length ≤ 6
  g : w.g.length ≤ 50
  rows : ∀ r ∈ w.rows, RowOk r
  rl : w.rows.length ≤ 40
  es : ∀ e ∈ w.es, Sm e.2
  el : w.es.length ≤ 40
  cs : ∀ c ∈ w.cs, Sm c.f ∧ Sm c.t ∧ Sm c.a
  cl : w.cs.length ≤ 4
def kvOf (es : List (Int × Int)) : List (Sum Int Str × D) := es.map fun e => (.inl e.1, .p (.int e.2))
def Way.kv (w : Way) : List (Sum Int Str × D) := mergeD (kvOf w.es)
def Way.hts (w : Way) (at_ : Int) : Option D := valD w.kv (.inl at_)
def catS (c : Ct) : Str := Txt.join " " ["catch", lbl c.f, lbl c.t, lbl c.a]
def Way.isEnd (w : Way) (at_ : Int) : Bool := w.cs.any fun c => decide (c.f = at_) || decide (c.t = at_)
def hS : D → Str
  | .p (.int h) => numS h
  | _ => Str.empty
def Way.lineA (w : Way) (i : Nat) : List Str := match w.hts i with
  | some h => ["at " ++ lbl i ++ " " ++ hS h]
  | none => if w.isEnd i then ["mark " ++ lbl i] else []
def Way.lineB (w : Way) (i : Nat) : List Str := match w.rows[i]? with
  | some r => [rowS r]
  | none => []
def Way.line (w : Way) (i : Nat) : List Str := w.lineA i ++ w.lineB i
def Way.lines (w : Way) (n : Nat) : List Str := sigS w.n w.ts w.g :: w.cs.map catS ++ (List.range n).flatMap w.line
theorem pairs_kv : ∀ es : List (Int × Int), pairsOf (es.map enPy) = some (kvOf es)
  | [] => rfl
  | e :: es => by
    show (keyOf (.p (.int e.1))).bind (fun k => (pairsOf (es.map enPy)).map ((k, D.p (.int e.2)) :: ·)) = _
    rw [pairs_kv es]
    rfl
theorem dict_ok {w : Way} (h : w.Ok) : dictD (.p (.tuple (w.es.map enPy))) = some w.kv := by
  unfold dictD
  simp only [pairs_kv, Option.bind_some]
  rw [if_pos (by unfold kvOf; rw [List.length_map]; have := h.el; omega)]
  rfl
/-- all values of the dict are heights -/
theorem put_int {kvs : List (Sum Int Str × D)} {k : Sum Int Str} {d : D} {P : D → Prop} (hd : P d) (h : ∀ kv ∈ kvs, P kv.2) : ∀ kv ∈ putD kvs k d, P kv.2 := by
  intro x hx
  unfold putD at hx
  split at hx
  · obtain ⟨y, hy, e⟩ := List.mem_map.mp hx
    split at e
    · subst e; exact hd
    · subst e; exact h _ hy
  · rcases List.mem_append.mp hx with z | z
    · exact h _ z
    · rw [List.mem_singleton] at z; subst z; exact hd
theorem merge_int {P : D → Prop} : ∀ {more kvs : List (Sum Int Str × D)}, (∀ kv ∈ more, P kv.2) → (∀ kv ∈ kvs, P kv.2) → ∀ kv ∈ more.foldl (fun acc kv => putD acc kv.1 kv.2) kvs, P kv.2
  | [], _, _, h => h
  | kv :: more, kvs, h1, h2 => merge_int (more := more) (fun q hq => h1 q (List.mem_cons_of_mem _ hq)) (put_int (h1 kv (List.mem_cons_self ..)) h2)
theorem kv_int {w : Way} (h : w.Ok) : ∀ kv ∈ w.kv, ∃ i : Int, kv.2 = .p (.int i) ∧ Sm i := by
  refine merge_int (P := fun d => ∃ i : Int, d = .p (.int i) ∧ Sm i) (fun kv hkv => ?_) (fun kv hkv => nomatch hkv)
  unfold kvOf at hkv
  obtain ⟨e, he, rfl⟩ := List.mem_map.mp hkv
  exact ⟨e.2, rfl, h.es e he⟩
theorem hts_int {w : Way} (h : w.Ok) {i : Int} {d : D} (e : w.hts i = some d) : ∃ x : Int, d = .p (.int x) ∧ Sm x := by
  unfold Way.hts valD at e
  obtain ⟨kv, e1, rfl⟩ := Option.map_eq_some_iff.mp e
  exact kv_int h kv (List.mem_of_find?_eq_some e1)
theorem rb_kv {w : Way} (h : w.Ok) (n : Nat) : (w.kv.all fun kv => rb n kv.2) = true := by
  rw [List.all_eq_true]
  intro kv hkv
  obtain ⟨i, e, _⟩ := kv_int h kv hkv
  rw [e]; rfl
/-- the ends and beginnings of catches, as the program has them -/
def endsL (cs : List Ct) : List D := cs.flatMap fun c => [.p (.int c.f), .p (.int c.t)]
theorem ends_any (cs : List Ct) (i : Int) : ((cs.flatMap fun c => [PyData.int c.f, .int c.t]).any fun y => PyData.eqv y (.int i)) = cs.any fun c => decide (c.f = i) || decide (c.t = i) := by
  induction cs with
  | nil => rfl
  | cons c cs ih =>
    rw [List.flatMap_cons, List.any_append, ih, List.any_cons, List.any_cons, List.any_cons, List.any_nil, Bool.or_false]
    have e : ∀ a : Int, PyData.eqv (.int a) (.int i) = decide (a = i) := fun a => by
      by_cases h : a = i <;> simp [PyData.eqv, h]
    rw [e, e]
end Ir.K04
set_option Elab.async false
set_option linter.all false
set_option maxRecDepth 100000
set_option maxHeartbeats 1000000
namespace Ir.K04
open PySem
theorem atI_nat (ds : List PyData) (i : Nat) : L2.atI ds (i : Int) = ds[i]? := by
  by_cases h : i < ds.length
  · simp [L2.atI, L2.ixN, h]
  · have h2 : ds[i]? = none := List.getElem?_eq_none_iff.mpr (by omega)
    simp [L2.atI, L2.ixN, h, h2]
theorem getT (S : Sto) (ds : List PyData) (i : Nat) : getI S (.p (.tuple ds)) (.p (.int (i : Int))) = ds[i]?.map .p := by
  show Option.map _ (L2.atI ds (i : Int)) = _
  rw [atI_nat]
theorem in_int (S : Sto) (i : Int) (j : Nat) : inD S (.p (.int i)) (.ref j) = (match S[j]? with
    | some (.dic kvs) => some (valD kvs (.inl i)).isSome
    | some (.lst es) => (match plainOf es with
      | some ps => if SeqAt.shaped (.int i) = true ∧ SeqAt.shaped (.list ps) = true then some (ps.any fun y => PyData.eqv y (.int i)) else none
      | none => none)
    | none => none) := by
  unfold inD
  cases h0 : S[j]? with
  | none => simp only [h0]
  | some o =>
    cases o with
    | dic _ => simp only [h0]; rfl
    | lst es => cases h : plainOf es <;> simp only [h0, h]
theorem cop_in (S : Sto) (x y : D) : cop S .in_ x y = inD S x y := rfl
abbrev fi : Int → D := fun i => .p (.int i)
theorem in_ints (ns : List Int) (i : Int) : (match plainOf (ns.map fi) with
      | some ps => if SeqAt.shaped (.int i) = true ∧ SeqAt.shaped (.list ps) = true then some (ps.any fun y => PyData.eqv y (.int i)) else none
      | none => none) = some (ns.any fun n => decide (n = i)) := by
  have e : plainOf (ns.map fi) = some (ns.map .int) := plain_ints ns
  rw [e]
  show (if _ then _ else _) = _
  rw [if_pos ⟨by rfl, PySem.W.ke_shaped_ints ns⟩, List.any_map]
  have e2 : ((fun y => PyData.eqv y (.int i)) ∘ PyData.int) = fun n => decide (n = i) := by
    funext a
    by_cases h : a = i <;> simp [PyData.eqv, h]
  rw [e2]
def endsN (cs : List Ct) : List Int := cs.flatMap fun c => [c.f, c.t]
theorem endsN_any (cs : List Ct) (i : Int) : ((endsN cs).any fun n => decide (n = i)) = cs.any fun c => decide (c.f = i) || decide (c.t = i) := by
  unfold endsN
  induction cs with
  | nil => rfl
  | cons c cs ih =>
    rw [List.flatMap_cons, List.any_append, ih, List.any_cons, List.any_cons, List.any_cons, List.any_nil, Bool.or_false]
theorem lc2_fix {ds : List D} {body : D → List D → M (List D)} {f : D → List D} {S : Sto} (h : ∀ d ∈ ds, ∀ acc, acc.length ≤ 1000 → body d acc S = .val (acc ++ f d) S) (hf : ∀ d ∈ ds, (f d).length ≤ 2) : ∀ (n i : Nat) (acc : List D), i + n = ds.length → acc.length + 2 * n ≤ 1000 → lc2Go (.fix ds) body n i acc S = .val (acc ++ (ds.drop i).flatMap f) S
  | 0, i, acc, e, _ => by
    have e : i = ds.length := by omega
    subst e
    show (match (Src.fix ds).at ds.length S with | some none => Out.val acc S | _ => .bad) = _
    simp [Src.at]
  | n + 1, i, acc, e, hl => by
    have hi : i < ds.length := by omega
    have ea : (Src.fix ds).at i S = some (some ds[i]) := by simp [Src.at, List.getElem?_eq_getElem hi]
    show (match (Src.fix ds).at i S with
      | some none => Out.val acc S
      | some (some d) => M.bind (body d acc) (fun acc' => lc2Go (.fix ds) body n (i + 1) acc') S
      | none => .bad) = _
    rw [ea]
    show M.bind (body ds[i] acc) _ S = _
    rw [bind_at, h _ (List.getElem_mem hi) _ (by omega)]
    show lc2Go (.fix ds) body n (i + 1) (acc ++ f ds[i]) S = _
    have := hf _ (List.getElem_mem hi)
    rw [lc2_fix h hf n (i + 1) _ (by omega) (by rw [List.length_append]; omega), List.drop_eq_getElem_cons hi, List.flatMap_cons, List.append_assoc]
theorem ends_ok (cal : Nat → List D → M D) (cs : List Ct) (hc : cs.length ≤ 4) (a b c d e f g : Option D) (S : Sto) (h8 h9 h10 h11 : Option D) :
    evL cal (.lc2 (.tup (.var 3)) [8] true (.slice (.var 8) none (some 2)) [9] true (.var 9)) [a, b, c, some (.p (.tuple (cs.map Ct.py))), e, f, g, d, h8, h9, h10, h11] S = .val ((endsN cs).map fi) S := by
  let ρ : Sl := [a, b, c, some (.p (.tuple (cs.map Ct.py))), e, f, g, d, h8, h9, h10, h11]
  let F : D → List D → M (List D) := fun d acc => M.calm (match tgt [8] true d (wipeD ρ ([8] ++ [9])) with
        | some ρ' => M.bind (evE cal (.slice (.var 8) none (some 2)) ρ') fun x => match x with
          | .p (.tuple ds) => if acc.length + ds.length ≤ 100000 then lcGo (.fix (ds.map .p)) (fun d => match tgt [9] true d (wipeD ρ' [9]) with
            | some ρ'' => evE cal (.var 9) ρ''
            | none => M.bad) ds.length 0 acc else M.bad
          | _ => M.bad
        | none => M.bad)
  let G : D → List D := fun d => match d with | .p (.tuple [.int x, .int y, .int z]) => [fi x, fi y] | _ => []
  have hF : ∀ d ∈ (cs.map Ct.py).map D.p, ∀ acc, acc.length ≤ 1000 → F d acc S = .val (acc ++ G d) S := fun d hd acc ha => by
    obtain ⟨p, hp, rfl⟩ := List.mem_map.mp hd
    obtain ⟨c, hc, rfl⟩ := List.mem_map.mp hp
    refine calm_val ?_
    have e : acc.length + 2 ≤ 100000 := by omega
    show (if acc.length + 2 ≤ 100000 then lcGo (.fix [fi c.f, fi c.t]) _ 2 0 acc else M.bad) S = _
    rw [if_pos e]
    exact lc_eq (ds := [fi c.f, fi c.t]) (f := id) (fun d hd => rfl) 2 0 acc rfl
  refine (show _ = (Out.val (Src.fix ((cs.map Ct.py).map D.p)) S).then (fun src S1 => match src.size S1 with
    | some n => if n ≤ 100000 then lc2Go src F n 0 [] S1 else .bad
    | none => .bad) from rfl).trans ?_
  show (if ((cs.map Ct.py).map D.p).length ≤ 100000 then lc2Go _ F _ 0 [] S else .bad) = _
  rw [if_pos (by simp; omega), lc2_fix hF (fun d hd => by
    obtain ⟨p, hp, rfl⟩ := List.mem_map.mp hd
    obtain ⟨c, hc, rfl⟩ := List.mem_map.mp hp
    exact Nat.le_refl 2) _ 0 [] (by simp) (by simp; omega)]
  congr 1
  rw [List.drop_zero, List.nil_append]
  clear hF F
  unfold endsN
  induction cs with
  | nil => rfl
  | cons c cs ih =>
    rw [List.map_cons, List.map_cons, List.flatMap_cons, List.flatMap_cons, List.map_append, ih (by simp at hc; omega)]
    rfl
end Ir.K04
set_option Elab.async false
set_option linter.all false
set_option maxRecDepth 100000
set_option maxHeartbeats 1000000
namespace Ir.K04
open PySem
theorem cut3 (a b c : PyData) (ps : List PyData) : sliceD (.p (.tuple (a :: b :: c :: ps))) (some 3) none = some (.p (.tuple ps)) := by
  show some (D.p (.tuple (cutP (a :: b :: c :: ps) (some 3) none))) = _
  have : cutP (a :: b :: c :: ps) (some 3) none = ps := by
    unfold cutP
    simp [HT.sIx]
  rw [this]
theorem head3 (a b c : PyData) (ps : List PyData) : sliceD (.p (.tuple (a :: b :: c :: ps))) none (some 3) = some (.p (.tuple [a, b, c])) := by
  show some (D.p (.tuple (cutP (a :: b :: c :: ps) none (some 3)))) = _
  have : cutP (a :: b :: c :: ps) none (some 3) = [a, b, c] := by
    unfold cutP
    simp [HT.sIx]
  rw [this]
theorem str_catch : ("catch " : Str) = "catch" ++ " " := by kernel_rfl
theorem catS_eq (c : Ct) : "catch " ++ lbl c.f ++ " " ++ lbl c.t ++ " " ++ lbl c.a = catS c := by
  unfold catS
  rw [join_cons, join_cons, join_cons, join_one, str_catch]
  simp only [str_assoc]
theorem srcRng_nat (n : Nat) (h : n ≤ 100000) : srcRng (.p (.int (n : Int))) = some (.fix ((List.range n).map fun (i : Nat) => .p (.int (i : Int)))) := by
  show (if (n : Int) ≤ 100000 ∧ -100000 ≤ (n : Int) then some (Src.fix ((List.range (n : Int).toNat).map fun (i : Nat) => .p (.int (i : Int)))) else none) = _
  rw [if_pos ⟨by omega, by omega⟩, Int.toNat_natCast]
theorem len_at : ("at " : Str).length = 3 := by decide +kernel
theorem len_mark : ("mark " : Str).length = 5 := by decide +kernel
theorem len_catch : ("catch " : Str).length = 6 := by decide +kernel
theorem sm_nat (n : Nat) (h : n ≤ 50) : Sm (n : Int) := by
  have : ∀ n : Fin 51, ((n.val : Int)).natAbs.log2 < 1920 ∧ (numS (n.val : Int)).length ≤ 1000 := by decide +kernel
  obtain ⟨h1, h2⟩ := this ⟨n, by omega⟩
  exact ⟨h1, h2⟩
theorem fmt_catch (k : Nat) (a b c e f g h : Option D) (h8 h9 : Option D) (x : D) (q : Ct) (hq : Sm q.f ∧ Sm q.t ∧ Sm q.a) (S : Sto) :
    evE (calK fs (k + 1)) (.fstr (.cons (.cst (.p (.str "catch "))) (.cons (.call 6 (.cons (.var 10) .nil)) (.cons (.cst (.p (.str " "))) (.cons (.call 6 (.cons (.var 11) .nil)) (.cons (.cst (.p (.str " "))) (.cons (.call 6 (.cons (.var 7) .nil)) .nil)))))))
      [a, b, c, e, f, g, h, some (fi q.a), h8, h9, some (fi q.f), some (fi q.t)] S = .val (.p (.str (catS q))) S := by
  have l1 := lbl_len hq.1
  have l2 := lbl_len hq.2.1
  have l3 := lbl_len hq.2.2
  have e1 : fstep Str.empty (.p (.str "catch ")) = some ("catch " : Str) := by rw [fstep_str _ _ (by decide +kernel), str_nil]
  have e2 : fstep "catch " (.p (.str (lbl q.f))) = some ("catch " ++ lbl q.f) := fstep_str _ _ (by rw [len_catch]; omega)
  have e3 : fstep ("catch " ++ lbl q.f) (.p (.str " ")) = some ("catch " ++ lbl q.f ++ " ") := fstep_str _ _ (by simp only [str_len, len_catch, len_b]; omega)
  have e4 : fstep ("catch " ++ lbl q.f ++ " ") (.p (.str (lbl q.t))) = some ("catch " ++ lbl q.f ++ " " ++ lbl q.t) := fstep_str _ _ (by simp only [str_len, len_catch, len_b]; omega)
  have e5 : fstep ("catch " ++ lbl q.f ++ " " ++ lbl q.t) (.p (.str " ")) = some ("catch " ++ lbl q.f ++ " " ++ lbl q.t ++ " ") := fstep_str _ _ (by simp only [str_len, len_catch, len_b]; omega)
  have e6 : fstep ("catch " ++ lbl q.f ++ " " ++ lbl q.t ++ " ") (.p (.str (lbl q.a))) = some ("catch " ++ lbl q.f ++ " " ++ lbl q.t ++ " " ++ lbl q.a) := fstep_str _ _ (by simp only [str_len, len_catch, len_b]; omega)
  simp -dsimp only [Ir.then_val, Ir.optA_some, Ir.boolA_t, Ir.boolA_f, Ir.seqA_next, Ir.seqA_ret, Ir.wp_val_, Ir.v_var, Ir.v_cst, Ir.v_bin, Ir.v_cmp, Ir.v_chain, Ir.v_and, Ir.v_or, Ir.v_not, Ir.v_ifx, Ir.v_neg, Ir.v_call, Ir.v_tup, Ir.v_lst, Ir.v_idx, Ir.v_idxL, Ir.v_slice, Ir.v_strOf, Ir.v_join, Ir.v_extend, Ir.v_append, Ir.v_len, Ir.v_isi, Ir.v_toInt, Ir.v_all, Ir.v_tupOf, Ir.v_dictOf, Ir.v_dlit, Ir.v_dget3, Ir.v_eqL, Ir.v_op1, Ir.v_op2, Ir.v_fstr, Ir.f_nil, Ir.f_cons, Ir.a_nil', Ir.a_cons', Ir.a_star', Ir.l_disp', Ir.l_of', Ir.l_cat', Ir.l_cut', Ir.b_no', Ir.b_at', Ir.i_tup', Ir.i_lst', Ir.i_str', Ir.i_rng', Ir.ss_nil', Ir.ss_asg, Ir.ss_expr, Ir.ss_ret, Ir.ss_unp, Ir.ss_ite, Ir.ss_setI, Ir.ss_for, Ir.finA_p, Ir.strD_str, Ir.ofD_tup, Ir.dicAt_eq, Ir.lstAt_eq, Ir.dget3_str, Ir.dixD_int, Ir.srcLst_eq, Ir.ofD_ref, Ir.tupD_ref, Ir.lenD_ref, Ir.lenD_tup, Ir.getI_ref, Ir.lsA_lst, Ir.ifA_t, Ir.appD_eq, Ir.extD_eq, Ir.catD_eq, Ir.rb_p, decide_true, decide_false, Bool.true_and, Bool.and_true, Ir.atA_no, Ir.atA_go, Ir.contA_next, Ir.contA_ret, Ir.size_fix, Ir.size_dyn, Ir.at_fix, Ir.at_dyn, Ir.turn_one, List.length_map, List.getElem?_nil, Ir.tgt, Ir.setAll, Bool.false_eq_true, List.set_nil, List.getElem?_cons_zero, List.getElem?_cons_succ, List.set_cons_zero, List.set_cons_succ, List.map_cons, List.map_nil, List.length_cons, List.length_nil, List.replicate_succ, List.replicate_zero, List.cons_append, List.nil_append, Option.map_some, Option.bind_some, Ir.app_get, Ir.app_get0, Ir.app_set, Ir.app_set0, Ir.app_take, Ir.app_one, Ir.len_app, Nat.reduceAdd, Nat.reduceSub, Nat.reduceLeDiff, if_true, if_false, fi, e1, e2, e3, e4, e5, e6, label_ok k _ hq.1, label_ok k _ hq.2.1, label_ok k _ hq.2.2, catS_eq]
theorem lines_succ (w : Way) (n : Nat) : w.lines (n + 1) = w.lines n ++ w.line n := by
  unfold Way.lines
  rw [List.range_succ, List.flatMap_append, List.flatMap_cons, List.flatMap_nil, List.append_nil, ← List.append_assoc]
theorem line_le (w : Way) (i : Nat) : (w.line i).length ≤ 2 := by
  unfold Way.line
  rw [List.length_append]
  have h1 : (w.lineA i).length ≤ 1 := by
    unfold Way.lineA
    split
    · exact Nat.le_refl _
    · split
      · exact Nat.le_refl _
      · exact Nat.zero_le _
  have h2 : (w.lineB i).length ≤ 1 := by
    unfold Way.lineB
    split
    · exact Nat.le_refl _
    · exact Nat.zero_le _
  omega
theorem lines_le {w : Way} (h : w.Ok) : ∀ n, (w.lines n).length ≤ 5 + 2 * n
  | 0 => by
    unfold Way.lines
    have := h.cl
    simp
    omega
  | n + 1 => by
    rw [lines_succ, List.length_append]
    have := lines_le h n
    have := line_le w n
    omega
def slots (w : Way) (n : Nat) (x y : Option D) : Sl := [some (.p w.py), some (.p (.tuple w.rows)), some (.p (.tuple (w.es.map enPy))), some (.p (.tuple (w.cs.map Ct.py))), some (.ref n), some (.ref (n + 1)), some (.ref (n + 2)), x, none, none, none, none]
def sto (w : Way) (S : Sto) (zs : List Str) : Sto := S ++ [.dic w.kv, .lst ((endsN w.cs).map fi), .lst (zs.map fz), .lst ((w.cs.map catS).map fz)]
def stepB : Ss := match b5 with
  | .cons _ (.cons _ (.cons _ (.cons _ (.cons _ (.cons (.for_ _ _ _ b) _))))) => b
  | _ => .nil
def restB : Ss := match stepB with
  | .cons _ r => r
  | _ => .nil
theorem hS_len {w : Way} (h : w.Ok) {i : Int} {d : D} (e : w.hts i = some d) : (hS d).length ≤ 1000 := by
  obtain ⟨x, rfl, hx⟩ := hts_int h e
  exact hx.ln
theorem turn_ok (k : Nat) {w : Way} (h : w.Ok) (i : Nat) (hi : i ≤ w.rows.length) (zs : List Str) (hz : zs.length ≤ 1000) (x : Option D) (S : Sto) :
    exSs (calK fs (k + 2)) stepB (slots w S.length (some (fi i)) none) (sto w S zs) = .val (.next, slots w S.length (some (fi i)) none) (sto w S (zs ++ w.line i)) := by
  have hl := h.rl
  have sm := sm_nat i (by omega)
  have ll := lbl_len sm
  have mz : ∀ z : Str, zs.map fz ++ [D.p (.str z)] = (zs ++ [z]).map fz := fun z => by rw [List.map_append]; rfl
  -- the second part, at any lines
  have B : ∀ zs : List Str, zs.length ≤ 2000 → exSs (calK fs (k + 2)) restB (slots w S.length (some (fi i)) none) (sto w S zs) =
      .val (.next, slots w S.length (some (fi i)) none) (sto w S (zs ++ w.lineB i)) := fun zs hz => by
    have mz : ∀ z : Str, zs.map fz ++ [D.p (.str z)] = (zs ++ [z]).map fz := fun z => by rw [List.map_append]; rfl
    have hz2 : decide (zs.length < 100000) = true := decide_eq_true (by omega)
    show exSs (calK fs (k + 2)) (.cons (.ite (.cmp .lt (.var 7) (.len (.var 1))) (.cons (.expr (.append (.var 6) (.call 7 (.cons (.idx (.var 1) (.var 7)) .nil)))) .nil) .nil) .nil) _ _ = _
    unfold slots sto
    by_cases hr : i < w.rows.length
    · have e0 : w.rows[i]? = some w.rows[i] := List.getElem?_eq_getElem hr
      have e1 : decide ((i : Int) < (w.rows.length : Int)) = true := decide_eq_true (by omega)
      have e2 : w.lineB i = [rowS w.rows[i]] := by unfold Way.lineB; rw [e0]
      rw [e2]
      simp -dsimp only [Ir.then_val, Ir.optA_some, Ir.boolA_t, Ir.boolA_f, Ir.seqA_next, Ir.seqA_ret, Ir.wp_val_, Ir.v_var, Ir.v_cst, Ir.v_bin, Ir.v_cmp, Ir.v_chain, Ir.v_and, Ir.v_or, Ir.v_not, Ir.v_ifx, Ir.v_neg, Ir.v_call, Ir.v_tup, Ir.v_lst, Ir.v_idx, Ir.v_idxL, Ir.v_slice, Ir.v_strOf, Ir.v_join, Ir.v_extend, Ir.v_append, Ir.v_len, Ir.v_isi, Ir.v_toInt, Ir.v_all, Ir.v_tupOf, Ir.v_dictOf, Ir.v_dlit, Ir.v_dget3, Ir.v_eqL, Ir.v_op1, Ir.v_op2, Ir.v_fstr, Ir.f_nil, Ir.f_cons, Ir.a_nil', Ir.a_cons', Ir.a_star', Ir.l_disp', Ir.l_of', Ir.l_cat', Ir.l_cut', Ir.b_no', Ir.b_at', Ir.i_tup', Ir.i_lst', Ir.i_str', Ir.i_rng', Ir.ss_nil', Ir.ss_asg, Ir.ss_expr, Ir.ss_ret, Ir.ss_unp, Ir.ss_ite, Ir.ss_setI, Ir.ss_for, Ir.finA_p, Ir.strD_str, Ir.ofD_tup, Ir.dicAt_eq, Ir.lstAt_eq, Ir.dget3_str, Ir.dixD_int, Ir.srcLst_eq, Ir.ofD_ref, Ir.tupD_ref, Ir.lenD_ref, Ir.lenD_tup, Ir.getI_ref, Ir.lsA_lst, Ir.ifA_t, Ir.appD_eq, Ir.extD_eq, Ir.catD_eq, Ir.rb_p, decide_true, decide_false, Bool.true_and, Bool.and_true, Ir.atA_no, Ir.atA_go, Ir.contA_next, Ir.contA_ret, Ir.size_fix, Ir.size_dyn, Ir.at_fix, Ir.at_dyn, Ir.turn_one, List.length_map, List.getElem?_nil, Ir.tgt, Ir.setAll, Bool.false_eq_true, List.set_nil, List.getElem?_cons_zero, List.getElem?_cons_succ, List.set_cons_zero, List.set_cons_succ, List.map_cons, List.map_nil, List.length_cons, List.length_nil, List.replicate_succ, List.replicate_zero, List.cons_append, List.nil_append, Option.map_some, Option.bind_some, Ir.app_get, Ir.app_get0, Ir.app_set, Ir.app_set0, Ir.app_take, Ir.app_one, Ir.len_app, Nat.reduceAdd, Nat.reduceSub, Nat.reduceLeDiff, if_true, if_false, fi, cop_lt, e1, getT, e0, row_ok k (h.rows _ (List.getElem_mem hr)), hz2, mz]
    · have e0 : w.rows[i]? = none := List.getElem?_eq_none_iff.mpr (by omega)
      have e1 : decide ((i : Int) < (w.rows.length : Int)) = false := decide_eq_false (by omega)
      have e2 : w.lineB i = [] := by unfold Way.lineB; rw [e0]
      rw [e2, List.append_nil]
      simp -dsimp only [Ir.then_val, Ir.optA_some, Ir.boolA_t, Ir.boolA_f, Ir.seqA_next, Ir.seqA_ret, Ir.wp_val_, Ir.v_var, Ir.v_cst, Ir.v_bin, Ir.v_cmp, Ir.v_chain, Ir.v_and, Ir.v_or, Ir.v_not, Ir.v_ifx, Ir.v_neg, Ir.v_call, Ir.v_tup, Ir.v_lst, Ir.v_idx, Ir.v_idxL, Ir.v_slice, Ir.v_strOf, Ir.v_join, Ir.v_extend, Ir.v_append, Ir.v_len, Ir.v_isi, Ir.v_toInt, Ir.v_all, Ir.v_tupOf, Ir.v_dictOf, Ir.v_dlit, Ir.v_dget3, Ir.v_eqL, Ir.v_op1, Ir.v_op2, Ir.v_fstr, Ir.f_nil, Ir.f_cons, Ir.a_nil', Ir.a_cons', Ir.a_star', Ir.l_disp', Ir.l_of', Ir.l_cat', Ir.l_cut', Ir.b_no', Ir.b_at', Ir.i_tup', Ir.i_lst', Ir.i_str', Ir.i_rng', Ir.ss_nil', Ir.ss_asg, Ir.ss_expr, Ir.ss_ret, Ir.ss_unp, Ir.ss_ite, Ir.ss_setI, Ir.ss_for, Ir.finA_p, Ir.strD_str, Ir.ofD_tup, Ir.dicAt_eq, Ir.lstAt_eq, Ir.dget3_str, Ir.dixD_int, Ir.srcLst_eq, Ir.ofD_ref, Ir.tupD_ref, Ir.lenD_ref, Ir.lenD_tup, Ir.getI_ref, Ir.lsA_lst, Ir.ifA_t, Ir.appD_eq, Ir.extD_eq, Ir.catD_eq, Ir.rb_p, decide_true, decide_false, Bool.true_and, Bool.and_true, Ir.atA_no, Ir.atA_go, Ir.contA_next, Ir.contA_ret, Ir.size_fix, Ir.size_dyn, Ir.at_fix, Ir.at_dyn, Ir.turn_one, List.length_map, List.getElem?_nil, Ir.tgt, Ir.setAll, Bool.false_eq_true, List.set_nil, List.getElem?_cons_zero, List.getElem?_cons_succ, List.set_cons_zero, List.set_cons_succ, List.map_cons, List.map_nil, List.length_cons, List.length_nil, List.replicate_succ, List.replicate_zero, List.cons_append, List.nil_append, Option.map_some, Option.bind_some, Ir.app_get, Ir.app_get0, Ir.app_set, Ir.app_set0, Ir.app_take, Ir.app_one, Ir.len_app, Nat.reduceAdd, Nat.reduceSub, Nat.reduceLeDiff, if_true, if_false, fi, cop_lt, e1]
  have hz2 : decide (zs.length < 100000) = true := decide_eq_true (by omega)
  show exSs (calK fs (k + 2)) (.cons (.ite (.cmp .in_ (.var 7) (.var 4)) _ _) restB) _ _ = _
  unfold Way.line
  rw [← List.append_assoc]
  have le : (w.lineA i).length ≤ 1 := by have := line_le w i; unfold Way.line at this; rw [List.length_append] at this; unfold Way.lineA at this ⊢; split <;> (try split) <;> simp
  have B2 := B (zs ++ w.lineA i) (by rw [List.length_append]; omega)
  have hv : valD w.kv (.inl (i : Int)) = w.hts i := rfl
  have he : ((endsN w.cs).any fun n => decide (n = (i : Int))) = w.isEnd i := endsN_any _ _
  cases ht : w.hts i with
  | some d =>
    obtain ⟨q, rfl, hq⟩ := hts_int h ht
    have e2 : w.lineA i = ["at " ++ lbl i ++ " " ++ numS q] := by unfold Way.lineA; rw [ht]; rfl
    rw [e2] at B2 ⊢
    have f1 : fstep Str.empty (.p (.str "at ")) = some ("at " : Str) := by rw [fstep_str _ _ (by decide +kernel), str_nil]
    have f2 : fstep "at " (.p (.str (lbl i))) = some ("at " ++ lbl i) := fstep_str _ _ (by rw [len_at]; omega)
    have f3 : fstep ("at " ++ lbl i) (.p (.str " ")) = some ("at " ++ lbl i ++ " ") := fstep_str _ _ (by simp only [str_len, len_at, len_b]; omega)
    have f4 : fstep ("at " ++ lbl i ++ " ") (.p (.int q)) = some ("at " ++ lbl i ++ " " ++ numS q) := fstep_int _ _ hq.lg (by have := hq.ln; simp only [str_len, len_at, len_b]; omega)
    unfold slots sto fi at B2 ⊢
    simp -dsimp only [Ir.then_val, Ir.optA_some, Ir.boolA_t, Ir.boolA_f, Ir.seqA_next, Ir.seqA_ret, Ir.wp_val_, Ir.v_var, Ir.v_cst, Ir.v_bin, Ir.v_cmp, Ir.v_chain, Ir.v_and, Ir.v_or, Ir.v_not, Ir.v_ifx, Ir.v_neg, Ir.v_call, Ir.v_tup, Ir.v_lst, Ir.v_idx, Ir.v_idxL, Ir.v_slice, Ir.v_strOf, Ir.v_join, Ir.v_extend, Ir.v_append, Ir.v_len, Ir.v_isi, Ir.v_toInt, Ir.v_all, Ir.v_tupOf, Ir.v_dictOf, Ir.v_dlit, Ir.v_dget3, Ir.v_eqL, Ir.v_op1, Ir.v_op2, Ir.v_fstr, Ir.f_nil, Ir.f_cons, Ir.a_nil', Ir.a_cons', Ir.a_star', Ir.l_disp', Ir.l_of', Ir.l_cat', Ir.l_cut', Ir.b_no', Ir.b_at', Ir.i_tup', Ir.i_lst', Ir.i_str', Ir.i_rng', Ir.ss_nil', Ir.ss_asg, Ir.ss_expr, Ir.ss_ret, Ir.ss_unp, Ir.ss_ite, Ir.ss_setI, Ir.ss_for, Ir.finA_p, Ir.strD_str, Ir.ofD_tup, Ir.dicAt_eq, Ir.lstAt_eq, Ir.dget3_str, Ir.dixD_int, Ir.srcLst_eq, Ir.ofD_ref, Ir.tupD_ref, Ir.lenD_ref, Ir.lenD_tup, Ir.getI_ref, Ir.lsA_lst, Ir.ifA_t, Ir.appD_eq, Ir.extD_eq, Ir.catD_eq, Ir.rb_p, decide_true, decide_false, Bool.true_and, Bool.and_true, Ir.atA_no, Ir.atA_go, Ir.contA_next, Ir.contA_ret, Ir.size_fix, Ir.size_dyn, Ir.at_fix, Ir.at_dyn, Ir.turn_one, List.length_map, List.getElem?_nil, Ir.tgt, Ir.setAll, Bool.false_eq_true, List.set_nil, List.getElem?_cons_zero, List.getElem?_cons_succ, List.set_cons_zero, List.set_cons_succ, List.map_cons, List.map_nil, List.length_cons, List.length_nil, List.replicate_succ, List.replicate_zero, List.cons_append, List.nil_append, Option.map_some, Option.bind_some, Ir.app_get, Ir.app_get0, Ir.app_set, Ir.app_set0, Ir.app_take, Ir.app_one, Ir.len_app, Nat.reduceAdd, Nat.reduceSub, Nat.reduceLeDiff, if_true, if_false, cop_in, in_int, hv, ht, Option.isSome_some, f1, f2, f3, f4, label_ok (k + 1) _ sm, hz2, mz]
    exact B2
  | none =>
    by_cases hE : w.isEnd i = true
    · have e2 : w.lineA i = ["mark " ++ lbl i] := by unfold Way.lineA; rw [ht]; simp [hE]
      rw [e2] at B2 ⊢
      have f1 : fstep Str.empty (.p (.str "mark ")) = some ("mark " : Str) := by rw [fstep_str _ _ (by decide +kernel), str_nil]
      have f2 : fstep "mark " (.p (.str (lbl i))) = some ("mark " ++ lbl i) := fstep_str _ _ (by rw [len_mark]; omega)
      unfold slots sto at B2 ⊢
      simp -dsimp only [Ir.then_val, Ir.optA_some, Ir.boolA_t, Ir.boolA_f, Ir.seqA_next, Ir.seqA_ret, Ir.wp_val_, Ir.v_var, Ir.v_cst, Ir.v_bin, Ir.v_cmp, Ir.v_chain, Ir.v_and, Ir.v_or, Ir.v_not, Ir.v_ifx, Ir.v_neg, Ir.v_call, Ir.v_tup, Ir.v_lst, Ir.v_idx, Ir.v_idxL, Ir.v_slice, Ir.v_strOf, Ir.v_join, Ir.v_extend, Ir.v_append, Ir.v_len, Ir.v_isi, Ir.v_toInt, Ir.v_all, Ir.v_tupOf, Ir.v_dictOf, Ir.v_dlit, Ir.v_dget3, Ir.v_eqL, Ir.v_op1, Ir.v_op2, Ir.v_fstr, Ir.f_nil, Ir.f_cons, Ir.a_nil', Ir.a_cons', Ir.a_star', Ir.l_disp', Ir.l_of', Ir.l_cat', Ir.l_cut', Ir.b_no', Ir.b_at', Ir.i_tup', Ir.i_lst', Ir.i_str', Ir.i_rng', Ir.ss_nil', Ir.ss_asg, Ir.ss_expr, Ir.ss_ret, Ir.ss_unp, Ir.ss_ite, Ir.ss_setI, Ir.ss_for, Ir.finA_p, Ir.strD_str, Ir.ofD_tup, Ir.dicAt_eq, Ir.lstAt_eq, Ir.dget3_str, Ir.dixD_int, Ir.srcLst_eq, Ir.ofD_ref, Ir.tupD_ref, Ir.lenD_ref, Ir.lenD_tup, Ir.getI_ref, Ir.lsA_lst, Ir.ifA_t, Ir.appD_eq, Ir.extD_eq, Ir.catD_eq, Ir.rb_p, decide_true, decide_false, Bool.true_and, Bool.and_true, Ir.atA_no, Ir.atA_go, Ir.contA_next, Ir.contA_ret, Ir.size_fix, Ir.size_dyn, Ir.at_fix, Ir.at_dyn, Ir.turn_one, List.length_map, List.getElem?_nil, Ir.tgt, Ir.setAll, Bool.false_eq_true, List.set_nil, List.getElem?_cons_zero, List.getElem?_cons_succ, List.set_cons_zero, List.set_cons_succ, List.map_cons, List.map_nil, List.length_cons, List.length_nil, List.replicate_succ, List.replicate_zero, List.cons_append, List.nil_append, Option.map_some, Option.bind_some, Ir.app_get, Ir.app_get0, Ir.app_set, Ir.app_set0, Ir.app_take, Ir.app_one, Ir.len_app, Nat.reduceAdd, Nat.reduceSub, Nat.reduceLeDiff, if_true, if_false, cop_in, in_int, hv, ht, Option.isSome_none, in_ints, he, hE, f1, f2, label_ok (k + 1) _ sm, hz2, mz]
      exact B2
    · have hE2 : w.isEnd i = false := by simpa using hE
      have e2 : w.lineA i = [] := by unfold Way.lineA; rw [ht]; simp [hE2]
      rw [e2, List.append_nil] at B2 ⊢
      unfold slots sto at B2 ⊢
      simp -dsimp only [Ir.then_val, Ir.optA_some, Ir.boolA_t, Ir.boolA_f, Ir.seqA_next, Ir.seqA_ret, Ir.wp_val_, Ir.v_var, Ir.v_cst, Ir.v_bin, Ir.v_cmp, Ir.v_chain, Ir.v_and, Ir.v_or, Ir.v_not, Ir.v_ifx, Ir.v_neg, Ir.v_call, Ir.v_tup, Ir.v_lst, Ir.v_idx, Ir.v_idxL, Ir.v_slice, Ir.v_strOf, Ir.v_join, Ir.v_extend, Ir.v_append, Ir.v_len, Ir.v_isi, Ir.v_toInt, Ir.v_all, Ir.v_tupOf, Ir.v_dictOf, Ir.v_dlit, Ir.v_dget3, Ir.v_eqL, Ir.v_op1, Ir.v_op2, Ir.v_fstr, Ir.f_nil, Ir.f_cons, Ir.a_nil', Ir.a_cons', Ir.a_star', Ir.l_disp', Ir.l_of', Ir.l_cat', Ir.l_cut', Ir.b_no', Ir.b_at', Ir.i_tup', Ir.i_lst', Ir.i_str', Ir.i_rng', Ir.ss_nil', Ir.ss_asg, Ir.ss_expr, Ir.ss_ret, Ir.ss_unp, Ir.ss_ite, Ir.ss_setI, Ir.ss_for, Ir.finA_p, Ir.strD_str, Ir.ofD_tup, Ir.dicAt_eq, Ir.lstAt_eq, Ir.dget3_str, Ir.dixD_int, Ir.srcLst_eq, Ir.ofD_ref, Ir.tupD_ref, Ir.lenD_ref, Ir.lenD_tup, Ir.getI_ref, Ir.lsA_lst, Ir.ifA_t, Ir.appD_eq, Ir.extD_eq, Ir.catD_eq, Ir.rb_p, decide_true, decide_false, Bool.true_and, Bool.and_true, Ir.atA_no, Ir.atA_go, Ir.contA_next, Ir.contA_ret, Ir.size_fix, Ir.size_dyn, Ir.at_fix, Ir.at_dyn, Ir.turn_one, List.length_map, List.getElem?_nil, Ir.tgt, Ir.setAll, Bool.false_eq_true, List.set_nil, List.getElem?_cons_zero, List.getElem?_cons_succ, List.set_cons_zero, List.set_cons_succ, List.map_cons, List.map_nil, List.length_cons, List.length_nil, List.replicate_succ, List.replicate_zero, List.cons_append, List.nil_append, Option.map_some, Option.bind_some, Ir.app_get, Ir.app_get0, Ir.app_set, Ir.app_set0, Ir.app_take, Ir.app_one, Ir.len_app, Nat.reduceAdd, Nat.reduceSub, Nat.reduceLeDiff, if_true, if_false, cop_in, in_int, hv, ht, Option.isSome_none, in_ints, he, hE2]
      exact B2
end Ir.K04
set_option Elab.async false
set_option linter.all false
set_option maxRecDepth 100000
set_option maxHeartbeats 1000000
namespace Ir.K04
open PySem
theorem finA_ref0 {n j : Nat} {ρ : Sl} {S T : Sto} {zs : List Str} (hn : S.length = n) (hT : T[j]? = some (.lst (zs.map fz))) : finA n (.val (.ret (.ref (n + j)), ρ) (S ++ T)) = .val (.ref n) (S ++ [.lst (zs.map fz)]) := by
  subst hn
  show fix S.length (.ref (S.length + j)) (S ++ T) = _
  unfold fix
  have h1 : ¬ (S.length + j < S.length) := by omega
  have h2 : rbO S.length (.lst (zs.map fz)) = true := all_fz _ _
  simp only [h1, if_false, app_get, hT, h2, if_true, app_take]
theorem finA_ref1 {n : Nat} {ρ : Sl} {S T : Sto} {zs : List Str} (hn : S.length = n) (hT : T[0]? = some (.lst (zs.map fz))) : finA n (.val (.ret (.ref n), ρ) (S ++ T)) = .val (.ref n) (S ++ [.lst (zs.map fz)]) := finA_ref0 (j := 0) hn hT
theorem waylines_ok (k : Nat) {w : Way} (h : w.Ok) (S : Sto) : calK fs (k + 3) 5 [.p w.py] S = .val (.ref S.length) (S ++ [.lst ((w.lines (w.rows.length + 1)).map fz)]) := by
  rw [c5, callA S rfl]
  unfold b5
  have hl := h.rl
  have s1 : sliceD (.p w.py) (some 3) none = some (.p (.tuple [.tuple w.rows, .tuple (w.es.map enPy), .tuple (w.cs.map Ct.py)])) := cut3 ..
  have s2 : sliceD (.p w.py) none (some 3) = some (.p (.tuple [.str w.n, .tuple (w.ts.map .str), .str w.g])) := head3 ..
  have a1 := allocD S w.kv (rb_kv h _)
  have e1 := ends_ok (calK fs (k + 2)) w.cs h.cl (some (.p w.py)) (some (.p (.tuple w.rows))) (some (.p (.tuple (w.es.map enPy)))) none (some (.ref S.length)) none none (S ++ [.dic w.kv]) none none none none
  have a2 := allocL (S ++ [.dic w.kv]) ((endsN w.cs).map fi) (by
    rw [List.all_eq_true]
    intro x hx
    obtain ⟨z, _, rfl⟩ := List.mem_map.mp hx
    rfl)
  have a3 := allocL (S ++ [.dic w.kv, .lst ((endsN w.cs).map fi)]) [.p (.str (sigS w.n w.ts w.g))] rfl
  have o1 : (1 : Nat) ≤ 100000 := by omega
  have cL : evL (calK fs (k + 2)) (.lc (.tup (.var 3)) [10, 11, 7] false (.fstr (.cons (.cst (.p (.str "catch "))) (.cons (.call 6 (.cons (.var 10) .nil)) (.cons (.cst (.p (.str " "))) (.cons (.call 6 (.cons (.var 11) .nil)) (.cons (.cst (.p (.str " "))) (.cons (.call 6 (.cons (.var 7) .nil)) .nil))))))))
      (slots w S.length none none) (S ++ [.dic w.kv, .lst ((endsN w.cs).map fi), .lst [.p (.str (sigS w.n w.ts w.g))]]) = .val ((w.cs.map catS).map fz) (S ++ [.dic w.kv, .lst ((endsN w.cs).map fi), .lst [.p (.str (sigS w.n w.ts w.g))]]) := by
    have : (w.cs.map catS).map fz = ((w.cs.map Ct.py).map D.p).map fun d => match d with | .p (.tuple [.int a, .int b, .int c]) => fz (catS ⟨a, b, c⟩) | x => x := by
      simp [List.map_map]
    rw [this]
    refine l_lc_fix (by unfold slots; simp -dsimp only [Ir.then_val, Ir.optA_some, Ir.boolA_t, Ir.boolA_f, Ir.seqA_next, Ir.seqA_ret, Ir.wp_val_, Ir.v_var, Ir.v_cst, Ir.v_bin, Ir.v_cmp, Ir.v_chain, Ir.v_and, Ir.v_or, Ir.v_not, Ir.v_ifx, Ir.v_neg, Ir.v_call, Ir.v_tup, Ir.v_lst, Ir.v_idx, Ir.v_idxL, Ir.v_slice, Ir.v_strOf, Ir.v_join, Ir.v_extend, Ir.v_append, Ir.v_len, Ir.v_isi, Ir.v_toInt, Ir.v_all, Ir.v_tupOf, Ir.v_dictOf, Ir.v_dlit, Ir.v_dget3, Ir.v_eqL, Ir.v_op1, Ir.v_op2, Ir.v_fstr, Ir.f_nil, Ir.f_cons, Ir.a_nil', Ir.a_cons', Ir.a_star', Ir.l_disp', Ir.l_of', Ir.l_cat', Ir.l_cut', Ir.b_no', Ir.b_at', Ir.i_tup', Ir.i_lst', Ir.i_str', Ir.i_rng', Ir.ss_nil', Ir.ss_asg, Ir.ss_expr, Ir.ss_ret, Ir.ss_unp, Ir.ss_ite, Ir.ss_setI, Ir.ss_for, Ir.finA_p, Ir.strD_str, Ir.ofD_tup, Ir.dicAt_eq, Ir.lstAt_eq, Ir.dget3_str, Ir.dixD_int, Ir.srcLst_eq, Ir.ofD_ref, Ir.tupD_ref, Ir.lenD_ref, Ir.lenD_tup, Ir.getI_ref, Ir.lsA_lst, Ir.ifA_t, Ir.appD_eq, Ir.extD_eq, Ir.catD_eq, Ir.rb_p, decide_true, decide_false, Bool.true_and, Bool.and_true, Ir.atA_no, Ir.atA_go, Ir.contA_next, Ir.contA_ret, Ir.size_fix, Ir.size_dyn, Ir.at_fix, Ir.at_dyn, Ir.turn_one, List.length_map, List.getElem?_nil, Ir.tgt, Ir.setAll, Bool.false_eq_true, List.set_nil, List.getElem?_cons_zero, List.getElem?_cons_succ, List.set_cons_zero, List.set_cons_succ, List.map_cons, List.map_nil, List.length_cons, List.length_nil, List.replicate_succ, List.replicate_zero, List.cons_append, List.nil_append, Option.map_some, Option.bind_some, Ir.app_get, Ir.app_get0, Ir.app_set, Ir.app_set0, Ir.app_take, Ir.app_one, Ir.len_app, Nat.reduceAdd, Nat.reduceSub, Nat.reduceLeDiff, if_true, if_false, srcTup]) (by simp; have := h.cl; omega) fun d hd => ?_
    obtain ⟨p, hp, rfl⟩ := List.mem_map.mp hd
    obtain ⟨c, hc, rfl⟩ := List.mem_map.mp hp
    refine ⟨_, rfl, ?_⟩
    exact fmt_catch (k + 1) _ _ _ _ _ _ _ _ _ (.p .none) c (h.cs c hc) _
  have a4 := allocL (S ++ [.dic w.kv, .lst ((endsN w.cs).map fi), .lst [.p (.str (sigS w.n w.ts w.g))]]) ((w.cs.map catS).map fz) (all_fz _ _)
  have l0 : D.p (.str (sigS w.n w.ts w.g)) :: (w.cs.map catS).map fz = (w.lines 0).map fz := by
    unfold Way.lines
    simp
  have al : (((w.cs.map catS).map fz).all (rb (S.length + 2))) = true := all_fz _ _
  have hc4 : decide (1 + w.cs.length ≤ 100000) = true := decide_eq_true (by have := h.cl; omega)
  have rn : srcRng (.p (.int ((w.rows.length : Int) + 1))) = some (.fix ((List.range (w.rows.length + 1)).map fun (i : Nat) => .p (.int (i : Int)))) := srcRng_nat (w.rows.length + 1) (by omega)
  have loop := for_seq (ds := (List.range (w.rows.length + 1)).map fun (i : Nat) => D.p (.int (i : Int))) (body := turn (calK fs (k + 2)) [7] true stepB)
    (fun i => slots w S.length (if i = 0 then none else some (fi ((i - 1 : Nat) : Int))) none) (fun i => sto w S (w.lines i)) (fun i d hd => by
      obtain ⟨j, hj, rfl⟩ := (show ∃ j, (List.range (w.rows.length + 1))[i]? = some j ∧ D.p (.int (j : Int)) = d by
        rw [List.getElem?_map] at hd
        exact Option.map_eq_some_iff.mp hd)
      obtain ⟨hi, e⟩ := List.getElem?_eq_some_iff.mp hj
      rw [List.getElem_range] at e
      subst e
      rw [List.length_range] at hi
      rw [turn_one]
      have e2 : (slots w S.length (if i = 0 then none else some (fi ((i - 1 : Nat) : Int))) none).set 7 (some (D.p (.int (i : Int)))) = slots w S.length (some (fi i)) none := rfl
      rw [e2, turn_ok k h i (by omega) (w.lines i) (by have := lines_le h i; omega) none]
      rw [← lines_succ]
      rfl) (w.rows.length + 1) 0 (by simp)
  have loop0 : forGo (Src.fix ((List.range (w.rows.length + 1)).map fun (i : Nat) => D.p (.int (i : Int)))) (turn (calK fs (k + 2)) [7] true stepB) (w.rows.length + 1) 0 (slots w S.length none none) (sto w S (w.lines 0)) =
      .val (.next, slots w S.length (some (fi ((w.rows.length : Nat) : Int))) none) (sto w S (w.lines (w.rows.length + 1))) := by
    simp only [if_true, List.length_map, List.length_range, Nat.add_eq_zero_iff, Nat.one_ne_zero, and_false, if_false, Nat.add_sub_cancel] at loop
    exact loop
  unfold slots at cL
  simp -dsimp only [Ir.then_val, Ir.optA_some, Ir.boolA_t, Ir.boolA_f, Ir.seqA_next, Ir.seqA_ret, Ir.wp_val_, Ir.v_var, Ir.v_cst, Ir.v_bin, Ir.v_cmp, Ir.v_chain, Ir.v_and, Ir.v_or, Ir.v_not, Ir.v_ifx, Ir.v_neg, Ir.v_call, Ir.v_tup, Ir.v_lst, Ir.v_idx, Ir.v_idxL, Ir.v_slice, Ir.v_strOf, Ir.v_join, Ir.v_extend, Ir.v_append, Ir.v_len, Ir.v_isi, Ir.v_toInt, Ir.v_all, Ir.v_tupOf, Ir.v_dictOf, Ir.v_dlit, Ir.v_dget3, Ir.v_eqL, Ir.v_op1, Ir.v_op2, Ir.v_fstr, Ir.f_nil, Ir.f_cons, Ir.a_nil', Ir.a_cons', Ir.a_star', Ir.l_disp', Ir.l_of', Ir.l_cat', Ir.l_cut', Ir.b_no', Ir.b_at', Ir.i_tup', Ir.i_lst', Ir.i_str', Ir.i_rng', Ir.ss_nil', Ir.ss_asg, Ir.ss_expr, Ir.ss_ret, Ir.ss_unp, Ir.ss_ite, Ir.ss_setI, Ir.ss_for, Ir.finA_p, Ir.strD_str, Ir.ofD_tup, Ir.dicAt_eq, Ir.lstAt_eq, Ir.dget3_str, Ir.dixD_int, Ir.srcLst_eq, Ir.ofD_ref, Ir.tupD_ref, Ir.lenD_ref, Ir.lenD_tup, Ir.getI_ref, Ir.lsA_lst, Ir.ifA_t, Ir.appD_eq, Ir.extD_eq, Ir.catD_eq, Ir.rb_p, decide_true, decide_false, Bool.true_and, Bool.and_true, Ir.atA_no, Ir.atA_go, Ir.contA_next, Ir.contA_ret, Ir.size_fix, Ir.size_dyn, Ir.at_fix, Ir.at_dyn, Ir.turn_one, List.length_map, List.getElem?_nil, Ir.tgt, Ir.setAll, Bool.false_eq_true, List.set_nil, List.getElem?_cons_zero, List.getElem?_cons_succ, List.set_cons_zero, List.set_cons_succ, List.map_cons, List.map_nil, List.length_cons, List.length_nil, List.replicate_succ, List.replicate_zero, List.cons_append, List.nil_append, Option.map_some, Option.bind_some, Ir.app_get, Ir.app_get0, Ir.app_set, Ir.app_set0, Ir.app_take, Ir.app_one, Ir.len_app, Nat.reduceAdd, Nat.reduceSub, Nat.reduceLeDiff, if_true, if_false, s1, dict_ok h, a1, e1, a2, s2, sign_ok (k + 1) h.n h.ts h.tl h.g, a3, o1, cL, a4, al, hc4, l0, bop_add, rn, List.length_range]
  change finA S.length (seqA (forGo (Src.fix _) (turn (calK fs (k + 2)) [7] true stepB) _ _ (slots w S.length none none) (sto w S (w.lines 0))) _) = _
  rw [loop0]
  unfold slots sto
  simp -dsimp only [Ir.then_val, Ir.optA_some, Ir.boolA_t, Ir.boolA_f, Ir.seqA_next, Ir.seqA_ret, Ir.wp_val_, Ir.v_var, Ir.v_cst, Ir.v_bin, Ir.v_cmp, Ir.v_chain, Ir.v_and, Ir.v_or, Ir.v_not, Ir.v_ifx, Ir.v_neg, Ir.v_call, Ir.v_tup, Ir.v_lst, Ir.v_idx, Ir.v_idxL, Ir.v_slice, Ir.v_strOf, Ir.v_join, Ir.v_extend, Ir.v_append, Ir.v_len, Ir.v_isi, Ir.v_toInt, Ir.v_all, Ir.v_tupOf, Ir.v_dictOf, Ir.v_dlit, Ir.v_dget3, Ir.v_eqL, Ir.v_op1, Ir.v_op2, Ir.v_fstr, Ir.f_nil, Ir.f_cons, Ir.a_nil', Ir.a_cons', Ir.a_star', Ir.l_disp', Ir.l_of', Ir.l_cat', Ir.l_cut', Ir.b_no', Ir.b_at', Ir.i_tup', Ir.i_lst', Ir.i_str', Ir.i_rng', Ir.ss_nil', Ir.ss_asg, Ir.ss_expr, Ir.ss_ret, Ir.ss_unp, Ir.ss_ite, Ir.ss_setI, Ir.ss_for, Ir.finA_p, Ir.strD_str, Ir.ofD_tup, Ir.dicAt_eq, Ir.lstAt_eq, Ir.dget3_str, Ir.dixD_int, Ir.srcLst_eq, Ir.ofD_ref, Ir.tupD_ref, Ir.lenD_ref, Ir.lenD_tup, Ir.getI_ref, Ir.lsA_lst, Ir.ifA_t, Ir.appD_eq, Ir.extD_eq, Ir.catD_eq, Ir.rb_p, decide_true, decide_false, Bool.true_and, Bool.and_true, Ir.atA_no, Ir.atA_go, Ir.contA_next, Ir.contA_ret, Ir.size_fix, Ir.size_dyn, Ir.at_fix, Ir.at_dyn, Ir.turn_one, List.length_map, List.getElem?_nil, Ir.tgt, Ir.setAll, Bool.false_eq_true, List.set_nil, List.getElem?_cons_zero, List.getElem?_cons_succ, List.set_cons_zero, List.set_cons_succ, List.map_cons, List.map_nil, List.length_cons, List.length_nil, List.replicate_succ, List.replicate_zero, List.cons_append, List.nil_append, Option.map_some, Option.bind_some, Ir.app_get, Ir.app_get0, Ir.app_set, Ir.app_set0, Ir.app_take, Ir.app_one, Ir.len_app, Nat.reduceAdd, Nat.reduceSub, Nat.reduceLeDiff, if_true, if_false, seqA_next]
  exact finA_ref0 (j := 2) rfl rfl
end Ir.K04
set_option Elab.async false
set_option linter.all false
set_option maxRecDepth 100000
set_option maxHeartbeats 1000000
namespace Ir.K04
open PySem
theorem bop_str (x y : Str) (h : x.length + y.length ≤ 16777216) : bop .add (.p (.str x)) (.p (.str y)) = some (.p (.str (x ++ y))) := by
  show (if x.length + y.length ≤ sizeLine then some (D.p (.str (x ++ y))) else none) = _
  rw [if_pos (by rw [sizeLine_eq]; exact h)]
theorem strOf_int {i : Int} (h : Sm i) : strOfD (.p (.int i)) = some (.p (.str (numS i))) := strOf_ok (.int i h)
theorem atI_last (d : PyData) (ps : List PyData) : L2.atI (d :: ps) (-1) = (d :: ps)[ps.length]? := by
  have h : (1 : Int) ≤ (ps.length : Int) + 1 := by omega
  have e : (-1 + ((ps.length : Int) + 1)).toNat = ps.length := by omega
  simp [L2.atI, L2.ixN, h, e]
theorem getLast_ok (S : Sto) (d : PyData) (ps : List PyData) : getI S (.p (.tuple (d :: ps))) (.p (.int (-1))) = (d :: ps)[ps.length]?.map .p := by
  show Option.map _ (L2.atI (d :: ps) (-1)) = _
  rw [atI_last]
def lastS : PyData → Str
  | .tuple (d :: ps) => match (d :: ps)[ps.length]? with
    | some p => "r" ++ ptxt p
    | none => Str.empty
  | _ => Str.empty
theorem rowlast {d : PyData} (h : RowOk d) : ∃ p, (∀ S, getI S (.p d) (.p (.int (-1))) = some (.p p)) ∧ PartOk p ∧ (∀ w r, d = .tuple [.str w, .int r] → p = .int r) := by
  cases h with
  | lead w r hw hr => exact ⟨.int r, fun S => by rw [getLast_ok]; rfl, .int r hr, fun w' r' e => by cases e; rfl⟩
  | plain w ps h1 h2 h3 h4 h5 =>
    have hlt : ps.length < (PyData.str w :: ps).length := by simp
    refine ⟨(PyData.str w :: ps)[ps.length], fun S => by rw [getLast_ok, List.getElem?_eq_getElem hlt]; rfl, ?_, fun w' r' e => ?_⟩
    · have hm := List.getElem_mem hlt
      rcases List.mem_cons.mp hm with e | e
      · rw [e]; exact .str w h3
      · exact h4 _ e
    · cases e; rfl
theorem lawrow2 (k : Nat) {d : PyData} (h : RowOk d) {p : PyData} (hp : PartOk p) (hl : ∀ w r, d = .tuple [.str w, .int r] → p = .int r) (S : Sto) : calK fs (k + 2) 19 [.p d, .p (.str ("r" ++ ptxt p))] S = .val (.p (.str (rowS d))) S := by
  have hlab : (("r" : Str) ++ ptxt p).length ≤ 2000 := by have := ptxt_len hp; rw [str_len, len_r]; omega
  cases h with
  | lead w r hw hr =>
    rw [lawrow_ok k (by rcases hw with rfl | rfl <;> decide +kernel) (fun q hq => by rw [List.mem_singleton] at hq; subst hq; exact .int r hr) (by simp) _ hlab, hl w r rfl]
    show _ = Out.val (D.p (.str (if w = "jump" ∨ w = "nought" then w ++ " " ++ lbl r else _))) S
    rw [if_pos hw, if_pos hw]
    rfl
  | plain w ps h1 h2 h3 h4 h5 =>
    rw [lawrow_ok k h3 h4 h5 _ hlab]
    have e : ¬ (w = "jump" ∨ w = "nought") := fun h => h.elim h1 h2
    show _ = Out.val (D.p (.str (if w = "jump" ∨ w = "nought" then _ else _))) S
    rw [if_neg e, if_neg e]
def spotsN (cs : List Ct) : List Int := cs.map Ct.f ++ cs.map Ct.t
theorem spotsN_any (cs : List Ct) (i : Int) : ((spotsN cs).any fun n => decide (n = i)) = cs.any fun c => decide (c.f = i) || decide (c.t = i) := by
  unfold spotsN
  rw [List.any_append, List.any_map, List.any_map]
  induction cs with
  | nil => rfl
  | cons c cs ih =>
    simp only [List.any_cons, Function.comp] at ih ⊢
    rw [← ih]
    cases decide (c.f = i) <;> cases decide (c.t = i) <;> simp
def slots2 (w : Way) (n : Nat) (x y z : Option D) : Sl := [some (.p w.py), some (.ref n), some (.ref (n + 3)), some (.ref (n + 4)), x, y, z]
def sto2 (w : Way) (S : Sto) (zs : List Str) (J : Sto) : Sto := S ++ (.dic w.kv :: .lst ((w.cs.map Ct.f).map fi) :: .lst ((w.cs.map Ct.t).map fi) :: .lst ((spotsN w.cs).map fi) :: .lst (zs.map fz) :: J)
def stepL : Ss := match b22 with
  | .cons _ (.cons _ (.cons _ (.cons _ (.cons (.for_ _ _ _ b) _)))) => b
  | _ => .nil
def restL : Ss := match stepL with
  | .cons _ r => r
  | _ => .nil
theorem len_atr : ("at r" : Str).length = 4 := by decide +kernel
theorem len_markr : ("mark r" : Str).length = 6 := by decide +kernel
theorem str_atr : ("at r" : Str) = "at " ++ "r" := by kernel_rfl
theorem str_markr : ("mark r" : Str) = "mark " ++ "r" := by kernel_rfl
theorem get3 (S : Sto) (a b c d : PyData) (ps : List PyData) : getI S (.p (.tuple (a :: b :: c :: d :: ps))) (.p (.int 3)) = some (.p d) := getT S _ 3
theorem get4 (S : Sto) (a b c d e : PyData) (ps : List PyData) : getI S (.p (.tuple (a :: b :: c :: d :: e :: ps))) (.p (.int 4)) = some (.p e) := getT S _ 4
theorem get5 (S : Sto) (a b c d e f : PyData) (ps : List PyData) : getI S (.p (.tuple (a :: b :: c :: d :: e :: f :: ps))) (.p (.int 5)) = some (.p f) := getT S _ 5
theorem turnL_ok (k : Nat) {w : Way} (h : w.Ok) (i : Nat) (hi : i ≤ w.rows.length) (zs : List Str) (hz : zs.length ≤ 1000) (y z : Option D) (J S : Sto) :
    exSs (calK fs (k + 2)) stepL (slots2 w S.length (some (fi i)) y z) (sto2 w S zs J) = .val (.next, slots2 w S.length (some (fi i)) y z) (sto2 w S (zs ++ w.line i) J) := by
  have hl := h.rl
  have sm := sm_nat i (by omega)
  have ln := sm.ln
  have p3 : ∀ S, getI S (.p w.py) (.p (.int 3)) = some (.p (.tuple w.rows)) := fun S => get3 ..
  have B : ∀ zs : List Str, zs.length ≤ 2000 → exSs (calK fs (k + 2)) restL (slots2 w S.length (some (fi i)) y z) (sto2 w S zs J) =
      .val (.next, slots2 w S.length (some (fi i)) y z) (sto2 w S (zs ++ w.lineB i) J) := fun zs hz => by
    have mz : ∀ z : Str, zs.map fz ++ [D.p (.str z)] = (zs ++ [z]).map fz := fun z => by rw [List.map_append]; rfl
    have hz2 : decide (zs.length < 100000) = true := decide_eq_true (by omega)
    show exSs (calK fs (k + 2)) (.cons (.ite (.cmp .lt (.var 4) _) _ _) .nil) _ _ = _
    unfold slots2 sto2
    by_cases hr : i < w.rows.length
    · have e0 : w.rows[i]? = some w.rows[i] := List.getElem?_eq_getElem hr
      have e1 : decide ((i : Int) < (w.rows.length : Int)) = true := decide_eq_true (by omega)
      have e2 : w.lineB i = [rowS w.rows[i]] := by unfold Way.lineB; rw [e0]
      have hro := h.rows _ (List.getElem_mem hr)
      obtain ⟨p, hp1, hp2, hp3⟩ := rowlast hro
      have hb := bop_str "r" (ptxt p) (by have := ptxt_len hp2; rw [len_r]; omega)
      rw [e2]
      simp -dsimp only [Ir.then_val, Ir.optA_some, Ir.boolA_t, Ir.boolA_f, Ir.seqA_next, Ir.seqA_ret, Ir.wp_val_, Ir.v_var, Ir.v_cst, Ir.v_bin, Ir.v_cmp, Ir.v_chain, Ir.v_and, Ir.v_or, Ir.v_not, Ir.v_ifx, Ir.v_neg, Ir.v_call, Ir.v_tup, Ir.v_lst, Ir.v_idx, Ir.v_idxL, Ir.v_slice, Ir.v_strOf, Ir.v_join, Ir.v_extend, Ir.v_append, Ir.v_len, Ir.v_isi, Ir.v_toInt, Ir.v_all, Ir.v_tupOf, Ir.v_dictOf, Ir.v_dlit, Ir.v_dget3, Ir.v_eqL, Ir.v_op1, Ir.v_op2, Ir.v_fstr, Ir.f_nil, Ir.f_cons, Ir.a_nil', Ir.a_cons', Ir.a_star', Ir.l_disp', Ir.l_of', Ir.l_cat', Ir.l_cut', Ir.b_no', Ir.b_at', Ir.i_tup', Ir.i_lst', Ir.i_str', Ir.i_rng', Ir.ss_nil', Ir.ss_asg, Ir.ss_expr, Ir.ss_ret, Ir.ss_unp, Ir.ss_ite, Ir.ss_setI, Ir.ss_for, Ir.finA_p, Ir.strD_str, Ir.ofD_tup, Ir.dicAt_eq, Ir.lstAt_eq, Ir.dget3_str, Ir.dixD_int, Ir.srcLst_eq, Ir.ofD_ref, Ir.tupD_ref, Ir.lenD_ref, Ir.lenD_tup, Ir.getI_ref, Ir.lsA_lst, Ir.ifA_t, Ir.appD_eq, Ir.extD_eq, Ir.catD_eq, Ir.rb_p, decide_true, decide_false, Bool.true_and, Bool.and_true, Ir.atA_no, Ir.atA_go, Ir.contA_next, Ir.contA_ret, Ir.size_fix, Ir.size_dyn, Ir.at_fix, Ir.at_dyn, Ir.turn_one, List.length_map, List.getElem?_nil, Ir.tgt, Ir.setAll, Bool.false_eq_true, List.set_nil, List.getElem?_cons_zero, List.getElem?_cons_succ, List.set_cons_zero, List.set_cons_succ, List.map_cons, List.map_nil, List.length_cons, List.length_nil, List.replicate_succ, List.replicate_zero, List.cons_append, List.nil_append, Option.map_some, Option.bind_some, Ir.app_get, Ir.app_get0, Ir.app_set, Ir.app_set0, Ir.app_take, Ir.app_one, Ir.len_app, Nat.reduceAdd, Nat.reduceSub, Nat.reduceLeDiff, if_true, if_false, cop_lt, p3, e1, getT, e0, asInt, hp1, strOf_ok hp2, hb, lawrow2 k hro hp2 hp3, hz2, mz]
    · have e0 : w.rows[i]? = none := List.getElem?_eq_none_iff.mpr (by omega)
      have e1 : decide ((i : Int) < (w.rows.length : Int)) = false := decide_eq_false (by omega)
      have e2 : w.lineB i = [] := by unfold Way.lineB; rw [e0]
      rw [e2, List.append_nil]
      simp -dsimp only [Ir.then_val, Ir.optA_some, Ir.boolA_t, Ir.boolA_f, Ir.seqA_next, Ir.seqA_ret, Ir.wp_val_, Ir.v_var, Ir.v_cst, Ir.v_bin, Ir.v_cmp, Ir.v_chain, Ir.v_and, Ir.v_or, Ir.v_not, Ir.v_ifx, Ir.v_neg, Ir.v_call, Ir.v_tup, Ir.v_lst, Ir.v_idx, Ir.v_idxL, Ir.v_slice, Ir.v_strOf, Ir.v_join, Ir.v_extend, Ir.v_append, Ir.v_len, Ir.v_isi, Ir.v_toInt, Ir.v_all, Ir.v_tupOf, Ir.v_dictOf, Ir.v_dlit, Ir.v_dget3, Ir.v_eqL, Ir.v_op1, Ir.v_op2, Ir.v_fstr, Ir.f_nil, Ir.f_cons, Ir.a_nil', Ir.a_cons', Ir.a_star', Ir.l_disp', Ir.l_of', Ir.l_cat', Ir.l_cut', Ir.b_no', Ir.b_at', Ir.i_tup', Ir.i_lst', Ir.i_str', Ir.i_rng', Ir.ss_nil', Ir.ss_asg, Ir.ss_expr, Ir.ss_ret, Ir.ss_unp, Ir.ss_ite, Ir.ss_setI, Ir.ss_for, Ir.finA_p, Ir.strD_str, Ir.ofD_tup, Ir.dicAt_eq, Ir.lstAt_eq, Ir.dget3_str, Ir.dixD_int, Ir.srcLst_eq, Ir.ofD_ref, Ir.tupD_ref, Ir.lenD_ref, Ir.lenD_tup, Ir.getI_ref, Ir.lsA_lst, Ir.ifA_t, Ir.appD_eq, Ir.extD_eq, Ir.catD_eq, Ir.rb_p, decide_true, decide_false, Bool.true_and, Bool.and_true, Ir.atA_no, Ir.atA_go, Ir.contA_next, Ir.contA_ret, Ir.size_fix, Ir.size_dyn, Ir.at_fix, Ir.at_dyn, Ir.turn_one, List.length_map, List.getElem?_nil, Ir.tgt, Ir.setAll, Bool.false_eq_true, List.set_nil, List.getElem?_cons_zero, List.getElem?_cons_succ, List.set_cons_zero, List.set_cons_succ, List.map_cons, List.map_nil, List.length_cons, List.length_nil, List.replicate_succ, List.replicate_zero, List.cons_append, List.nil_append, Option.map_some, Option.bind_some, Ir.app_get, Ir.app_get0, Ir.app_set, Ir.app_set0, Ir.app_take, Ir.app_one, Ir.len_app, Nat.reduceAdd, Nat.reduceSub, Nat.reduceLeDiff, if_true, if_false, cop_lt, p3, e1]
  have hz2 : decide (zs.length < 100000) = true := decide_eq_true (by omega)
  have mz : ∀ z : Str, zs.map fz ++ [D.p (.str z)] = (zs ++ [z]).map fz := fun z => by rw [List.map_append]; rfl
  show exSs (calK fs (k + 2)) (.cons (.ite (.cmp .in_ (.var 4) (.var 1)) _ _) restL) _ _ = _
  unfold Way.line
  rw [← List.append_assoc]
  have le : (w.lineA i).length ≤ 1 := by unfold Way.lineA; split <;> (try split) <;> simp
  have B2 := B (zs ++ w.lineA i) (by rw [List.length_append]; omega)
  have hv : valD w.kv (.inl (i : Int)) = w.hts i := rfl
  have he : ((spotsN w.cs).any fun n => decide (n = (i : Int))) = w.isEnd i := spotsN_any _ _
  cases ht : w.hts i with
  | some d =>
    obtain ⟨q, rfl, hq⟩ := hts_int h ht
    have hqn := hq.ln
    have e2 : w.lineA i = ["at r" ++ numS i ++ " " ++ numS q] := by
      unfold Way.lineA; rw [ht]
      show ["at " ++ lbl i ++ " " ++ numS q] = _
      unfold lbl
      rw [str_atr]
      simp only [str_assoc]
    rw [e2] at B2 ⊢
    have f1 := bop_str "at r" (numS i) (by rw [len_atr]; omega)
    have f2 := bop_str ("at r" ++ numS i) " " (by simp only [str_len, len_atr, len_b]; omega)
    have f3 := bop_str ("at r" ++ numS i ++ " ") (numS q) (by simp only [str_len, len_atr, len_b]; omega)
    unfold slots2 sto2 fi at B2 ⊢
    simp -dsimp only [Ir.then_val, Ir.optA_some, Ir.boolA_t, Ir.boolA_f, Ir.seqA_next, Ir.seqA_ret, Ir.wp_val_, Ir.v_var, Ir.v_cst, Ir.v_bin, Ir.v_cmp, Ir.v_chain, Ir.v_and, Ir.v_or, Ir.v_not, Ir.v_ifx, Ir.v_neg, Ir.v_call, Ir.v_tup, Ir.v_lst, Ir.v_idx, Ir.v_idxL, Ir.v_slice, Ir.v_strOf, Ir.v_join, Ir.v_extend, Ir.v_append, Ir.v_len, Ir.v_isi, Ir.v_toInt, Ir.v_all, Ir.v_tupOf, Ir.v_dictOf, Ir.v_dlit, Ir.v_dget3, Ir.v_eqL, Ir.v_op1, Ir.v_op2, Ir.v_fstr, Ir.f_nil, Ir.f_cons, Ir.a_nil', Ir.a_cons', Ir.a_star', Ir.l_disp', Ir.l_of', Ir.l_cat', Ir.l_cut', Ir.b_no', Ir.b_at', Ir.i_tup', Ir.i_lst', Ir.i_str', Ir.i_rng', Ir.ss_nil', Ir.ss_asg, Ir.ss_expr, Ir.ss_ret, Ir.ss_unp, Ir.ss_ite, Ir.ss_setI, Ir.ss_for, Ir.finA_p, Ir.strD_str, Ir.ofD_tup, Ir.dicAt_eq, Ir.lstAt_eq, Ir.dget3_str, Ir.dixD_int, Ir.srcLst_eq, Ir.ofD_ref, Ir.tupD_ref, Ir.lenD_ref, Ir.lenD_tup, Ir.getI_ref, Ir.lsA_lst, Ir.ifA_t, Ir.appD_eq, Ir.extD_eq, Ir.catD_eq, Ir.rb_p, decide_true, decide_false, Bool.true_and, Bool.and_true, Ir.atA_no, Ir.atA_go, Ir.contA_next, Ir.contA_ret, Ir.size_fix, Ir.size_dyn, Ir.at_fix, Ir.at_dyn, Ir.turn_one, List.length_map, List.getElem?_nil, Ir.tgt, Ir.setAll, Bool.false_eq_true, List.set_nil, List.getElem?_cons_zero, List.getElem?_cons_succ, List.set_cons_zero, List.set_cons_succ, List.map_cons, List.map_nil, List.length_cons, List.length_nil, List.replicate_succ, List.replicate_zero, List.cons_append, List.nil_append, Option.map_some, Option.bind_some, Ir.app_get, Ir.app_get0, Ir.app_set, Ir.app_set0, Ir.app_take, Ir.app_one, Ir.len_app, Nat.reduceAdd, Nat.reduceSub, Nat.reduceLeDiff, if_true, if_false, cop_in, in_int, hv, ht, Option.isSome_some, strOf_int sm, strOf_int hq, f1, f2, f3, hz2, mz]
    exact B2
  | none =>
    by_cases hE : w.isEnd i = true
    · have e2 : w.lineA i = ["mark r" ++ numS i] := by
        unfold Way.lineA; rw [ht]
        simp only [hE, if_true]
        unfold lbl
        rw [str_markr]
        simp only [str_assoc]
      rw [e2] at B2 ⊢
      have f1 := bop_str "mark r" (numS i) (by rw [len_markr]; omega)
      unfold slots2 sto2 at B2 ⊢
      simp -dsimp only [Ir.then_val, Ir.optA_some, Ir.boolA_t, Ir.boolA_f, Ir.seqA_next, Ir.seqA_ret, Ir.wp_val_, Ir.v_var, Ir.v_cst, Ir.v_bin, Ir.v_cmp, Ir.v_chain, Ir.v_and, Ir.v_or, Ir.v_not, Ir.v_ifx, Ir.v_neg, Ir.v_call, Ir.v_tup, Ir.v_lst, Ir.v_idx, Ir.v_idxL, Ir.v_slice, Ir.v_strOf, Ir.v_join, Ir.v_extend, Ir.v_append, Ir.v_len, Ir.v_isi, Ir.v_toInt, Ir.v_all, Ir.v_tupOf, Ir.v_dictOf, Ir.v_dlit, Ir.v_dget3, Ir.v_eqL, Ir.v_op1, Ir.v_op2, Ir.v_fstr, Ir.f_nil, Ir.f_cons, Ir.a_nil', Ir.a_cons', Ir.a_star', Ir.l_disp', Ir.l_of', Ir.l_cat', Ir.l_cut', Ir.b_no', Ir.b_at', Ir.i_tup', Ir.i_lst', Ir.i_str', Ir.i_rng', Ir.ss_nil', Ir.ss_asg, Ir.ss_expr, Ir.ss_ret, Ir.ss_unp, Ir.ss_ite, Ir.ss_setI, Ir.ss_for, Ir.finA_p, Ir.strD_str, Ir.ofD_tup, Ir.dicAt_eq, Ir.lstAt_eq, Ir.dget3_str, Ir.dixD_int, Ir.srcLst_eq, Ir.ofD_ref, Ir.tupD_ref, Ir.lenD_ref, Ir.lenD_tup, Ir.getI_ref, Ir.lsA_lst, Ir.ifA_t, Ir.appD_eq, Ir.extD_eq, Ir.catD_eq, Ir.rb_p, decide_true, decide_false, Bool.true_and, Bool.and_true, Ir.atA_no, Ir.atA_go, Ir.contA_next, Ir.contA_ret, Ir.size_fix, Ir.size_dyn, Ir.at_fix, Ir.at_dyn, Ir.turn_one, List.length_map, List.getElem?_nil, Ir.tgt, Ir.setAll, Bool.false_eq_true, List.set_nil, List.getElem?_cons_zero, List.getElem?_cons_succ, List.set_cons_zero, List.set_cons_succ, List.map_cons, List.map_nil, List.length_cons, List.length_nil, List.replicate_succ, List.replicate_zero, List.cons_append, List.nil_append, Option.map_some, Option.bind_some, Ir.app_get, Ir.app_get0, Ir.app_set, Ir.app_set0, Ir.app_take, Ir.app_one, Ir.len_app, Nat.reduceAdd, Nat.reduceSub, Nat.reduceLeDiff, if_true, if_false, cop_in, in_int, hv, ht, Option.isSome_none, in_ints, he, hE, strOf_int sm, f1, hz2, mz]
      exact B2
    · have hE2 : w.isEnd i = false := by simpa using hE
      have e2 : w.lineA i = [] := by unfold Way.lineA; rw [ht]; simp [hE2]
      rw [e2, List.append_nil] at B2 ⊢
      unfold slots2 sto2 at B2 ⊢
      simp -dsimp only [Ir.then_val, Ir.optA_some, Ir.boolA_t, Ir.boolA_f, Ir.seqA_next, Ir.seqA_ret, Ir.wp_val_, Ir.v_var, Ir.v_cst, Ir.v_bin, Ir.v_cmp, Ir.v_chain, Ir.v_and, Ir.v_or, Ir.v_not, Ir.v_ifx, Ir.v_neg, Ir.v_call, Ir.v_tup, Ir.v_lst, Ir.v_idx, Ir.v_idxL, Ir.v_slice, Ir.v_strOf, Ir.v_join, Ir.v_extend, Ir.v_append, Ir.v_len, Ir.v_isi, Ir.v_toInt, Ir.v_all, Ir.v_tupOf, Ir.v_dictOf, Ir.v_dlit, Ir.v_dget3, Ir.v_eqL, Ir.v_op1, Ir.v_op2, Ir.v_fstr, Ir.f_nil, Ir.f_cons, Ir.a_nil', Ir.a_cons', Ir.a_star', Ir.l_disp', Ir.l_of', Ir.l_cat', Ir.l_cut', Ir.b_no', Ir.b_at', Ir.i_tup', Ir.i_lst', Ir.i_str', Ir.i_rng', Ir.ss_nil', Ir.ss_asg, Ir.ss_expr, Ir.ss_ret, Ir.ss_unp, Ir.ss_ite, Ir.ss_setI, Ir.ss_for, Ir.finA_p, Ir.strD_str, Ir.ofD_tup, Ir.dicAt_eq, Ir.lstAt_eq, Ir.dget3_str, Ir.dixD_int, Ir.srcLst_eq, Ir.ofD_ref, Ir.tupD_ref, Ir.lenD_ref, Ir.lenD_tup, Ir.getI_ref, Ir.lsA_lst, Ir.ifA_t, Ir.appD_eq, Ir.extD_eq, Ir.catD_eq, Ir.rb_p, decide_true, decide_false, Bool.true_and, Bool.and_true, Ir.atA_no, Ir.atA_go, Ir.contA_next, Ir.contA_ret, Ir.size_fix, Ir.size_dyn, Ir.at_fix, Ir.at_dyn, Ir.turn_one, List.length_map, List.getElem?_nil, Ir.tgt, Ir.setAll, Bool.false_eq_true, List.set_nil, List.getElem?_cons_zero, List.getElem?_cons_succ, List.set_cons_zero, List.set_cons_succ, List.map_cons, List.map_nil, List.length_cons, List.length_nil, List.replicate_succ, List.replicate_zero, List.cons_append, List.nil_append, Option.map_some, Option.bind_some, Ir.app_get, Ir.app_get0, Ir.app_set, Ir.app_set0, Ir.app_take, Ir.app_one, Ir.len_app, Nat.reduceAdd, Nat.reduceSub, Nat.reduceLeDiff, if_true, if_false, cop_in, in_int, hv, ht, Option.isSome_none, in_ints, he, hE2]
      exact B2
end Ir.K04
set_option Elab.async false
set_option linter.all false
set_option maxRecDepth 100000
set_option maxHeartbeats 1000000
namespace Ir.K04
open PySem
theorem all_fi (n : Nat) (zs : List Int) : (zs.map fi).all (rb n) = true := by
  rw [List.all_eq_true]
  intro x hx
  obtain ⟨z, _, rfl⟩ := List.mem_map.mp hx
  rfl
theorem ext_new {S : Sto} {j : Nat} {ds es : List D} (h : S[j]? = some (.lst ds)) (he : es.all (rb j) = true) (hl : ds.length + es.length ≤ 100000) : extD (.ref j) (.ref S.length) (S ++ [.lst es]) = .val (.p .none) (S.set j (.lst (ds ++ es)) ++ [.lst es]) := by
  have hj : j < S.length := (List.getElem?_eq_some_iff.mp h).1
  rw [extD_ref (ds := ds) (es := es) (by rw [List.getElem?_append_left hj, h]) (by rw [List.getElem?_append_right (Nat.le_refl _)]; simp) he hl, List.set_append_left _ _ hj]
theorem inner_cat (cal : Nat → List D → M D) (a b c s4 e f : Option D) (q : Ct) (hq : Sm q.f ∧ Sm q.t ∧ Sm q.a) (S : Sto) :
    evL cal (.lc (.tup (.var 5)) [6] true (.bin .add (.cst (.p (.str "r"))) (.strOf (.var 6)))) [a, b, c, s4, e, some (.p q.py), f] S = .val ([lbl q.f, lbl q.t, lbl q.a].map fz) S := by
  have e0 : [lbl q.f, lbl q.t, lbl q.a].map fz = ([PyData.int q.f, .int q.t, .int q.a].map D.p).map fun d => match d with | .p (.int i) => fz (lbl i) | x => x := rfl
  rw [e0]
  refine l_lc_fix (by simp -dsimp only [Ir.then_val, Ir.optA_some, Ir.boolA_t, Ir.boolA_f, Ir.seqA_next, Ir.seqA_ret, Ir.wp_val_, Ir.v_var, Ir.v_cst, Ir.v_bin, Ir.v_cmp, Ir.v_chain, Ir.v_and, Ir.v_or, Ir.v_not, Ir.v_ifx, Ir.v_neg, Ir.v_call, Ir.v_tup, Ir.v_lst, Ir.v_idx, Ir.v_idxL, Ir.v_slice, Ir.v_strOf, Ir.v_join, Ir.v_extend, Ir.v_append, Ir.v_len, Ir.v_isi, Ir.v_toInt, Ir.v_all, Ir.v_tupOf, Ir.v_dictOf, Ir.v_dlit, Ir.v_dget3, Ir.v_eqL, Ir.v_op1, Ir.v_op2, Ir.v_fstr, Ir.f_nil, Ir.f_cons, Ir.a_nil', Ir.a_cons', Ir.a_star', Ir.l_disp', Ir.l_of', Ir.l_cat', Ir.l_cut', Ir.b_no', Ir.b_at', Ir.i_tup', Ir.i_lst', Ir.i_str', Ir.i_rng', Ir.ss_nil', Ir.ss_asg, Ir.ss_expr, Ir.ss_ret, Ir.ss_unp, Ir.ss_ite, Ir.ss_setI, Ir.ss_for, Ir.finA_p, Ir.strD_str, Ir.ofD_tup, Ir.dicAt_eq, Ir.lstAt_eq, Ir.dget3_str, Ir.dixD_int, Ir.srcLst_eq, Ir.ofD_ref, Ir.tupD_ref, Ir.lenD_ref, Ir.lenD_tup, Ir.getI_ref, Ir.lsA_lst, Ir.ifA_t, Ir.appD_eq, Ir.extD_eq, Ir.catD_eq, Ir.rb_p, decide_true, decide_false, Bool.true_and, Bool.and_true, Ir.atA_no, Ir.atA_go, Ir.contA_next, Ir.contA_ret, Ir.size_fix, Ir.size_dyn, Ir.at_fix, Ir.at_dyn, Ir.turn_one, List.length_map, List.getElem?_nil, Ir.tgt, Ir.setAll, Bool.false_eq_true, List.set_nil, List.getElem?_cons_zero, List.getElem?_cons_succ, List.set_cons_zero, List.set_cons_succ, List.map_cons, List.map_nil, List.length_cons, List.length_nil, List.replicate_succ, List.replicate_zero, List.cons_append, List.nil_append, Option.map_some, Option.bind_some, Ir.app_get, Ir.app_get0, Ir.app_set, Ir.app_set0, Ir.app_take, Ir.app_one, Ir.len_app, Nat.reduceAdd, Nat.reduceSub, Nat.reduceLeDiff, if_true, if_false, srcTup]) (by simp) fun d hd => ?_
  have H : ∀ i, Sm i → ∃ ρ', tgt [6] true (D.p (.int i)) (wipeD [a, b, c, s4, e, some (.p q.py), f] [6]) = some ρ' ∧ evE cal (.bin .add (.cst (.p (.str "r"))) (.strOf (.var 6))) ρ' S = .val (fz (lbl i)) S := fun i hi => by
    refine ⟨_, rfl, ?_⟩
    have := hi.ln
    have hb := bop_str "r" (numS i) (by rw [len_r]; omega)
    simp -dsimp only [Ir.then_val, Ir.optA_some, Ir.boolA_t, Ir.boolA_f, Ir.seqA_next, Ir.seqA_ret, Ir.wp_val_, Ir.v_var, Ir.v_cst, Ir.v_bin, Ir.v_cmp, Ir.v_chain, Ir.v_and, Ir.v_or, Ir.v_not, Ir.v_ifx, Ir.v_neg, Ir.v_call, Ir.v_tup, Ir.v_lst, Ir.v_idx, Ir.v_idxL, Ir.v_slice, Ir.v_strOf, Ir.v_join, Ir.v_extend, Ir.v_append, Ir.v_len, Ir.v_isi, Ir.v_toInt, Ir.v_all, Ir.v_tupOf, Ir.v_dictOf, Ir.v_dlit, Ir.v_dget3, Ir.v_eqL, Ir.v_op1, Ir.v_op2, Ir.v_fstr, Ir.f_nil, Ir.f_cons, Ir.a_nil', Ir.a_cons', Ir.a_star', Ir.l_disp', Ir.l_of', Ir.l_cat', Ir.l_cut', Ir.b_no', Ir.b_at', Ir.i_tup', Ir.i_lst', Ir.i_str', Ir.i_rng', Ir.ss_nil', Ir.ss_asg, Ir.ss_expr, Ir.ss_ret, Ir.ss_unp, Ir.ss_ite, Ir.ss_setI, Ir.ss_for, Ir.finA_p, Ir.strD_str, Ir.ofD_tup, Ir.dicAt_eq, Ir.lstAt_eq, Ir.dget3_str, Ir.dixD_int, Ir.srcLst_eq, Ir.ofD_ref, Ir.tupD_ref, Ir.lenD_ref, Ir.lenD_tup, Ir.getI_ref, Ir.lsA_lst, Ir.ifA_t, Ir.appD_eq, Ir.extD_eq, Ir.catD_eq, Ir.rb_p, decide_true, decide_false, Bool.true_and, Bool.and_true, Ir.atA_no, Ir.atA_go, Ir.contA_next, Ir.contA_ret, Ir.size_fix, Ir.size_dyn, Ir.at_fix, Ir.at_dyn, Ir.turn_one, List.length_map, List.getElem?_nil, Ir.tgt, Ir.setAll, Bool.false_eq_true, List.set_nil, List.getElem?_cons_zero, List.getElem?_cons_succ, List.set_cons_zero, List.set_cons_succ, List.map_cons, List.map_nil, List.length_cons, List.length_nil, List.replicate_succ, List.replicate_zero, List.cons_append, List.nil_append, Option.map_some, Option.bind_some, Ir.app_get, Ir.app_get0, Ir.app_set, Ir.app_set0, Ir.app_take, Ir.app_one, Ir.len_app, Nat.reduceAdd, Nat.reduceSub, Nat.reduceLeDiff, if_true, if_false, wipeD, strOf_int hi, hb]
    rfl
  simp only [List.map_cons, List.map_nil, List.mem_cons, List.not_mem_nil, or_false] at hd
  rcases hd with rfl | rfl | rfl
  · exact H _ hq.1
  · exact H _ hq.2.1
  · exact H _ hq.2.2
theorem elt_cat (cal : Nat → List D → M D) (a b c d e f : Option D) (q : Ct) (hq : Sm q.f ∧ Sm q.t ∧ Sm q.a) (S : Sto) :
    ∃ T, evE cal (.join (.cst (.p (.str " "))) (.lst (.cat (.lst (.disp (.cons (.cst (.p (.str "catch"))) .nil))) (.lst (.lc (.tup (.var 5)) [6] true (.bin .add (.cst (.p (.str "r"))) (.strOf (.var 6)))))))) [a, b, c, d, e, some (.p q.py), f] S = .val (fz (catS q)) (S ++ T) := by
  refine ⟨[.lst [.p (.str "catch")], .lst ([lbl q.f, lbl q.t, lbl q.a].map fz), .lst ([("catch" : Str), lbl q.f, lbl q.t, lbl q.a].map fz)], ?_⟩
  have o1 : (1 : Nat) ≤ 100000 := by omega
  have o2 : (1 + 3 : Nat) ≤ 100000 := by omega
  have a1 := allocL S [.p (.str "catch")] rfl
  have e1 := inner_cat cal a b c d e f q hq (S ++ [.lst [.p (.str "catch")]])
  have a2 := allocL (S ++ [.lst [.p (.str "catch")]]) ([lbl q.f, lbl q.t, lbl q.a].map fz) (all_fz _ _)
  have a3 := allocL (S ++ [.lst [.p (.str "catch")], .lst ([lbl q.f, lbl q.t, lbl q.a].map fz)]) ([("catch" : Str), lbl q.f, lbl q.t, lbl q.a].map fz) (all_fz _ _)
  have l1 := lbl_len hq.1
  have l2 := lbl_len hq.2.1
  have l3 := lbl_len hq.2.2
  have l0 : ("catch" : Str).length = 5 := by decide +kernel
  have e6 := joinD_lst (S ++ [.lst [.p (.str "catch")], .lst ([lbl q.f, lbl q.t, lbl q.a].map fz), .lst ([("catch" : Str), lbl q.f, lbl q.t, lbl q.a].map fz)]) (S.length + 2) " " [("catch" : Str), lbl q.f, lbl q.t, lbl q.a] (app_get ..) (by
    rw [len_b]; simp only [List.map_cons, List.map_nil, List.sum_cons, List.sum_nil, List.length_cons, List.length_nil, l0]; omega)
  simp only [List.map_cons, List.map_nil] at e1 a2 a3 e6 ⊢
  simp -dsimp only [Ir.then_val, Ir.optA_some, Ir.boolA_t, Ir.boolA_f, Ir.seqA_next, Ir.seqA_ret, Ir.wp_val_, Ir.v_var, Ir.v_cst, Ir.v_bin, Ir.v_cmp, Ir.v_chain, Ir.v_and, Ir.v_or, Ir.v_not, Ir.v_ifx, Ir.v_neg, Ir.v_call, Ir.v_tup, Ir.v_lst, Ir.v_idx, Ir.v_idxL, Ir.v_slice, Ir.v_strOf, Ir.v_join, Ir.v_extend, Ir.v_append, Ir.v_len, Ir.v_isi, Ir.v_toInt, Ir.v_all, Ir.v_tupOf, Ir.v_dictOf, Ir.v_dlit, Ir.v_dget3, Ir.v_eqL, Ir.v_op1, Ir.v_op2, Ir.v_fstr, Ir.f_nil, Ir.f_cons, Ir.a_nil', Ir.a_cons', Ir.a_star', Ir.l_disp', Ir.l_of', Ir.l_cat', Ir.l_cut', Ir.b_no', Ir.b_at', Ir.i_tup', Ir.i_lst', Ir.i_str', Ir.i_rng', Ir.ss_nil', Ir.ss_asg, Ir.ss_expr, Ir.ss_ret, Ir.ss_unp, Ir.ss_ite, Ir.ss_setI, Ir.ss_for, Ir.finA_p, Ir.strD_str, Ir.ofD_tup, Ir.dicAt_eq, Ir.lstAt_eq, Ir.dget3_str, Ir.dixD_int, Ir.srcLst_eq, Ir.ofD_ref, Ir.tupD_ref, Ir.lenD_ref, Ir.lenD_tup, Ir.getI_ref, Ir.lsA_lst, Ir.ifA_t, Ir.appD_eq, Ir.extD_eq, Ir.catD_eq, Ir.rb_p, decide_true, decide_false, Bool.true_and, Bool.and_true, Ir.atA_no, Ir.atA_go, Ir.contA_next, Ir.contA_ret, Ir.size_fix, Ir.size_dyn, Ir.at_fix, Ir.at_dyn, Ir.turn_one, List.length_map, List.getElem?_nil, Ir.tgt, Ir.setAll, Bool.false_eq_true, List.set_nil, List.getElem?_cons_zero, List.getElem?_cons_succ, List.set_cons_zero, List.set_cons_succ, List.map_cons, List.map_nil, List.length_cons, List.length_nil, List.replicate_succ, List.replicate_zero, List.cons_append, List.nil_append, Option.map_some, Option.bind_some, Ir.app_get, Ir.app_get0, Ir.app_set, Ir.app_set0, Ir.app_take, Ir.app_one, Ir.len_app, Nat.reduceAdd, Nat.reduceSub, Nat.reduceLeDiff, if_true, if_false, a1, o1, o2, e1, a2, a3, e6]
  rfl
theorem lawway_ok (k : Nat) {w : Way} (h : w.Ok) (S : Sto) : calK fs (k + 3) 22 [.p w.py] S = .val (.ref S.length) (S ++ [.lst ((w.lines (w.rows.length + 1)).map fz)]) := by
  rw [c22, callA S rfl]
  unfold b22
  have hl := h.rl
  have hcl := h.cl
  have p3 : ∀ S, getI S (.p w.py) (.p (.int 3)) = some (.p (.tuple w.rows)) := fun S => get3 ..
  have p4 : ∀ S, getI S (.p w.py) (.p (.int 4)) = some (.p (.tuple (w.es.map enPy))) := fun S => get4 ..
  have p5 : ∀ S, getI S (.p w.py) (.p (.int 5)) = some (.p (.tuple (w.cs.map Ct.py))) := fun S => get5 ..
  have a1 := allocD S w.kv (rb_kv h _)
  have c0 : ∀ (x y : Option D) (S : Sto), evL (calK fs (k + 2)) (.lc (.tup (.idx (.var 0) (.cst (.p (.int 5))))) [5] true (.idx (.var 5) (.cst (.p (.int 0))))) [some (.p w.py), x, y, none, none, none, none] S = .val ((w.cs.map Ct.f).map fi) S := fun x y S => by
    have : (w.cs.map Ct.f).map fi = ((w.cs.map Ct.py).map D.p).map fun d => match d with | .p (.tuple [.int a, .int b, .int c]) => fi a | x => x := by
      simp [List.map_map]
    rw [this]
    refine l_lc_fix (by simp -dsimp only [Ir.then_val, Ir.optA_some, Ir.boolA_t, Ir.boolA_f, Ir.seqA_next, Ir.seqA_ret, Ir.wp_val_, Ir.v_var, Ir.v_cst, Ir.v_bin, Ir.v_cmp, Ir.v_chain, Ir.v_and, Ir.v_or, Ir.v_not, Ir.v_ifx, Ir.v_neg, Ir.v_call, Ir.v_tup, Ir.v_lst, Ir.v_idx, Ir.v_idxL, Ir.v_slice, Ir.v_strOf, Ir.v_join, Ir.v_extend, Ir.v_append, Ir.v_len, Ir.v_isi, Ir.v_toInt, Ir.v_all, Ir.v_tupOf, Ir.v_dictOf, Ir.v_dlit, Ir.v_dget3, Ir.v_eqL, Ir.v_op1, Ir.v_op2, Ir.v_fstr, Ir.f_nil, Ir.f_cons, Ir.a_nil', Ir.a_cons', Ir.a_star', Ir.l_disp', Ir.l_of', Ir.l_cat', Ir.l_cut', Ir.b_no', Ir.b_at', Ir.i_tup', Ir.i_lst', Ir.i_str', Ir.i_rng', Ir.ss_nil', Ir.ss_asg, Ir.ss_expr, Ir.ss_ret, Ir.ss_unp, Ir.ss_ite, Ir.ss_setI, Ir.ss_for, Ir.finA_p, Ir.strD_str, Ir.ofD_tup, Ir.dicAt_eq, Ir.lstAt_eq, Ir.dget3_str, Ir.dixD_int, Ir.srcLst_eq, Ir.ofD_ref, Ir.tupD_ref, Ir.lenD_ref, Ir.lenD_tup, Ir.getI_ref, Ir.lsA_lst, Ir.ifA_t, Ir.appD_eq, Ir.extD_eq, Ir.catD_eq, Ir.rb_p, decide_true, decide_false, Bool.true_and, Bool.and_true, Ir.atA_no, Ir.atA_go, Ir.contA_next, Ir.contA_ret, Ir.size_fix, Ir.size_dyn, Ir.at_fix, Ir.at_dyn, Ir.turn_one, List.length_map, List.getElem?_nil, Ir.tgt, Ir.setAll, Bool.false_eq_true, List.set_nil, List.getElem?_cons_zero, List.getElem?_cons_succ, List.set_cons_zero, List.set_cons_succ, List.map_cons, List.map_nil, List.length_cons, List.length_nil, List.replicate_succ, List.replicate_zero, List.cons_append, List.nil_append, Option.map_some, Option.bind_some, Ir.app_get, Ir.app_get0, Ir.app_set, Ir.app_set0, Ir.app_take, Ir.app_one, Ir.len_app, Nat.reduceAdd, Nat.reduceSub, Nat.reduceLeDiff, if_true, if_false, p5, srcTup]) (by simp; omega) fun d hd => ?_
    obtain ⟨p, hp, rfl⟩ := List.mem_map.mp hd
    obtain ⟨c, hc, rfl⟩ := List.mem_map.mp hp
    refine ⟨_, rfl, ?_⟩
    simp -dsimp only [Ir.then_val, Ir.optA_some, Ir.boolA_t, Ir.boolA_f, Ir.seqA_next, Ir.seqA_ret, Ir.wp_val_, Ir.v_var, Ir.v_cst, Ir.v_bin, Ir.v_cmp, Ir.v_chain, Ir.v_and, Ir.v_or, Ir.v_not, Ir.v_ifx, Ir.v_neg, Ir.v_call, Ir.v_tup, Ir.v_lst, Ir.v_idx, Ir.v_idxL, Ir.v_slice, Ir.v_strOf, Ir.v_join, Ir.v_extend, Ir.v_append, Ir.v_len, Ir.v_isi, Ir.v_toInt, Ir.v_all, Ir.v_tupOf, Ir.v_dictOf, Ir.v_dlit, Ir.v_dget3, Ir.v_eqL, Ir.v_op1, Ir.v_op2, Ir.v_fstr, Ir.f_nil, Ir.f_cons, Ir.a_nil', Ir.a_cons', Ir.a_star', Ir.l_disp', Ir.l_of', Ir.l_cat', Ir.l_cut', Ir.b_no', Ir.b_at', Ir.i_tup', Ir.i_lst', Ir.i_str', Ir.i_rng', Ir.ss_nil', Ir.ss_asg, Ir.ss_expr, Ir.ss_ret, Ir.ss_unp, Ir.ss_ite, Ir.ss_setI, Ir.ss_for, Ir.finA_p, Ir.strD_str, Ir.ofD_tup, Ir.dicAt_eq, Ir.lstAt_eq, Ir.dget3_str, Ir.dixD_int, Ir.srcLst_eq, Ir.ofD_ref, Ir.tupD_ref, Ir.lenD_ref, Ir.lenD_tup, Ir.getI_ref, Ir.lsA_lst, Ir.ifA_t, Ir.appD_eq, Ir.extD_eq, Ir.catD_eq, Ir.rb_p, decide_true, decide_false, Bool.true_and, Bool.and_true, Ir.atA_no, Ir.atA_go, Ir.contA_next, Ir.contA_ret, Ir.size_fix, Ir.size_dyn, Ir.at_fix, Ir.at_dyn, Ir.turn_one, List.length_map, List.getElem?_nil, Ir.tgt, Ir.setAll, Bool.false_eq_true, List.set_nil, List.getElem?_cons_zero, List.getElem?_cons_succ, List.set_cons_zero, List.set_cons_succ, List.map_cons, List.map_nil, List.length_cons, List.length_nil, List.replicate_succ, List.replicate_zero, List.cons_append, List.nil_append, Option.map_some, Option.bind_some, Ir.app_get, Ir.app_get0, Ir.app_set, Ir.app_set0, Ir.app_take, Ir.app_one, Ir.len_app, Nat.reduceAdd, Nat.reduceSub, Nat.reduceLeDiff, if_true, if_false, wipeD, get0]
  have c1 : ∀ (x y : Option D) (S : Sto), evL (calK fs (k + 2)) (.lc (.tup (.idx (.var 0) (.cst (.p (.int 5))))) [5] true (.idx (.var 5) (.cst (.p (.int 1))))) [some (.p w.py), x, y, none, none, none, none] S = .val ((w.cs.map Ct.t).map fi) S := fun x y S => by
    have : (w.cs.map Ct.t).map fi = ((w.cs.map Ct.py).map D.p).map fun d => match d with | .p (.tuple [.int a, .int b, .int c]) => fi b | x => x := by
      simp [List.map_map]
    rw [this]
    refine l_lc_fix (by simp -dsimp only [Ir.then_val, Ir.optA_some, Ir.boolA_t, Ir.boolA_f, Ir.seqA_next, Ir.seqA_ret, Ir.wp_val_, Ir.v_var, Ir.v_cst, Ir.v_bin, Ir.v_cmp, Ir.v_chain, Ir.v_and, Ir.v_or, Ir.v_not, Ir.v_ifx, Ir.v_neg, Ir.v_call, Ir.v_tup, Ir.v_lst, Ir.v_idx, Ir.v_idxL, Ir.v_slice, Ir.v_strOf, Ir.v_join, Ir.v_extend, Ir.v_append, Ir.v_len, Ir.v_isi, Ir.v_toInt, Ir.v_all, Ir.v_tupOf, Ir.v_dictOf, Ir.v_dlit, Ir.v_dget3, Ir.v_eqL, Ir.v_op1, Ir.v_op2, Ir.v_fstr, Ir.f_nil, Ir.f_cons, Ir.a_nil', Ir.a_cons', Ir.a_star', Ir.l_disp', Ir.l_of', Ir.l_cat', Ir.l_cut', Ir.b_no', Ir.b_at', Ir.i_tup', Ir.i_lst', Ir.i_str', Ir.i_rng', Ir.ss_nil', Ir.ss_asg, Ir.ss_expr, Ir.ss_ret, Ir.ss_unp, Ir.ss_ite, Ir.ss_setI, Ir.ss_for, Ir.finA_p, Ir.strD_str, Ir.ofD_tup, Ir.dicAt_eq, Ir.lstAt_eq, Ir.dget3_str, Ir.dixD_int, Ir.srcLst_eq, Ir.ofD_ref, Ir.tupD_ref, Ir.lenD_ref, Ir.lenD_tup, Ir.getI_ref, Ir.lsA_lst, Ir.ifA_t, Ir.appD_eq, Ir.extD_eq, Ir.catD_eq, Ir.rb_p, decide_true, decide_false, Bool.true_and, Bool.and_true, Ir.atA_no, Ir.atA_go, Ir.contA_next, Ir.contA_ret, Ir.size_fix, Ir.size_dyn, Ir.at_fix, Ir.at_dyn, Ir.turn_one, List.length_map, List.getElem?_nil, Ir.tgt, Ir.setAll, Bool.false_eq_true, List.set_nil, List.getElem?_cons_zero, List.getElem?_cons_succ, List.set_cons_zero, List.set_cons_succ, List.map_cons, List.map_nil, List.length_cons, List.length_nil, List.replicate_succ, List.replicate_zero, List.cons_append, List.nil_append, Option.map_some, Option.bind_some, Ir.app_get, Ir.app_get0, Ir.app_set, Ir.app_set0, Ir.app_take, Ir.app_one, Ir.len_app, Nat.reduceAdd, Nat.reduceSub, Nat.reduceLeDiff, if_true, if_false, p5, srcTup]) (by simp; omega) fun d hd => ?_
    obtain ⟨p, hp, rfl⟩ := List.mem_map.mp hd
    obtain ⟨c, hc, rfl⟩ := List.mem_map.mp hp
    refine ⟨_, rfl, ?_⟩
    simp -dsimp only [Ir.then_val, Ir.optA_some, Ir.boolA_t, Ir.boolA_f, Ir.seqA_next, Ir.seqA_ret, Ir.wp_val_, Ir.v_var, Ir.v_cst, Ir.v_bin, Ir.v_cmp, Ir.v_chain, Ir.v_and, Ir.v_or, Ir.v_not, Ir.v_ifx, Ir.v_neg, Ir.v_call, Ir.v_tup, Ir.v_lst, Ir.v_idx, Ir.v_idxL, Ir.v_slice, Ir.v_strOf, Ir.v_join, Ir.v_extend, Ir.v_append, Ir.v_len, Ir.v_isi, Ir.v_toInt, Ir.v_all, Ir.v_tupOf, Ir.v_dictOf, Ir.v_dlit, Ir.v_dget3, Ir.v_eqL, Ir.v_op1, Ir.v_op2, Ir.v_fstr, Ir.f_nil, Ir.f_cons, Ir.a_nil', Ir.a_cons', Ir.a_star', Ir.l_disp', Ir.l_of', Ir.l_cat', Ir.l_cut', Ir.b_no', Ir.b_at', Ir.i_tup', Ir.i_lst', Ir.i_str', Ir.i_rng', Ir.ss_nil', Ir.ss_asg, Ir.ss_expr, Ir.ss_ret, Ir.ss_unp, Ir.ss_ite, Ir.ss_setI, Ir.ss_for, Ir.finA_p, Ir.strD_str, Ir.ofD_tup, Ir.dicAt_eq, Ir.lstAt_eq, Ir.dget3_str, Ir.dixD_int, Ir.srcLst_eq, Ir.ofD_ref, Ir.tupD_ref, Ir.lenD_ref, Ir.lenD_tup, Ir.getI_ref, Ir.lsA_lst, Ir.ifA_t, Ir.appD_eq, Ir.extD_eq, Ir.catD_eq, Ir.rb_p, decide_true, decide_false, Bool.true_and, Bool.and_true, Ir.atA_no, Ir.atA_go, Ir.contA_next, Ir.contA_ret, Ir.size_fix, Ir.size_dyn, Ir.at_fix, Ir.at_dyn, Ir.turn_one, List.length_map, List.getElem?_nil, Ir.tgt, Ir.setAll, Bool.false_eq_true, List.set_nil, List.getElem?_cons_zero, List.getElem?_cons_succ, List.set_cons_zero, List.set_cons_succ, List.map_cons, List.map_nil, List.length_cons, List.length_nil, List.replicate_succ, List.replicate_zero, List.cons_append, List.nil_append, Option.map_some, Option.bind_some, Ir.app_get, Ir.app_get0, Ir.app_set, Ir.app_set0, Ir.app_take, Ir.app_one, Ir.len_app, Nat.reduceAdd, Nat.reduceSub, Nat.reduceLeDiff, if_true, if_false, wipeD, get1]
  have a2 := allocL (S ++ [.dic w.kv]) ((w.cs.map Ct.f).map fi) (all_fi _ _)
  have a3 := allocL (S ++ [.dic w.kv, .lst ((w.cs.map Ct.f).map fi)]) ((w.cs.map Ct.t).map fi) (all_fi _ _)
  have sp : (w.cs.map Ct.f).map fi ++ (w.cs.map Ct.t).map fi = (spotsN w.cs).map fi := by unfold spotsN; rw [List.map_append]
  have a4 := allocL (S ++ [.dic w.kv, .lst ((w.cs.map Ct.f).map fi), .lst ((w.cs.map Ct.t).map fi)]) ((spotsN w.cs).map fi) (all_fi _ _)
  have a5 := allocL (S ++ [.dic w.kv, .lst ((w.cs.map Ct.f).map fi), .lst ((w.cs.map Ct.t).map fi), .lst ((spotsN w.cs).map fi)]) [.p (.str (sigS w.n w.ts w.g))] rfl
  have o1 : (1 : Nat) ≤ 100000 := by omega
  have o2 : w.cs.length + w.cs.length ≤ 100000 := by omega
  have sg := lawsign_ok (k + 1) h.n h.ts h.tl h.g [.tuple w.rows, .tuple (w.es.map enPy), .tuple (w.cs.map Ct.py)]
  -- catches: what they leave behind
  obtain ⟨T, hT⟩ := l_lc_grow (cal := calK fs (k + 2)) (it := .tup (.idx (.var 0) (.cst (.p (.int 5))))) (tg := [5]) (one := true)
    (elt := .join (.cst (.p (.str " "))) (.lst (.cat (.lst (.disp (.cons (.cst (.p (.str "catch"))) .nil))) (.lst (.lc (.tup (.var 5)) [6] true (.bin .add (.cst (.p (.str "r"))) (.strOf (.var 6))))))))
    (ρ := slots2 w S.length none none none) (S := sto2 w S [sigS w.n w.ts w.g] []) (T := []) (S0 := sto2 w S [sigS w.n w.ts w.g] []) (ds := (w.cs.map Ct.py).map D.p)
    (f := fun d => match d with | .p (.tuple [.int a, .int b, .int c]) => fz (catS ⟨a, b, c⟩) | x => x) (by unfold slots2; simp -dsimp only [Ir.then_val, Ir.optA_some, Ir.boolA_t, Ir.boolA_f, Ir.seqA_next, Ir.seqA_ret, Ir.wp_val_, Ir.v_var, Ir.v_cst, Ir.v_bin, Ir.v_cmp, Ir.v_chain, Ir.v_and, Ir.v_or, Ir.v_not, Ir.v_ifx, Ir.v_neg, Ir.v_call, Ir.v_tup, Ir.v_lst, Ir.v_idx, Ir.v_idxL, Ir.v_slice, Ir.v_strOf, Ir.v_join, Ir.v_extend, Ir.v_append, Ir.v_len, Ir.v_isi, Ir.v_toInt, Ir.v_all, Ir.v_tupOf, Ir.v_dictOf, Ir.v_dlit, Ir.v_dget3, Ir.v_eqL, Ir.v_op1, Ir.v_op2, Ir.v_fstr, Ir.f_nil, Ir.f_cons, Ir.a_nil', Ir.a_cons', Ir.a_star', Ir.l_disp', Ir.l_of', Ir.l_cat', Ir.l_cut', Ir.b_no', Ir.b_at', Ir.i_tup', Ir.i_lst', Ir.i_str', Ir.i_rng', Ir.ss_nil', Ir.ss_asg, Ir.ss_expr, Ir.ss_ret, Ir.ss_unp, Ir.ss_ite, Ir.ss_setI, Ir.ss_for, Ir.finA_p, Ir.strD_str, Ir.ofD_tup, Ir.dicAt_eq, Ir.lstAt_eq, Ir.dget3_str, Ir.dixD_int, Ir.srcLst_eq, Ir.ofD_ref, Ir.tupD_ref, Ir.lenD_ref, Ir.lenD_tup, Ir.getI_ref, Ir.lsA_lst, Ir.ifA_t, Ir.appD_eq, Ir.extD_eq, Ir.catD_eq, Ir.rb_p, decide_true, decide_false, Bool.true_and, Bool.and_true, Ir.atA_no, Ir.atA_go, Ir.contA_next, Ir.contA_ret, Ir.size_fix, Ir.size_dyn, Ir.at_fix, Ir.at_dyn, Ir.turn_one, List.length_map, List.getElem?_nil, Ir.tgt, Ir.setAll, Bool.false_eq_true, List.set_nil, List.getElem?_cons_zero, List.getElem?_cons_succ, List.set_cons_zero, List.set_cons_succ, List.map_cons, List.map_nil, List.length_cons, List.length_nil, List.replicate_succ, List.replicate_zero, List.cons_append, List.nil_append, Option.map_some, Option.bind_some, Ir.app_get, Ir.app_get0, Ir.app_set, Ir.app_set0, Ir.app_take, Ir.app_one, Ir.len_app, Nat.reduceAdd, Nat.reduceSub, Nat.reduceLeDiff, if_true, if_false, p5, srcTup, List.append_nil]) (by simp; omega) (fun d hd T => by
      obtain ⟨p, hp, rfl⟩ := List.mem_map.mp hd
      obtain ⟨c, hc, rfl⟩ := List.mem_map.mp hp
      obtain ⟨T', e⟩ := elt_cat (calK fs (k + 2)) (some (.p w.py)) (some (.ref S.length)) (some (.ref (S.length + 3))) (some (.ref (S.length + 4))) none none c (h.cs c hc) (sto2 w S [sigS w.n w.ts w.g] [] ++ T)
      refine ⟨T ++ T', _, rfl, ?_⟩
      rw [← List.append_assoc]
      exact e)
  have e0 : ((w.cs.map Ct.py).map D.p).map (fun d => match d with | .p (.tuple [.int a, .int b, .int c]) => fz (catS ⟨a, b, c⟩) | x => x) = (w.cs.map catS).map fz := by
    simp [List.map_map]
  rw [e0] at hT
  have a6 := allocL (sto2 w S [sigS w.n w.ts w.g] [] ++ T) ((w.cs.map catS).map fz) (all_fz _ _)
  have l0 : D.p (.str (sigS w.n w.ts w.g)) :: (w.cs.map catS).map fz = (w.lines 0).map fz := by
    unfold Way.lines
    simp
  have x5 : (sto2 w S [sigS w.n w.ts w.g] [] ++ T ++ [MO.lst ((w.cs.map catS).map fz)])[S.length + 4]? = some (.lst [.p (.str (sigS w.n w.ts w.g))]) := by
    unfold sto2; rw [List.append_assoc, List.append_assoc]; exact app_get ..
  have x7 : (sto2 w S [sigS w.n w.ts w.g] [] ++ T ++ [MO.lst ((w.cs.map catS).map fz)]).set (S.length + 4) (.lst ((w.lines 0).map fz)) = sto2 w S (w.lines 0) (T ++ [MO.lst ((w.cs.map catS).map fz)]) := by
    unfold sto2
    rw [List.append_assoc, List.append_assoc, app_set]
    rfl
  have x8 : (sto2 w S [sigS w.n w.ts w.g] [] ++ T ++ [MO.lst ((w.cs.map catS).map fz)])[(sto2 w S [sigS w.n w.ts w.g] [] ++ T).length]? = some (.lst ((w.cs.map catS).map fz)) := by
    rw [List.getElem?_append_right (Nat.le_refl _)]; simp
  have rn : srcRng (.p (.int ((w.rows.length : Int) + 1))) = some (.fix ((List.range (w.rows.length + 1)).map fun (i : Nat) => .p (.int (i : Int)))) := srcRng_nat (w.rows.length + 1) (by omega)
  have loop := for_seq (ds := (List.range (w.rows.length + 1)).map fun (i : Nat) => D.p (.int (i : Int))) (body := turn (calK fs (k + 2)) [4] true stepL)
    (fun i => slots2 w S.length (if i = 0 then none else some (fi ((i - 1 : Nat) : Int))) none none) (fun i => sto2 w S (w.lines i) (T ++ [.lst ((w.cs.map catS).map fz)])) (fun i d hd => by
      obtain ⟨j, hj, rfl⟩ := (show ∃ j, (List.range (w.rows.length + 1))[i]? = some j ∧ D.p (.int (j : Int)) = d by
        rw [List.getElem?_map] at hd
        exact Option.map_eq_some_iff.mp hd)
      obtain ⟨hi, e⟩ := List.getElem?_eq_some_iff.mp hj
      rw [List.getElem_range] at e
      subst e
      rw [List.length_range] at hi
      rw [turn_one]
      have e2 : (slots2 w S.length (if i = 0 then none else some (fi ((i - 1 : Nat) : Int))) none none).set 4 (some (D.p (.int (i : Int)))) = slots2 w S.length (some (fi i)) none none := rfl
      rw [e2, turnL_ok k h i (by omega) (w.lines i) (by have := lines_le h i; omega)]
      rw [← lines_succ]
      rfl) (w.rows.length + 1) 0 (by simp)
  have loop0 : forGo (Src.fix ((List.range (w.rows.length + 1)).map fun (i : Nat) => D.p (.int (i : Int)))) (turn (calK fs (k + 2)) [4] true stepL) (w.rows.length + 1) 0 (slots2 w S.length none none none) (sto2 w S (w.lines 0) (T ++ [.lst ((w.cs.map catS).map fz)])) =
      .val (.next, slots2 w S.length (some (fi ((w.rows.length : Nat) : Int))) none none) (sto2 w S (w.lines (w.rows.length + 1)) (T ++ [.lst ((w.cs.map catS).map fz)])) := by
    simp only [if_true, List.length_map, List.length_range, Nat.add_eq_zero_iff, Nat.one_ne_zero, and_false, if_false, Nat.add_sub_cancel] at loop
    exact loop
  have sgw : ∀ S, calK fs (k + 2) 20 [.p w.py] S = .val (.p (.str (sigS w.n w.ts w.g))) S := fun S => lawsign_ok (k + 1) h.n h.ts h.tl h.g _ S
  obtain ⟨X, hX⟩ : ∃ X, X = sto2 w S [sigS w.n w.ts w.g] [] ++ T := ⟨_, rfl⟩
  rw [← hX] at hT a6 x5 x7 x8
  unfold slots2 sto2 at hT
  simp only [List.map_cons, List.map_nil] at hT
  have al : ((w.cs.map catS).map fz).all (rb (S.length + 4)) = true := all_fz _ _
  have hc4 : decide (1 + w.cs.length ≤ 100000) = true := decide_eq_true (by omega)
  simp -dsimp only [Ir.then_val, Ir.optA_some, Ir.boolA_t, Ir.boolA_f, Ir.seqA_next, Ir.seqA_ret, Ir.wp_val_, Ir.v_var, Ir.v_cst, Ir.v_bin, Ir.v_cmp, Ir.v_chain, Ir.v_and, Ir.v_or, Ir.v_not, Ir.v_ifx, Ir.v_neg, Ir.v_call, Ir.v_tup, Ir.v_lst, Ir.v_idx, Ir.v_idxL, Ir.v_slice, Ir.v_strOf, Ir.v_join, Ir.v_extend, Ir.v_append, Ir.v_len, Ir.v_isi, Ir.v_toInt, Ir.v_all, Ir.v_tupOf, Ir.v_dictOf, Ir.v_dlit, Ir.v_dget3, Ir.v_eqL, Ir.v_op1, Ir.v_op2, Ir.v_fstr, Ir.f_nil, Ir.f_cons, Ir.a_nil', Ir.a_cons', Ir.a_star', Ir.l_disp', Ir.l_of', Ir.l_cat', Ir.l_cut', Ir.b_no', Ir.b_at', Ir.i_tup', Ir.i_lst', Ir.i_str', Ir.i_rng', Ir.ss_nil', Ir.ss_asg, Ir.ss_expr, Ir.ss_ret, Ir.ss_unp, Ir.ss_ite, Ir.ss_setI, Ir.ss_for, Ir.finA_p, Ir.strD_str, Ir.ofD_tup, Ir.dicAt_eq, Ir.lstAt_eq, Ir.dget3_str, Ir.dixD_int, Ir.srcLst_eq, Ir.ofD_ref, Ir.tupD_ref, Ir.lenD_ref, Ir.lenD_tup, Ir.getI_ref, Ir.lsA_lst, Ir.ifA_t, Ir.appD_eq, Ir.extD_eq, Ir.catD_eq, Ir.rb_p, decide_true, decide_false, Bool.true_and, Bool.and_true, Ir.atA_no, Ir.atA_go, Ir.contA_next, Ir.contA_ret, Ir.size_fix, Ir.size_dyn, Ir.at_fix, Ir.at_dyn, Ir.turn_one, List.length_map, List.getElem?_nil, Ir.tgt, Ir.setAll, Bool.false_eq_true, List.set_nil, List.getElem?_cons_zero, List.getElem?_cons_succ, List.set_cons_zero, List.set_cons_succ, List.map_cons, List.map_nil, List.length_cons, List.length_nil, List.replicate_succ, List.replicate_zero, List.cons_append, List.nil_append, Option.map_some, Option.bind_some, Ir.app_get, Ir.app_get0, Ir.app_set, Ir.app_set0, Ir.app_take, Ir.app_one, Ir.len_app, Nat.reduceAdd, Nat.reduceSub, Nat.reduceLeDiff, if_true, if_false, p4, dict_ok h, a1, c0, c1, a2, a3, sp, a4, o2, sgw, a5, o1, hT, a6, x5, x8, al, hc4, l0, x7, p3, bop_add, rn, List.length_range]
  change finA S.length (seqA (forGo (Src.fix _) (turn (calK fs (k + 2)) [4] true stepL) _ _ (slots2 w S.length none none none) (sto2 w S (w.lines 0) _)) _) = _
  rw [loop0]
  unfold slots2 sto2
  simp -dsimp only [Ir.then_val, Ir.optA_some, Ir.boolA_t, Ir.boolA_f, Ir.seqA_next, Ir.seqA_ret, Ir.wp_val_, Ir.v_var, Ir.v_cst, Ir.v_bin, Ir.v_cmp, Ir.v_chain, Ir.v_and, Ir.v_or, Ir.v_not, Ir.v_ifx, Ir.v_neg, Ir.v_call, Ir.v_tup, Ir.v_lst, Ir.v_idx, Ir.v_idxL, Ir.v_slice, Ir.v_strOf, Ir.v_join, Ir.v_extend, Ir.v_append, Ir.v_len, Ir.v_isi, Ir.v_toInt, Ir.v_all, Ir.v_tupOf, Ir.v_dictOf, Ir.v_dlit, Ir.v_dget3, Ir.v_eqL, Ir.v_op1, Ir.v_op2, Ir.v_fstr, Ir.f_nil, Ir.f_cons, Ir.a_nil', Ir.a_cons', Ir.a_star', Ir.l_disp', Ir.l_of', Ir.l_cat', Ir.l_cut', Ir.b_no', Ir.b_at', Ir.i_tup', Ir.i_lst', Ir.i_str', Ir.i_rng', Ir.ss_nil', Ir.ss_asg, Ir.ss_expr, Ir.ss_ret, Ir.ss_unp, Ir.ss_ite, Ir.ss_setI, Ir.ss_for, Ir.finA_p, Ir.strD_str, Ir.ofD_tup, Ir.dicAt_eq, Ir.lstAt_eq, Ir.dget3_str, Ir.dixD_int, Ir.srcLst_eq, Ir.ofD_ref, Ir.tupD_ref, Ir.lenD_ref, Ir.lenD_tup, Ir.getI_ref, Ir.lsA_lst, Ir.ifA_t, Ir.appD_eq, Ir.extD_eq, Ir.catD_eq, Ir.rb_p, decide_true, decide_false, Bool.true_and, Bool.and_true, Ir.atA_no, Ir.atA_go, Ir.contA_next, Ir.contA_ret, Ir.size_fix, Ir.size_dyn, Ir.at_fix, Ir.at_dyn, Ir.turn_one, List.length_map, List.getElem?_nil, Ir.tgt, Ir.setAll, Bool.false_eq_true, List.set_nil, List.getElem?_cons_zero, List.getElem?_cons_succ, List.set_cons_zero, List.set_cons_succ, List.map_cons, List.map_nil, List.length_cons, List.length_nil, List.replicate_succ, List.replicate_zero, List.cons_append, List.nil_append, Option.map_some, Option.bind_some, Ir.app_get, Ir.app_get0, Ir.app_set, Ir.app_set0, Ir.app_take, Ir.app_one, Ir.len_app, Nat.reduceAdd, Nat.reduceSub, Nat.reduceLeDiff, if_true, if_false, seqA_next]
  exact finA_ref0 (j := 4) rfl rfl
end Ir.K04
set_option Elab.async false
set_option linter.all false
set_option maxRecDepth 100000
set_option maxHeartbeats 1000000
namespace Ir.K04
open PySem
theorem c2 (k : Nat) : calK fs (k + 1) 2 = callF (calK fs k) ⟨1, 11, b2⟩ := rfl
theorem c3 (k : Nat) : calK fs (k + 1) 3 = callF (calK fs k) ⟨1, 5, b3⟩ := rfl
theorem c1 (k : Nat) : calK fs (k + 1) 1 = callF (calK fs k) ⟨1, 2, b1⟩ := rfl
theorem c21 (k : Nat) : calK fs (k + 1) 21 = callF (calK fs k) ⟨1, 2, b21⟩ := rfl
theorem c23 (k : Nat) : calK fs (k + 1) 23 = callF (calK fs k) ⟨1, 6, b23⟩ := rfl
structure Kind where
  nm : Str
  above : Str
  faces : List Str
  fields : List (Str × Str)
  ways : List Way
abbrev fdPy (f : Str × Str) : PyData := .tuple [.str f.1, .str f.2]
def Kind.py (u : Kind) : PyData := .tuple [.str "kind", .str u.nm, .str u.above, .tuple (u.faces.map .str), .tuple (u.fields.map fdPy), .tuple (u.ways.map Way.py)]
structure Kind.Ok (u : Kind) : Prop where
  nm : u.nm.length ≤ 50
  above : u.above.length ≤ 50
  faces : ∀ f ∈ u.faces, f.length ≤ 50
  fl : u.faces.length ≤ 5
  fsh : SeqAt.shaped (.tuple (u.faces.map .str)) = true
  fields : ∀ f ∈ u.fields, f.1.length ≤ 50 ∧ f.2.length ≤ 50
  dl : u.fields.length ≤ 6
  ways : ∀ w ∈ u.ways, w.Ok
  wl : u.ways.length ≤ 8
def Kind.head (u : Kind) : List Str := "kind" :: u.nm :: ((if u.above = "" then [] else [("above" : Str), u.above]) ++ (if u.faces = [] then [] else ("faces" : Str) :: u.faces))
def fdS (f : Str × Str) : Str := Txt.join " " [("field" : Str), f.1, f.2]
def wlines (w : Way) : List Str := w.lines (w.rows.length + 1)
def Kind.upto (u : Kind) (i : Nat) : List Str := Txt.join " " u.head :: u.fields.map fdS ++ (u.ways.take i).flatMap wlines
def restK : Ss := match b2 with
  | .cons _ (.cons _ (.cons _ (.cons _ r))) => r
  | _ => .nil
def slotsK (u : Kind) (h l w : Option D) : Sl := [some (.p u.py), some (.p (.str "kind")), some (.p (.str u.nm)), some (.p (.str u.above)), some (.p (.tuple (u.faces.map .str))), some (.p (.tuple (u.fields.map fdPy))), some (.p (.tuple (u.ways.map Way.py))), h, l, w, none]
theorem eqD_ne (S : Sto) (x y : Str) : cop S .ne (.p (.str x)) (.p (.str y)) = some (!decide (x = y)) := by
  rw [cop_ne, eqD_str]; rfl
theorem truth_tup (S : Sto) (ds : List PyData) : truthD S (.p (.tuple ds)) = some (.p (.bool (!ds.isEmpty))) := rfl
theorem head_run (cal : Nat → List D → M D) {u : Kind} (h : u.Ok) (S : Sto) : ∃ T, exSs cal b2 [some (.p u.py), none, none, none, none, none, none, none, none, none, none] S = exSs cal restK (slotsK u (some (.ref S.length)) none none) (S ++ (.lst (u.head.map fz) :: T)) := by
  have o1 : (2 : Nat) ≤ 100000 := by omega
  have a1 := allocL S [.p (.str "kind"), .p (.str u.nm)] rfl
  have hfl := h.fl
  have hf : (u.faces.map PyData.str).isEmpty = decide (u.faces = []) := by cases u.faces <;> rfl
  have m1 : (u.faces.map PyData.str).map D.p = u.faces.map fz := by rw [List.map_map]; rfl
  have af : ∀ n, (u.faces.map fz).all (rb n) = true := fun n => all_fz n _
  show ∃ T, exSs cal (.cons _ (.cons _ (.cons _ (.cons _ restK)))) _ S = _
  unfold slotsK Kind.py
  by_cases ha : u.above = ""
  · by_cases hz : u.faces = []
    · refine ⟨[], ?_⟩
      have hh : [D.p (.str "kind"), .p (.str u.nm)] = u.head.map fz := by unfold Kind.head; rw [if_pos ha, if_pos hz]; rfl
      have d1 : (!decide (u.above = "")) = false := by rw [decide_eq_true ha]; rfl
      have d2 : (!(!decide (u.faces = []))) = true := by rw [decide_eq_true hz]; rfl
      have d3 : (!decide (u.faces = [])) = false := by rw [decide_eq_true hz]; rfl
      rw [← hh]
      simp -dsimp only [Ir.then_val, Ir.optA_some, Ir.boolA_t, Ir.boolA_f, Ir.seqA_next, Ir.seqA_ret, Ir.wp_val_, Ir.v_var, Ir.v_cst, Ir.v_bin, Ir.v_cmp, Ir.v_chain, Ir.v_and, Ir.v_or, Ir.v_not, Ir.v_ifx, Ir.v_neg, Ir.v_call, Ir.v_tup, Ir.v_lst, Ir.v_idx, Ir.v_idxL, Ir.v_slice, Ir.v_strOf, Ir.v_join, Ir.v_extend, Ir.v_append, Ir.v_len, Ir.v_isi, Ir.v_toInt, Ir.v_all, Ir.v_tupOf, Ir.v_dictOf, Ir.v_dlit, Ir.v_dget3, Ir.v_eqL, Ir.v_op1, Ir.v_op2, Ir.v_fstr, Ir.f_nil, Ir.f_cons, Ir.a_nil', Ir.a_cons', Ir.a_star', Ir.l_disp', Ir.l_of', Ir.l_cat', Ir.l_cut', Ir.b_no', Ir.b_at', Ir.i_tup', Ir.i_lst', Ir.i_str', Ir.i_rng', Ir.ss_nil', Ir.ss_asg, Ir.ss_expr, Ir.ss_ret, Ir.ss_unp, Ir.ss_ite, Ir.ss_setI, Ir.ss_for, Ir.finA_p, Ir.strD_str, Ir.ofD_tup, Ir.dicAt_eq, Ir.lstAt_eq, Ir.dget3_str, Ir.dixD_int, Ir.srcLst_eq, Ir.ofD_ref, Ir.tupD_ref, Ir.lenD_ref, Ir.lenD_tup, Ir.getI_ref, Ir.lsA_lst, Ir.ifA_t, Ir.appD_eq, Ir.extD_eq, Ir.catD_eq, Ir.rb_p, decide_true, decide_false, Bool.true_and, Bool.and_true, Ir.atA_no, Ir.atA_go, Ir.contA_next, Ir.contA_ret, Ir.size_fix, Ir.size_dyn, Ir.at_fix, Ir.at_dyn, Ir.turn_one, List.length_map, List.getElem?_nil, Ir.tgt, Ir.setAll, Bool.false_eq_true, List.set_nil, List.getElem?_cons_zero, List.getElem?_cons_succ, List.set_cons_zero, List.set_cons_succ, List.map_cons, List.map_nil, List.length_cons, List.length_nil, List.replicate_succ, List.replicate_zero, List.cons_append, List.nil_append, Option.map_some, Option.bind_some, Ir.app_get, Ir.app_get0, Ir.app_set, Ir.app_set0, Ir.app_take, Ir.app_one, Ir.len_app, Nat.reduceAdd, Nat.reduceSub, Nat.reduceLeDiff, if_true, if_false, o1, a1, eqD_ne, d1, truth_tup, hf, d3]
    · have d1 : (!decide (u.above = "")) = false := by rw [decide_eq_true ha]; rfl
      have d3 : (!decide (u.faces = [])) = true := by rw [decide_eq_false hz]; rfl
      have a2 := allocL (S ++ [.lst [.p (.str "kind"), .p (.str u.nm)]]) (D.p (.str "faces") :: u.faces.map fz) (all_fz _ ("faces" :: u.faces))
      refine ⟨[.lst (D.p (.str "faces") :: u.faces.map fz)], ?_⟩
      have hh : D.p (.str "kind") :: .p (.str u.nm) :: .p (.str "faces") :: u.faces.map fz = u.head.map fz := by unfold Kind.head; rw [if_pos ha, if_neg hz]; rfl
      have o2 : u.faces.length + 1 ≤ 100000 := by omega
      have o2' : u.faces.length ≤ 99999 := by omega
      have o3 : decide (2 + (u.faces.length + 1) ≤ 100000) = true := decide_eq_true (by omega)
      have o4 : ((D.p (.str "faces") :: u.faces.map fz).all (rb S.length)) = true := all_fz _ ("faces" :: u.faces)
      rw [← hh]
      simp -dsimp only [Ir.then_val, Ir.optA_some, Ir.boolA_t, Ir.boolA_f, Ir.seqA_next, Ir.seqA_ret, Ir.wp_val_, Ir.v_var, Ir.v_cst, Ir.v_bin, Ir.v_cmp, Ir.v_chain, Ir.v_and, Ir.v_or, Ir.v_not, Ir.v_ifx, Ir.v_neg, Ir.v_call, Ir.v_tup, Ir.v_lst, Ir.v_idx, Ir.v_idxL, Ir.v_slice, Ir.v_strOf, Ir.v_join, Ir.v_extend, Ir.v_append, Ir.v_len, Ir.v_isi, Ir.v_toInt, Ir.v_all, Ir.v_tupOf, Ir.v_dictOf, Ir.v_dlit, Ir.v_dget3, Ir.v_eqL, Ir.v_op1, Ir.v_op2, Ir.v_fstr, Ir.f_nil, Ir.f_cons, Ir.a_nil', Ir.a_cons', Ir.a_star', Ir.l_disp', Ir.l_of', Ir.l_cat', Ir.l_cut', Ir.b_no', Ir.b_at', Ir.i_tup', Ir.i_lst', Ir.i_str', Ir.i_rng', Ir.ss_nil', Ir.ss_asg, Ir.ss_expr, Ir.ss_ret, Ir.ss_unp, Ir.ss_ite, Ir.ss_setI, Ir.ss_for, Ir.finA_p, Ir.strD_str, Ir.ofD_tup, Ir.dicAt_eq, Ir.lstAt_eq, Ir.dget3_str, Ir.dixD_int, Ir.srcLst_eq, Ir.ofD_ref, Ir.tupD_ref, Ir.lenD_ref, Ir.lenD_tup, Ir.getI_ref, Ir.lsA_lst, Ir.ifA_t, Ir.appD_eq, Ir.extD_eq, Ir.catD_eq, Ir.rb_p, decide_true, decide_false, Bool.true_and, Bool.and_true, Ir.atA_no, Ir.atA_go, Ir.contA_next, Ir.contA_ret, Ir.size_fix, Ir.size_dyn, Ir.at_fix, Ir.at_dyn, Ir.turn_one, List.length_map, List.getElem?_nil, Ir.tgt, Ir.setAll, Bool.false_eq_true, List.set_nil, List.getElem?_cons_zero, List.getElem?_cons_succ, List.set_cons_zero, List.set_cons_succ, List.map_cons, List.map_nil, List.length_cons, List.length_nil, List.replicate_succ, List.replicate_zero, List.cons_append, List.nil_append, Option.map_some, Option.bind_some, Ir.app_get, Ir.app_get0, Ir.app_set, Ir.app_set0, Ir.app_take, Ir.app_one, Ir.len_app, Nat.reduceAdd, Nat.reduceSub, Nat.reduceLeDiff, if_true, if_false, o1, a1, eqD_ne, d1, truth_tup, hf, d3, m1, o2, o2', List.append_nil, a2, o3, o4]
  · have d1 : (!decide (u.above = "")) = true := by rw [decide_eq_false ha]; rfl
    have a2 := allocL (S ++ [.lst [.p (.str "kind"), .p (.str u.nm)]]) [.p (.str "above"), .p (.str u.above)] rfl
    have o3 : decide (2 + 2 ≤ 100000) = true := by decide
    have o4 : ([D.p (.str "above"), .p (.str u.above)].all (rb S.length)) = true := rfl
    by_cases hz : u.faces = []
    · have d3 : (!decide (u.faces = [])) = false := by rw [decide_eq_true hz]; rfl
      refine ⟨[.lst [.p (.str "above"), .p (.str u.above)]], ?_⟩
      have hh : [D.p (.str "kind"), .p (.str u.nm), .p (.str "above"), .p (.str u.above)] = u.head.map fz := by unfold Kind.head; rw [if_neg ha, if_pos hz]; rfl
      rw [← hh]
      simp -dsimp only [Ir.then_val, Ir.optA_some, Ir.boolA_t, Ir.boolA_f, Ir.seqA_next, Ir.seqA_ret, Ir.wp_val_, Ir.v_var, Ir.v_cst, Ir.v_bin, Ir.v_cmp, Ir.v_chain, Ir.v_and, Ir.v_or, Ir.v_not, Ir.v_ifx, Ir.v_neg, Ir.v_call, Ir.v_tup, Ir.v_lst, Ir.v_idx, Ir.v_idxL, Ir.v_slice, Ir.v_strOf, Ir.v_join, Ir.v_extend, Ir.v_append, Ir.v_len, Ir.v_isi, Ir.v_toInt, Ir.v_all, Ir.v_tupOf, Ir.v_dictOf, Ir.v_dlit, Ir.v_dget3, Ir.v_eqL, Ir.v_op1, Ir.v_op2, Ir.v_fstr, Ir.f_nil, Ir.f_cons, Ir.a_nil', Ir.a_cons', Ir.a_star', Ir.l_disp', Ir.l_of', Ir.l_cat', Ir.l_cut', Ir.b_no', Ir.b_at', Ir.i_tup', Ir.i_lst', Ir.i_str', Ir.i_rng', Ir.ss_nil', Ir.ss_asg, Ir.ss_expr, Ir.ss_ret, Ir.ss_unp, Ir.ss_ite, Ir.ss_setI, Ir.ss_for, Ir.finA_p, Ir.strD_str, Ir.ofD_tup, Ir.dicAt_eq, Ir.lstAt_eq, Ir.dget3_str, Ir.dixD_int, Ir.srcLst_eq, Ir.ofD_ref, Ir.tupD_ref, Ir.lenD_ref, Ir.lenD_tup, Ir.getI_ref, Ir.lsA_lst, Ir.ifA_t, Ir.appD_eq, Ir.extD_eq, Ir.catD_eq, Ir.rb_p, decide_true, decide_false, Bool.true_and, Bool.and_true, Ir.atA_no, Ir.atA_go, Ir.contA_next, Ir.contA_ret, Ir.size_fix, Ir.size_dyn, Ir.at_fix, Ir.at_dyn, Ir.turn_one, List.length_map, List.getElem?_nil, Ir.tgt, Ir.setAll, Bool.false_eq_true, List.set_nil, List.getElem?_cons_zero, List.getElem?_cons_succ, List.set_cons_zero, List.set_cons_succ, List.map_cons, List.map_nil, List.length_cons, List.length_nil, List.replicate_succ, List.replicate_zero, List.cons_append, List.nil_append, Option.map_some, Option.bind_some, Ir.app_get, Ir.app_get0, Ir.app_set, Ir.app_set0, Ir.app_take, Ir.app_one, Ir.len_app, Nat.reduceAdd, Nat.reduceSub, Nat.reduceLeDiff, if_true, if_false, o1, a1, eqD_ne, d1, a2, o3, o4, truth_tup, hf, d3]
    · have d3 : (!decide (u.faces = [])) = true := by rw [decide_eq_false hz]; rfl
      refine ⟨[.lst [.p (.str "above"), .p (.str u.above)], .lst (D.p (.str "faces") :: u.faces.map fz)], ?_⟩
      have a3 := allocL (S ++ [.lst [.p (.str "kind"), .p (.str u.nm), .p (.str "above"), .p (.str u.above)], .lst [.p (.str "above"), .p (.str u.above)]]) (D.p (.str "faces") :: u.faces.map fz) (all_fz _ ("faces" :: u.faces))
      have hh : D.p (.str "kind") :: .p (.str u.nm) :: .p (.str "above") :: .p (.str u.above) :: .p (.str "faces") :: u.faces.map fz = u.head.map fz := by unfold Kind.head; rw [if_neg ha, if_neg hz]; rfl
      have o2 : u.faces.length + 1 ≤ 100000 := by omega
      have o2' : u.faces.length ≤ 99999 := by omega
      have o5 : decide (4 + (u.faces.length + 1) ≤ 100000) = true := decide_eq_true (by omega)
      have o6 : ((D.p (.str "faces") :: u.faces.map fz).all (rb S.length)) = true := all_fz _ ("faces" :: u.faces)
      rw [← hh]
      simp -dsimp only [Ir.then_val, Ir.optA_some, Ir.boolA_t, Ir.boolA_f, Ir.seqA_next, Ir.seqA_ret, Ir.wp_val_, Ir.v_var, Ir.v_cst, Ir.v_bin, Ir.v_cmp, Ir.v_chain, Ir.v_and, Ir.v_or, Ir.v_not, Ir.v_ifx, Ir.v_neg, Ir.v_call, Ir.v_tup, Ir.v_lst, Ir.v_idx, Ir.v_idxL, Ir.v_slice, Ir.v_strOf, Ir.v_join, Ir.v_extend, Ir.v_append, Ir.v_len, Ir.v_isi, Ir.v_toInt, Ir.v_all, Ir.v_tupOf, Ir.v_dictOf, Ir.v_dlit, Ir.v_dget3, Ir.v_eqL, Ir.v_op1, Ir.v_op2, Ir.v_fstr, Ir.f_nil, Ir.f_cons, Ir.a_nil', Ir.a_cons', Ir.a_star', Ir.l_disp', Ir.l_of', Ir.l_cat', Ir.l_cut', Ir.b_no', Ir.b_at', Ir.i_tup', Ir.i_lst', Ir.i_str', Ir.i_rng', Ir.ss_nil', Ir.ss_asg, Ir.ss_expr, Ir.ss_ret, Ir.ss_unp, Ir.ss_ite, Ir.ss_setI, Ir.ss_for, Ir.finA_p, Ir.strD_str, Ir.ofD_tup, Ir.dicAt_eq, Ir.lstAt_eq, Ir.dget3_str, Ir.dixD_int, Ir.srcLst_eq, Ir.ofD_ref, Ir.tupD_ref, Ir.lenD_ref, Ir.lenD_tup, Ir.getI_ref, Ir.lsA_lst, Ir.ifA_t, Ir.appD_eq, Ir.extD_eq, Ir.catD_eq, Ir.rb_p, decide_true, decide_false, Bool.true_and, Bool.and_true, Ir.atA_no, Ir.atA_go, Ir.contA_next, Ir.contA_ret, Ir.size_fix, Ir.size_dyn, Ir.at_fix, Ir.at_dyn, Ir.turn_one, List.length_map, List.getElem?_nil, Ir.tgt, Ir.setAll, Bool.false_eq_true, List.set_nil, List.getElem?_cons_zero, List.getElem?_cons_succ, List.set_cons_zero, List.set_cons_succ, List.map_cons, List.map_nil, List.length_cons, List.length_nil, List.replicate_succ, List.replicate_zero, List.cons_append, List.nil_append, Option.map_some, Option.bind_some, Ir.app_get, Ir.app_get0, Ir.app_set, Ir.app_set0, Ir.app_take, Ir.app_one, Ir.len_app, Nat.reduceAdd, Nat.reduceSub, Nat.reduceLeDiff, if_true, if_false, o1, a1, eqD_ne, d1, a2, o3, o4, truth_tup, hf, d3, m1, o2, o2', List.append_nil, a3, o5, o6]
/-! ### the rest of a kind -/
theorem fin_tail {S X J : Sto} {ρ : Sl} {zs : List Str} (hX : ∃ T, X = S ++ T) : finA S.length (.val (.ret (.ref X.length), ρ) (X ++ .lst (zs.map fz) :: J)) = .val (.ref S.length) (S ++ [.lst (zs.map fz)]) := by
  obtain ⟨T, rfl⟩ := hX
  have e : (S ++ T) ++ MO.lst (zs.map fz) :: J = S ++ (T ++ MO.lst (zs.map fz) :: J) := List.append_assoc ..
  rw [e, List.length_append]
  refine finA_ref0 rfl ?_
  rw [List.getElem?_append_right (Nat.le_refl _)]
  simp
theorem wlines_le {w : Way} (h : w.Ok) : (wlines w).length ≤ 100 := by
  have := lines_le h (w.rows.length + 1)
  have := h.rl
  unfold wlines
  omega
theorem flat_le {ways : List Way} (h : ∀ w ∈ ways, w.Ok) : (ways.flatMap wlines).length ≤ ways.length * 100 := by
  induction ways with
  | nil => simp
  | cons w ws ih =>
    rw [List.flatMap_cons, List.length_append, List.length_cons, Nat.succ_mul]
    have h1 := wlines_le (h w (List.mem_cons_self ..))
    have h2 := ih fun q hq => h q (List.mem_cons_of_mem _ hq)
    omega
theorem upto_le {u : Kind} (h : u.Ok) (i : Nat) : (u.upto i).length ≤ 1000 := by
  unfold Kind.upto
  have h1 := flat_le (ways := u.ways.take i) fun w hw => h.ways w (List.mem_of_mem_take hw)
  have h2 : (u.ways.take i).length ≤ u.ways.length := by rw [List.length_take]; omega
  have h3 := h.wl
  have h4 := h.dl
  simp only [List.length_cons, List.length_append, List.length_map]
  omega
theorem upto_succ (u : Kind) {i : Nat} {w : Way} (h : u.ways[i]? = some w) : u.upto (i + 1) = u.upto i ++ wlines w := by
  unfold Kind.upto
  rw [List.take_add_one, h, Option.toList_some, List.flatMap_append, List.flatMap_cons, List.flatMap_nil, List.append_nil, ← List.append_assoc]
def junkK (u : Kind) (J : Sto) (i : Nat) : Sto := J ++ (u.ways.take i).map fun w => .lst ((wlines w).map fz)
theorem junk_succ (u : Kind) (J : Sto) {i : Nat} {w : Way} (h : u.ways[i]? = some w) : junkK u J (i + 1) = junkK u J i ++ [.lst ((wlines w).map fz)] := by
  unfold junkK
  rw [List.take_add_one, h, Option.toList_some, List.map_append, ← List.append_assoc]
  rfl
/-- a list at X's end grows by the list at the store's end -/
theorem grow_end {X J : Sto} {zs ys : List Str} (hl : zs.length + ys.length ≤ 100000) : extD (.ref X.length) (.ref (X ++ .lst (zs.map fz) :: J).length) (X ++ .lst (zs.map fz) :: J ++ [.lst (ys.map fz)]) = .val (.p .none) (X ++ .lst ((zs ++ ys).map fz) :: (J ++ [.lst (ys.map fz)])) := by
  rw [ext_new (ds := zs.map fz) (es := ys.map fz) (app_get0 ..) (all_fz _ _) (by simp; omega), app_set0, ← List.map_append, List.append_assoc]
  rfl
theorem ways_run (k : Nat) {u : Kind} (h : u.Ok) {j : Nat} (ρ : Sl) (X J : Sto) (a b : Option D) (hd : Option D) :
    forGo (.fix ((u.ways.map Way.py).map D.p)) (turn (calK fs (k + 3)) [9] true (.cons (.expr (.extend (.var 8) (.call 5 (.cons (.var 9) .nil)))) .nil)) u.ways.length 0 (slotsK u hd (some (.ref X.length)) none) (X ++ .lst ((u.upto 0).map fz) :: J) =
      .val (.next, slotsK u hd (some (.ref X.length)) (if u.ways.length = 0 then none else (u.ways[u.ways.length - 1]?).map fun w => D.p w.py)) (X ++ .lst ((u.upto u.ways.length).map fz) :: junkK u J u.ways.length) := by
  have loop := for_seq (ds := (u.ways.map Way.py).map D.p) (body := turn (calK fs (k + 3)) [9] true (.cons (.expr (.extend (.var 8) (.call 5 (.cons (.var 9) .nil)))) .nil))
    (fun i => slotsK u hd (some (.ref X.length)) (if i = 0 then none else (u.ways[i - 1]?).map fun w => D.p w.py)) (fun i => X ++ .lst ((u.upto i).map fz) :: junkK u J i) (fun i d hi => by
      rw [List.map_map, List.getElem?_map] at hi
      obtain ⟨w, hw, rfl⟩ := Option.map_eq_some_iff.mp hi
      have hwok := h.ways w (List.mem_of_getElem? hw)
      rw [turn_one]
      have e2 : (slotsK u hd (some (.ref X.length)) (if i = 0 then none else (u.ways[i - 1]?).map fun w => D.p w.py)).set 9 (some (D.p w.py)) = slotsK u hd (some (.ref X.length)) (some (.p w.py)) := rfl
      have e3 : (if i + 1 = 0 then none else (u.ways[i + 1 - 1]?).map fun w => D.p w.py) = some (.p w.py) := by
        rw [if_neg (by omega), Nat.add_sub_cancel, hw]; rfl
      show exSs _ _ ((slotsK u hd (some (.ref X.length)) (if i = 0 then none else (u.ways[i - 1]?).map fun w => D.p w.py)).set 9 (some (D.p w.py))) _ = .val (.next, slotsK u hd (some (.ref X.length)) (if i + 1 = 0 then none else (u.ways[i + 1 - 1]?).map fun w => D.p w.py)) _
      rw [e2, e3]
      have g := grow_end (X := X) (J := junkK u J i) (zs := u.upto i) (ys := wlines w) (by have := upto_le h i; have := wlines_le hwok; omega)
      have wl : calK fs (k + 3) 5 [.p w.py] (X ++ .lst ((u.upto i).map fz) :: junkK u J i) = .val (.ref (X ++ .lst ((u.upto i).map fz) :: junkK u J i).length) ((X ++ .lst ((u.upto i).map fz) :: junkK u J i) ++ [.lst ((wlines w).map fz)]) := waylines_ok k hwok _
      rw [upto_succ u hw, junk_succ u J hw]
      have lk : ∀ zs J, (X ++ MO.lst (List.map fz zs) :: J)[X.length]? = some (.lst (zs.map fz)) := fun zs J => app_get0 ..
      obtain ⟨Y, hY⟩ : ∃ Y, Y = X ++ MO.lst ((u.upto i).map fz) :: junkK u J i := ⟨_, rfl⟩
      have l0 := lk (u.upto i) (junkK u J i)
      rw [← hY] at g wl l0 ⊢
      unfold slotsK
      simp -dsimp only [Ir.then_val, Ir.optA_some, Ir.boolA_t, Ir.boolA_f, Ir.seqA_next, Ir.seqA_ret, Ir.wp_val_, Ir.v_var, Ir.v_cst, Ir.v_bin, Ir.v_cmp, Ir.v_chain, Ir.v_and, Ir.v_or, Ir.v_not, Ir.v_ifx, Ir.v_neg, Ir.v_call, Ir.v_tup, Ir.v_lst, Ir.v_idx, Ir.v_idxL, Ir.v_slice, Ir.v_strOf, Ir.v_join, Ir.v_extend, Ir.v_append, Ir.v_len, Ir.v_isi, Ir.v_toInt, Ir.v_all, Ir.v_tupOf, Ir.v_dictOf, Ir.v_dlit, Ir.v_dget3, Ir.v_eqL, Ir.v_op1, Ir.v_op2, Ir.v_fstr, Ir.f_nil, Ir.f_cons, Ir.a_nil', Ir.a_cons', Ir.a_star', Ir.l_disp', Ir.l_of', Ir.l_cat', Ir.l_cut', Ir.b_no', Ir.b_at', Ir.i_tup', Ir.i_lst', Ir.i_str', Ir.i_rng', Ir.ss_nil', Ir.ss_asg, Ir.ss_expr, Ir.ss_ret, Ir.ss_unp, Ir.ss_ite, Ir.ss_setI, Ir.ss_for, Ir.finA_p, Ir.strD_str, Ir.ofD_tup, Ir.dicAt_eq, Ir.lstAt_eq, Ir.dget3_str, Ir.dixD_int, Ir.srcLst_eq, Ir.ofD_ref, Ir.tupD_ref, Ir.lenD_ref, Ir.lenD_tup, Ir.getI_ref, Ir.lsA_lst, Ir.ifA_t, Ir.appD_eq, Ir.catD_eq, Ir.rb_p, decide_true, decide_false, Bool.true_and, Bool.and_true, Ir.atA_no, Ir.atA_go, Ir.contA_next, Ir.contA_ret, Ir.size_fix, Ir.size_dyn, Ir.at_fix, Ir.at_dyn, Ir.turn_one, List.length_map, List.getElem?_nil, Ir.tgt, Ir.setAll, Bool.false_eq_true, List.set_nil, List.getElem?_cons_zero, List.getElem?_cons_succ, List.set_cons_zero, List.set_cons_succ, List.map_cons, List.map_nil, List.length_cons, List.length_nil, List.replicate_succ, List.replicate_zero, List.cons_append, List.nil_append, Option.map_some, Option.bind_some, Ir.app_get, Ir.app_get0, Ir.app_set, Ir.app_set0, Ir.app_take, Ir.len_app, Nat.reduceAdd, Nat.reduceSub, Nat.reduceLeDiff, if_true, if_false, l0, wl, g]) u.ways.length 0 (by simp)
  have e0 : junkK u J 0 = J := by unfold junkK; simp
  simp only [if_true, List.length_map, e0] at loop
  exact loop
end Ir.K04
set_option Elab.async false
set_option linter.all false
set_option maxRecDepth 100000
set_option maxHeartbeats 1000000
namespace Ir.K04
open PySem
theorem head_le {u : Kind} (h : u.Ok) : (u.head.map (·.length)).sum + u.head.length * (" " : Str).length ≤ 1000 := by
  have e := sum_le 50 u.head fun z hz => by
    unfold Kind.head at hz
    simp only [List.mem_cons, List.mem_append] at hz
    rcases hz with rfl | rfl | hz | hz
    · decide +kernel
    · exact h.nm
    · split at hz
      · exact nomatch hz
      · simp only [List.mem_cons, List.not_mem_nil, or_false] at hz
        rcases hz with rfl | rfl
        · decide +kernel
        · exact h.above
    · split at hz
      · exact nomatch hz
      · rcases List.mem_cons.mp hz with rfl | hz
        · decide +kernel
        · exact h.faces z hz
  have l : u.head.length ≤ 10 := by
    unfold Kind.head
    have := h.fl
    simp only [List.length_cons, List.length_append]
    split <;> split <;> simp <;> omega
  rw [len_b]
  omega
theorem fd_elt (cal : Nat → List D → M D) {u : Kind} (h8 h9 hd : Option D) {f : Str × Str} (hf : f.1.length ≤ 50 ∧ f.2.length ≤ 50) (S : Sto) :
    ∃ T, evE cal (.join (.cst (.p (.str " "))) (.lst (.disp (.cons (.cst (.p (.str "field"))) (.star (.var 10) .nil))))) ((slotsK u hd h8 h9).set 10 (some (.p (fdPy f)))) S = .val (fz (fdS f)) (S ++ T) := by
  refine ⟨[.lst ([("field" : Str), f.1, f.2].map fz)], ?_⟩
  have o1 : (3 : Nat) ≤ 100000 := by omega
  have a1 := allocL S ([("field" : Str), f.1, f.2].map fz) (all_fz _ _)
  have l0 : ("field" : Str).length = 5 := by decide +kernel
  have e6 := joinD_lst (S ++ [.lst ([("field" : Str), f.1, f.2].map fz)]) S.length " " [("field" : Str), f.1, f.2] (app_get0 ..) (by
    rw [len_b]; simp only [List.map_cons, List.map_nil, List.sum_cons, List.sum_nil, List.length_cons, List.length_nil, l0]; have := hf.1; have := hf.2; omega)
  unfold slotsK
  simp only [List.map_cons, List.map_nil] at a1 e6 ⊢
  simp -dsimp only [Ir.then_val, Ir.optA_some, Ir.boolA_t, Ir.boolA_f, Ir.seqA_next, Ir.seqA_ret, Ir.wp_val_, Ir.v_var, Ir.v_cst, Ir.v_bin, Ir.v_cmp, Ir.v_chain, Ir.v_and, Ir.v_or, Ir.v_not, Ir.v_ifx, Ir.v_neg, Ir.v_call, Ir.v_tup, Ir.v_lst, Ir.v_idx, Ir.v_idxL, Ir.v_slice, Ir.v_strOf, Ir.v_join, Ir.v_extend, Ir.v_append, Ir.v_len, Ir.v_isi, Ir.v_toInt, Ir.v_all, Ir.v_tupOf, Ir.v_dictOf, Ir.v_dlit, Ir.v_dget3, Ir.v_eqL, Ir.v_op1, Ir.v_op2, Ir.v_fstr, Ir.f_nil, Ir.f_cons, Ir.a_nil', Ir.a_cons', Ir.a_star', Ir.l_disp', Ir.l_of', Ir.l_cat', Ir.l_cut', Ir.b_no', Ir.b_at', Ir.i_tup', Ir.i_lst', Ir.i_str', Ir.i_rng', Ir.ss_nil', Ir.ss_asg, Ir.ss_expr, Ir.ss_ret, Ir.ss_unp, Ir.ss_ite, Ir.ss_setI, Ir.ss_for, Ir.finA_p, Ir.strD_str, Ir.ofD_tup, Ir.dicAt_eq, Ir.lstAt_eq, Ir.dget3_str, Ir.dixD_int, Ir.srcLst_eq, Ir.ofD_ref, Ir.tupD_ref, Ir.lenD_ref, Ir.lenD_tup, Ir.getI_ref, Ir.lsA_lst, Ir.ifA_t, Ir.appD_eq, Ir.extD_eq, Ir.catD_eq, Ir.rb_p, decide_true, decide_false, Bool.true_and, Bool.and_true, Ir.atA_no, Ir.atA_go, Ir.contA_next, Ir.contA_ret, Ir.size_fix, Ir.size_dyn, Ir.at_fix, Ir.at_dyn, Ir.turn_one, List.length_map, List.getElem?_nil, Ir.tgt, Ir.setAll, Bool.false_eq_true, List.set_nil, List.getElem?_cons_zero, List.getElem?_cons_succ, List.set_cons_zero, List.set_cons_succ, List.map_cons, List.map_nil, List.length_cons, List.length_nil, List.replicate_succ, List.replicate_zero, List.cons_append, List.nil_append, Option.map_some, Option.bind_some, Ir.app_get, Ir.app_get0, Ir.app_set, Ir.app_set0, Ir.app_take, Ir.app_one, Ir.len_app, Nat.reduceAdd, Nat.reduceSub, Nat.reduceLeDiff, if_true, if_false, o1, a1, e6, List.append_nil]
  rfl
theorem kind_ok (k : Nat) {u : Kind} (h : u.Ok) (S : Sto) : calK fs (k + 4) 2 [.p u.py] S = .val (.ref S.length) (S ++ [.lst ((u.upto u.ways.length).map fz)]) := by
  rw [c2, callA S rfl]
  obtain ⟨T, hT⟩ := head_run (calK fs (k + 3)) h S
  show finA S.length (exSs (calK fs (k + 3)) b2 [some (.p u.py), none, none, none, none, none, none, none, none, none, none] S) = _
  rw [hT]
  obtain ⟨X, hX⟩ : ∃ X, X = S ++ (.lst (u.head.map fz) :: T) := ⟨_, rfl⟩
  have x0 : X[S.length]? = some (.lst (u.head.map fz)) := by rw [hX]; exact app_get0 ..
  have hX2 : ∃ T, X = S ++ T := ⟨_, hX⟩
  rw [← hX]
  have j1 : joinD X (.p (.str " ")) (.ref S.length) = some (.p (.str (Txt.join " " u.head))) := joinD_lst _ _ _ _ x0 (by have := head_le h; omega)
  have a1 := allocL X [.p (.str (Txt.join " " u.head))] rfl
  obtain ⟨T2, hT2⟩ := l_lc_grow (cal := calK fs (k + 3)) (it := .tup (.var 5)) (tg := [10]) (one := true) (elt := .join (.cst (.p (.str " "))) (.lst (.disp (.cons (.cst (.p (.str "field"))) (.star (.var 10) .nil)))))
    (ρ := slotsK u (some (.ref S.length)) (some (.ref X.length)) none) (S := X ++ [.lst [.p (.str (Txt.join " " u.head))]]) (T := []) (S0 := X ++ [.lst [.p (.str (Txt.join " " u.head))]]) (ds := (u.fields.map fdPy).map D.p)
    (f := fun d => match d with | .p (.tuple [.str a, .str b]) => fz (fdS (a, b)) | x => x) (by unfold slotsK; simp -dsimp only [Ir.then_val, Ir.optA_some, Ir.boolA_t, Ir.boolA_f, Ir.seqA_next, Ir.seqA_ret, Ir.wp_val_, Ir.v_var, Ir.v_cst, Ir.v_bin, Ir.v_cmp, Ir.v_chain, Ir.v_and, Ir.v_or, Ir.v_not, Ir.v_ifx, Ir.v_neg, Ir.v_call, Ir.v_tup, Ir.v_lst, Ir.v_idx, Ir.v_idxL, Ir.v_slice, Ir.v_strOf, Ir.v_join, Ir.v_extend, Ir.v_append, Ir.v_len, Ir.v_isi, Ir.v_toInt, Ir.v_all, Ir.v_tupOf, Ir.v_dictOf, Ir.v_dlit, Ir.v_dget3, Ir.v_eqL, Ir.v_op1, Ir.v_op2, Ir.v_fstr, Ir.f_nil, Ir.f_cons, Ir.a_nil', Ir.a_cons', Ir.a_star', Ir.l_disp', Ir.l_of', Ir.l_cat', Ir.l_cut', Ir.b_no', Ir.b_at', Ir.i_tup', Ir.i_lst', Ir.i_str', Ir.i_rng', Ir.ss_nil', Ir.ss_asg, Ir.ss_expr, Ir.ss_ret, Ir.ss_unp, Ir.ss_ite, Ir.ss_setI, Ir.ss_for, Ir.finA_p, Ir.strD_str, Ir.ofD_tup, Ir.dicAt_eq, Ir.lstAt_eq, Ir.dget3_str, Ir.dixD_int, Ir.srcLst_eq, Ir.ofD_ref, Ir.tupD_ref, Ir.lenD_ref, Ir.lenD_tup, Ir.getI_ref, Ir.lsA_lst, Ir.ifA_t, Ir.appD_eq, Ir.extD_eq, Ir.catD_eq, Ir.rb_p, decide_true, decide_false, Bool.true_and, Bool.and_true, Ir.atA_no, Ir.atA_go, Ir.contA_next, Ir.contA_ret, Ir.size_fix, Ir.size_dyn, Ir.at_fix, Ir.at_dyn, Ir.turn_one, List.length_map, List.getElem?_nil, Ir.tgt, Ir.setAll, Bool.false_eq_true, List.set_nil, List.getElem?_cons_zero, List.getElem?_cons_succ, List.set_cons_zero, List.set_cons_succ, List.map_cons, List.map_nil, List.length_cons, List.length_nil, List.replicate_succ, List.replicate_zero, List.cons_append, List.nil_append, Option.map_some, Option.bind_some, Ir.app_get, Ir.app_get0, Ir.app_set, Ir.app_set0, Ir.app_take, Ir.app_one, Ir.len_app, Nat.reduceAdd, Nat.reduceSub, Nat.reduceLeDiff, if_true, if_false, srcTup, List.append_nil]) (by have := h.dl; simp; omega) (fun d hd T => by
      obtain ⟨p, hp, rfl⟩ := List.mem_map.mp hd
      obtain ⟨f, hf, rfl⟩ := List.mem_map.mp hp
      obtain ⟨T', e⟩ := fd_elt (calK fs (k + 3)) (u := u) (some (.ref X.length)) none (some (.ref S.length)) (h.fields f hf) (X ++ [.lst [.p (.str (Txt.join " " u.head))]] ++ T)
      refine ⟨T ++ T', _, rfl, ?_⟩
      rw [← List.append_assoc]
      exact e)
  have e0 : ((u.fields.map fdPy).map D.p).map (fun d => match d with | .p (.tuple [.str a, .str b]) => fz (fdS (a, b)) | x => x) = (u.fields.map fdS).map fz := by
    simp [List.map_map]
  rw [e0] at hT2
  have e1 : X ++ [MO.lst [.p (.str (Txt.join " " u.head))]] ++ T2 = X ++ .lst ([Txt.join " " u.head].map fz) :: T2 := List.append_assoc ..
  rw [e1] at hT2
  have a2 := allocL (X ++ .lst ([Txt.join " " u.head].map fz) :: T2) ((u.fields.map fdS).map fz) (all_fz _ _)
  have g := grow_end (X := X) (J := T2) (zs := [Txt.join " " u.head]) (ys := u.fields.map fdS) (by have := h.dl; simp; omega)
  have up0 : [Txt.join " " u.head] ++ u.fields.map fdS = u.upto 0 := by unfold Kind.upto; simp
  rw [up0] at g
  have l0 : (X ++ [MO.lst [.p (.str (Txt.join " " u.head))]])[X.length]? = some (.lst [.p (.str (Txt.join " " u.head))]) := app_get0 ..
  have W := ways_run k h (j := 0) (slotsK u none none none) X (T2 ++ [.lst ((u.fields.map fdS).map fz)]) none none (some (.ref S.length))
  have sz : (Src.fix ((u.ways.map Way.py).map D.p)).size (X ++ MO.lst ((u.upto 0).map fz) :: (T2 ++ [.lst ((u.fields.map fdS).map fz)])) = some u.ways.length := by
    show some _ = _
    rw [List.length_map, List.length_map]
  obtain ⟨Y, hY⟩ : ∃ Y, Y = X ++ MO.lst ([Txt.join " " u.head].map fz) :: T2 := ⟨_, rfl⟩
  obtain ⟨Z, hZ⟩ : ∃ Z, Z = X ++ MO.lst ((u.upto 0).map fz) :: (T2 ++ [.lst ((u.fields.map fdS).map fz)]) := ⟨_, rfl⟩
  rw [← hZ] at g W sz
  rw [← hY] at hT2 a2 g
  have o1 : (1 : Nat) ≤ 100000 := by omega
  show finA S.length (exSs _ (.cons (.asg 8 _) (.cons (.expr _) (.cons (.for_ (.tup (.var 6)) [9] true _) (.cons (.ret (.var 8)) .nil)))) _ X) = _
  unfold slotsK at hT2 W ⊢
  simp -dsimp only [Ir.then_val, Ir.optA_some, Ir.boolA_t, Ir.boolA_f, Ir.seqA_next, Ir.seqA_ret, Ir.wp_val_, Ir.v_var, Ir.v_cst, Ir.v_bin, Ir.v_cmp, Ir.v_chain, Ir.v_and, Ir.v_or, Ir.v_not, Ir.v_ifx, Ir.v_neg, Ir.v_call, Ir.v_tup, Ir.v_lst, Ir.v_idx, Ir.v_idxL, Ir.v_slice, Ir.v_strOf, Ir.v_join, Ir.v_extend, Ir.v_append, Ir.v_len, Ir.v_isi, Ir.v_toInt, Ir.v_all, Ir.v_tupOf, Ir.v_dictOf, Ir.v_dlit, Ir.v_dget3, Ir.v_eqL, Ir.v_op1, Ir.v_op2, Ir.v_fstr, Ir.f_nil, Ir.f_cons, Ir.a_nil', Ir.a_cons', Ir.a_star', Ir.l_disp', Ir.l_of', Ir.l_cat', Ir.l_cut', Ir.b_no', Ir.b_at', Ir.i_tup', Ir.i_lst', Ir.i_str', Ir.i_rng', Ir.ss_nil', Ir.ss_asg, Ir.ss_expr, Ir.ss_ret, Ir.ss_unp, Ir.ss_ite, Ir.ss_setI, Ir.ss_for, Ir.finA_p, Ir.strD_str, Ir.ofD_tup, Ir.dicAt_eq, Ir.lstAt_eq, Ir.dget3_str, Ir.dixD_int, Ir.srcLst_eq, Ir.ofD_ref, Ir.tupD_ref, Ir.lenD_ref, Ir.lenD_tup, Ir.getI_ref, Ir.lsA_lst, Ir.ifA_t, Ir.appD_eq, Ir.catD_eq, Ir.rb_p, decide_true, decide_false, Bool.true_and, Bool.and_true, Ir.atA_no, Ir.atA_go, Ir.contA_next, Ir.contA_ret, Ir.size_fix, Ir.size_dyn, Ir.at_fix, Ir.at_dyn, Ir.turn_one, List.length_map, List.getElem?_nil, Ir.tgt, Ir.setAll, Bool.false_eq_true, List.set_nil, List.getElem?_cons_zero, List.getElem?_cons_succ, List.set_cons_zero, List.set_cons_succ, List.map_cons, List.map_nil, List.length_cons, List.length_nil, List.replicate_succ, List.replicate_zero, List.cons_append, List.nil_append, Option.map_some, Option.bind_some, Ir.app_get, Ir.app_get0, Ir.app_set, Ir.app_set0, Ir.app_take, Ir.len_app, Nat.reduceAdd, Nat.reduceSub, Nat.reduceLeDiff, if_true, if_false, j1, o1, a1, l0, hT2, a2, g, srcTup, W]
  exact fin_tail hX2
end Ir.K04
set_option Elab.async false
set_option linter.all false
set_option maxRecDepth 100000
set_option maxHeartbeats 1000000
namespace Ir.K04
open PySem
structure Sig where
  n : Str
  ts : List Str
  g : Str
abbrev Sig.py (s : Sig) : PyData := .tuple [.str s.n, .tuple (s.ts.map .str), .str s.g]
structure Sig.Ok (s : Sig) : Prop where
  n : s.n.length ≤ 50
  ts : ∀ t ∈ s.ts, t.length ≤ 50
  tl : s.ts.length ≤ 6
  g : s.g.length ≤ 50
structure Face where
  nm : Str
  sigs : List Sig
def Face.py (u : Face) : PyData := .tuple [.str "face", .str u.nm, .tuple (u.sigs.map Sig.py)]
structure Face.Ok (u : Face) : Prop where
  nm : u.nm.length ≤ 50
  sigs : ∀ s ∈ u.sigs, s.Ok
  sl : u.sigs.length ≤ 8
abbrev sgS (s : Sig) : Str := sigS s.n s.ts s.g
def Face.lines (u : Face) : List Str := ("face " ++ u.nm) :: u.sigs.map sgS
theorem len_face : ("face " : Str).length = 5 := by decide +kernel
theorem face_ok (k : Nat) {u : Face} (h : u.Ok) (S : Sto) : calK fs (k + 2) 3 [.p u.py] S = .val (.ref S.length) (S ++ [.lst (u.lines.map fz)]) := by
  rw [c3, callA S rfl]
  unfold b3 Face.py
  have hn := h.nm
  have e1 : fstep Str.empty (.p (.str "face ")) = some ("face " : Str) := by rw [fstep_str _ _ (by decide +kernel), str_nil]
  have e2 : fstep "face " (.p (.str u.nm)) = some ("face " ++ u.nm) := fstep_str _ _ (by rw [len_face]; omega)
  have a1 := allocL S [.p (.str ("face " ++ u.nm))] rfl
  have cL : ∀ S, evL (calK fs (k + 1)) (.lc (.tup (.var 3)) [4] true (.call 4 (.cons (.var 4) .nil))) [some (.p (.tuple [.str "face", .str u.nm, .tuple (u.sigs.map Sig.py)])), some (.p (.str "face")), some (.p (.str u.nm)), some (.p (.tuple (u.sigs.map Sig.py))), none] S = .val ((u.sigs.map sgS).map fz) S := fun S => by
    have e : ∀ s ∈ u.sigs, ∀ S, calK fs (k + 1) 4 [.p s.py] S = .val (fz (sgS s)) S := fun s hs S => sign_ok k (h.sigs s hs).n (h.sigs s hs).ts (h.sigs s hs).tl (h.sigs s hs).g S
    have hl : ((u.sigs.map Sig.py).map D.p).length ≤ 100000 := by have := h.sl; simp; omega
    have : ∀ ss : List Sig, (∀ s ∈ ss, ∀ S, calK fs (k + 1) 4 [.p s.py] S = .val (fz (sgS s)) S) → ∀ (n i : Nat), True := fun _ _ _ _ => trivial
    obtain ⟨F, hF⟩ : ∃ F : D → D, ∀ s ∈ u.sigs, F (.p s.py) = fz (sgS s) := by
      classical
      refine ⟨fun d => if hd : ∃ s ∈ u.sigs, D.p s.py = d then fz (sgS hd.choose) else d, fun s hs => ?_⟩
      have hd : ∃ t ∈ u.sigs, D.p t.py = D.p s.py := ⟨s, hs, rfl⟩
      show (if hd : ∃ t ∈ u.sigs, D.p t.py = D.p s.py then fz (sgS hd.choose) else D.p s.py) = _
      rw [dif_pos hd]
      have h1 := e hd.choose hd.choose_spec.1 []
      have h2 := e s hs []
      rw [hd.choose_spec.2, h2] at h1
      exact (Out.val.inj h1).1.symm
    have e0 : (u.sigs.map sgS).map fz = ((u.sigs.map Sig.py).map D.p).map F := by
      rw [List.map_map, List.map_map, List.map_map]
      exact List.map_congr_left fun s hs => (hF s hs).symm
    rw [e0]
    refine l_lc_fix (by simp -dsimp only [Ir.then_val, Ir.optA_some, Ir.boolA_t, Ir.boolA_f, Ir.seqA_next, Ir.seqA_ret, Ir.wp_val_, Ir.v_var, Ir.v_cst, Ir.v_bin, Ir.v_cmp, Ir.v_chain, Ir.v_and, Ir.v_or, Ir.v_not, Ir.v_ifx, Ir.v_neg, Ir.v_call, Ir.v_tup, Ir.v_lst, Ir.v_idx, Ir.v_idxL, Ir.v_slice, Ir.v_strOf, Ir.v_join, Ir.v_extend, Ir.v_append, Ir.v_len, Ir.v_isi, Ir.v_toInt, Ir.v_all, Ir.v_tupOf, Ir.v_dictOf, Ir.v_dlit, Ir.v_dget3, Ir.v_eqL, Ir.v_op1, Ir.v_op2, Ir.v_fstr, Ir.f_nil, Ir.f_cons, Ir.a_nil', Ir.a_cons', Ir.a_star', Ir.l_disp', Ir.l_of', Ir.l_cat', Ir.l_cut', Ir.b_no', Ir.b_at', Ir.i_tup', Ir.i_lst', Ir.i_str', Ir.i_rng', Ir.ss_nil', Ir.ss_asg, Ir.ss_expr, Ir.ss_ret, Ir.ss_unp, Ir.ss_ite, Ir.ss_setI, Ir.ss_for, Ir.finA_p, Ir.strD_str, Ir.ofD_tup, Ir.dicAt_eq, Ir.lstAt_eq, Ir.dget3_str, Ir.dixD_int, Ir.srcLst_eq, Ir.ofD_ref, Ir.tupD_ref, Ir.lenD_ref, Ir.lenD_tup, Ir.getI_ref, Ir.lsA_lst, Ir.ifA_t, Ir.appD_eq, Ir.extD_eq, Ir.catD_eq, Ir.rb_p, decide_true, decide_false, Bool.true_and, Bool.and_true, Ir.atA_no, Ir.atA_go, Ir.contA_next, Ir.contA_ret, Ir.size_fix, Ir.size_dyn, Ir.at_fix, Ir.at_dyn, Ir.turn_one, List.length_map, List.getElem?_nil, Ir.tgt, Ir.setAll, Bool.false_eq_true, List.set_nil, List.getElem?_cons_zero, List.getElem?_cons_succ, List.set_cons_zero, List.set_cons_succ, List.map_cons, List.map_nil, List.length_cons, List.length_nil, List.replicate_succ, List.replicate_zero, List.cons_append, List.nil_append, Option.map_some, Option.bind_some, Ir.app_get, Ir.app_get0, Ir.app_set, Ir.app_set0, Ir.app_take, Ir.app_one, Ir.len_app, Nat.reduceAdd, Nat.reduceSub, Nat.reduceLeDiff, if_true, if_false, srcTup]) hl fun d hd => ?_
    obtain ⟨p, hp, rfl⟩ := List.mem_map.mp hd
    obtain ⟨s, hs, rfl⟩ := List.mem_map.mp hp
    refine ⟨_, rfl, ?_⟩
    simp -dsimp only [Ir.then_val, Ir.optA_some, Ir.boolA_t, Ir.boolA_f, Ir.seqA_next, Ir.seqA_ret, Ir.wp_val_, Ir.v_var, Ir.v_cst, Ir.v_bin, Ir.v_cmp, Ir.v_chain, Ir.v_and, Ir.v_or, Ir.v_not, Ir.v_ifx, Ir.v_neg, Ir.v_call, Ir.v_tup, Ir.v_lst, Ir.v_idx, Ir.v_idxL, Ir.v_slice, Ir.v_strOf, Ir.v_join, Ir.v_extend, Ir.v_append, Ir.v_len, Ir.v_isi, Ir.v_toInt, Ir.v_all, Ir.v_tupOf, Ir.v_dictOf, Ir.v_dlit, Ir.v_dget3, Ir.v_eqL, Ir.v_op1, Ir.v_op2, Ir.v_fstr, Ir.f_nil, Ir.f_cons, Ir.a_nil', Ir.a_cons', Ir.a_star', Ir.l_disp', Ir.l_of', Ir.l_cat', Ir.l_cut', Ir.b_no', Ir.b_at', Ir.i_tup', Ir.i_lst', Ir.i_str', Ir.i_rng', Ir.ss_nil', Ir.ss_asg, Ir.ss_expr, Ir.ss_ret, Ir.ss_unp, Ir.ss_ite, Ir.ss_setI, Ir.ss_for, Ir.finA_p, Ir.strD_str, Ir.ofD_tup, Ir.dicAt_eq, Ir.lstAt_eq, Ir.dget3_str, Ir.dixD_int, Ir.srcLst_eq, Ir.ofD_ref, Ir.tupD_ref, Ir.lenD_ref, Ir.lenD_tup, Ir.getI_ref, Ir.lsA_lst, Ir.ifA_t, Ir.appD_eq, Ir.extD_eq, Ir.catD_eq, Ir.rb_p, decide_true, decide_false, Bool.true_and, Bool.and_true, Ir.atA_no, Ir.atA_go, Ir.contA_next, Ir.contA_ret, Ir.size_fix, Ir.size_dyn, Ir.at_fix, Ir.at_dyn, Ir.turn_one, List.length_map, List.getElem?_nil, Ir.tgt, Ir.setAll, Bool.false_eq_true, List.set_nil, List.getElem?_cons_zero, List.getElem?_cons_succ, List.set_cons_zero, List.set_cons_succ, List.map_cons, List.map_nil, List.length_cons, List.length_nil, List.replicate_succ, List.replicate_zero, List.cons_append, List.nil_append, Option.map_some, Option.bind_some, Ir.app_get, Ir.app_get0, Ir.app_set, Ir.app_set0, Ir.app_take, Ir.app_one, Ir.len_app, Nat.reduceAdd, Nat.reduceSub, Nat.reduceLeDiff, if_true, if_false, wipeD, e s hs, hF s hs]
  have a2 := allocL (S ++ [.lst [.p (.str ("face " ++ u.nm))]]) ((u.sigs.map sgS).map fz) (all_fz _ _)
  have a3 := allocL (S ++ [.lst [.p (.str ("face " ++ u.nm))], .lst ((u.sigs.map sgS).map fz)]) (D.p (.str ("face " ++ u.nm)) :: (u.sigs.map sgS).map fz) (all_fz _ (("face " ++ u.nm) :: u.sigs.map sgS))
  have o1 : (1 : Nat) ≤ 100000 := by omega
  have o2 : 1 + u.sigs.length ≤ 100000 := by have := h.sl; omega
  simp -dsimp only [Ir.then_val, Ir.optA_some, Ir.boolA_t, Ir.boolA_f, Ir.seqA_next, Ir.seqA_ret, Ir.wp_val_, Ir.v_var, Ir.v_cst, Ir.v_bin, Ir.v_cmp, Ir.v_chain, Ir.v_and, Ir.v_or, Ir.v_not, Ir.v_ifx, Ir.v_neg, Ir.v_call, Ir.v_tup, Ir.v_lst, Ir.v_idx, Ir.v_idxL, Ir.v_slice, Ir.v_strOf, Ir.v_join, Ir.v_extend, Ir.v_append, Ir.v_len, Ir.v_isi, Ir.v_toInt, Ir.v_all, Ir.v_tupOf, Ir.v_dictOf, Ir.v_dlit, Ir.v_dget3, Ir.v_eqL, Ir.v_op1, Ir.v_op2, Ir.v_fstr, Ir.f_nil, Ir.f_cons, Ir.a_nil', Ir.a_cons', Ir.a_star', Ir.l_disp', Ir.l_of', Ir.l_cat', Ir.l_cut', Ir.b_no', Ir.b_at', Ir.i_tup', Ir.i_lst', Ir.i_str', Ir.i_rng', Ir.ss_nil', Ir.ss_asg, Ir.ss_expr, Ir.ss_ret, Ir.ss_unp, Ir.ss_ite, Ir.ss_setI, Ir.ss_for, Ir.finA_p, Ir.strD_str, Ir.ofD_tup, Ir.dicAt_eq, Ir.lstAt_eq, Ir.dget3_str, Ir.dixD_int, Ir.srcLst_eq, Ir.ofD_ref, Ir.tupD_ref, Ir.lenD_ref, Ir.lenD_tup, Ir.getI_ref, Ir.lsA_lst, Ir.ifA_t, Ir.appD_eq, Ir.extD_eq, Ir.catD_eq, Ir.rb_p, decide_true, decide_false, Bool.true_and, Bool.and_true, Ir.atA_no, Ir.atA_go, Ir.contA_next, Ir.contA_ret, Ir.size_fix, Ir.size_dyn, Ir.at_fix, Ir.at_dyn, Ir.turn_one, List.length_map, List.getElem?_nil, Ir.tgt, Ir.setAll, Bool.false_eq_true, List.set_nil, List.getElem?_cons_zero, List.getElem?_cons_succ, List.set_cons_zero, List.set_cons_succ, List.map_cons, List.map_nil, List.length_cons, List.length_nil, List.replicate_succ, List.replicate_zero, List.cons_append, List.nil_append, Option.map_some, Option.bind_some, Ir.app_get, Ir.app_get0, Ir.app_set, Ir.app_set0, Ir.app_take, Ir.app_one, Ir.len_app, Nat.reduceAdd, Nat.reduceSub, Nat.reduceLeDiff, if_true, if_false, e1, e2, a1, cL, a2, a3, o1, o2]
  exact finA_ref0 (zs := u.lines) (j := 2) rfl rfl
theorem sum_ge {n : Nat} : ∀ {l : List Str}, (∀ z ∈ l, z.length ≤ n) → (l.map (·.length)).sum ≤ l.length * n := fun h => sum_le n _ h
theorem jn_len (l : List Str) (n m : Nat) (h : ∀ z ∈ l, z.length ≤ n) (hl : l.length ≤ m) : (Txt.join " " l).length ≤ m * (n + 1) := by
  have h1 := join_len " " l
  have h2 := sum_le n l h
  rw [len_b] at h1
  have h3 : l.length * n ≤ m * n := Nat.mul_le_mul_right n hl
  rw [Nat.mul_succ]
  omega
theorem sigS_len {n : Str} {ts : List Str} {g : Str} (h1 : n.length ≤ 50) (h2 : ∀ t ∈ ts, t.length ≤ 50) (h3 : ts.length ≤ 6) (h4 : g.length ≤ 50) : (sigS n ts g).length ≤ 5000 := by
  have := join_len " " (sigL n ts g)
  have := sigL_le h1 h2 h3 h4
  unfold sigS
  omega
theorem rowS_len {d : PyData} (h : RowOk d) : (rowS d).length ≤ 5000 := by
  cases h with
  | lead w r hw hr =>
    have hl : w.length ≤ 6 := by rcases hw with rfl | rfl <;> decide +kernel
    have := lbl_len hr
    show (if w = "jump" ∨ w = "nought" then w ++ " " ++ lbl r else _).length ≤ _
    rw [if_pos hw]
    simp only [str_len, len_b]
    omega
  | plain w ps h1 h2 h3 h4 h5 =>
    show (if w = "jump" ∨ w = "nought" then _ else Txt.join " " (w :: ps.map ptxt)).length ≤ _
    rw [if_neg fun h => h.elim h1 h2]
    have := jn_len (w :: ps.map ptxt) 1000 3 (fun z hz => by
      rcases List.mem_cons.mp hz with rfl | hz
      · omega
      · obtain ⟨p, hp, rfl⟩ := List.mem_map.mp hz
        exact ptxt_len (h4 p hp)) (by simp; omega)
    omega
theorem lines_len {w : Way} (h : w.Ok) (n : Nat) (hn : n ≤ 50) : ∀ z ∈ w.lines n, z.length ≤ 5000 := by
  intro z hz
  unfold Way.lines at hz
  rcases List.mem_append.mp hz with hz | hz
  · rcases List.mem_cons.mp hz with rfl | hz
    · exact sigS_len h.n h.ts h.tl h.g
    · obtain ⟨c, hc, rfl⟩ := List.mem_map.mp hz
      obtain ⟨c1, c2, c3⟩ := h.cs c hc
      have := jn_len [("catch" : Str), lbl c.f, lbl c.t, lbl c.a] 1001 4 (fun z hz => by
        simp only [List.mem_cons, List.not_mem_nil, or_false] at hz
        rcases hz with rfl | rfl | rfl | rfl
        · decide +kernel
        · exact lbl_len c1
        · exact lbl_len c2
        · exact lbl_len c3) (by simp)
      unfold catS
      omega
  · obtain ⟨i, hi, hz⟩ := List.mem_flatMap.mp hz
    rw [List.mem_range] at hi
    have sm := lbl_len (sm_nat i (by omega))
    unfold Way.line at hz
    rcases List.mem_append.mp hz with hz | hz
    · unfold Way.lineA at hz
      split at hz
      · rename_i d e
        rw [List.mem_singleton] at hz
        subst hz
        have := hS_len h e
        simp only [str_len, len_at, len_b]
        omega
      · split at hz
        · rw [List.mem_singleton] at hz
          subst hz
          simp only [str_len, len_mark]
          omega
        · exact nomatch hz
    · unfold Way.lineB at hz
      split at hz
      · rename_i r e
        rw [List.mem_singleton] at hz
        subst hz
        exact rowS_len (h.rows r (List.mem_of_getElem? e))
      · exact nomatch hz
theorem upto_len {u : Kind} (h : u.Ok) (i : Nat) : ∀ z ∈ u.upto i, z.length ≤ 5000 := by
  intro z hz
  unfold Kind.upto at hz
  rcases List.mem_append.mp hz with hz | hz
  · rcases List.mem_cons.mp hz with rfl | hz
    · have := join_len " " u.head
      have := head_le h
      omega
    · obtain ⟨f, hf, rfl⟩ := List.mem_map.mp hz
      obtain ⟨f1, f2⟩ := h.fields f hf
      have := jn_len [("field" : Str), f.1, f.2] 50 3 (fun z hz => by
        simp only [List.mem_cons, List.not_mem_nil, or_false] at hz
        rcases hz with rfl | rfl | rfl
        · decide +kernel
        · exact f1
        · exact f2) (by simp)
      unfold fdS
      omega
  · obtain ⟨w, hw, hz⟩ := List.mem_flatMap.mp hz
    have hwo := h.ways w (List.mem_of_mem_take hw)
    have := hwo.rl
    exact lines_len hwo _ (by omega) z hz
theorem face_len {u : Face} (h : u.Ok) : ∀ z ∈ u.lines, z.length ≤ 5000 := by
  intro z hz
  unfold Face.lines at hz
  rcases List.mem_cons.mp hz with rfl | hz
  · have := h.nm
    simp only [str_len, len_face]; omega
  · obtain ⟨s, hs, rfl⟩ := List.mem_map.mp hz
    have q := h.sigs s hs
    exact sigS_len q.n q.ts q.tl q.g
theorem len_nl : ("\n" : Str).length = 1 := by decide +kernel
theorem join_fit (l : List Str) (h : ∀ z ∈ l, z.length ≤ 5000) (hl : l.length ≤ 1000) : (l.map (·.length)).sum + l.length * ("\n" : Str).length ≤ 16777216 := by
  have h2 := sum_le 5000 l h
  have h3 : l.length * 5000 ≤ 1000 * 5000 := Nat.mul_le_mul_right _ hl
  rw [len_nl]
  omega
def uS (l : List Str) : Str := Txt.join "\n" l
theorem written_kind (k : Nat) {u : Kind} (h : u.Ok) (S : Sto) : calK fs (k + 5) 1 [.p u.py] S = .val (.p (.str (uS (u.upto u.ways.length)))) S := by
  rw [c1, callA S rfl]
  unfold b1
  have g0 : ∀ S, getI S (.p u.py) (.p (.int 0)) = some (.p (.str "kind")) := fun S => get0 ..
  have e1 : eqD (.p (.str "kind")) (.p (.str "kind")) = some true := by rw [eqD_str, decide_eq_true rfl]
  have j1 := joinD_lst (S ++ [.lst ((u.upto u.ways.length).map fz)]) S.length "\n" (u.upto u.ways.length) (app_get0 ..) (join_fit _ (upto_len h _) (upto_le h _))
  simp -dsimp only [Ir.then_val, Ir.optA_some, Ir.boolA_t, Ir.boolA_f, Ir.seqA_next, Ir.seqA_ret, Ir.wp_val_, Ir.v_var, Ir.v_cst, Ir.v_bin, Ir.v_cmp, Ir.v_chain, Ir.v_and, Ir.v_or, Ir.v_not, Ir.v_ifx, Ir.v_neg, Ir.v_call, Ir.v_tup, Ir.v_lst, Ir.v_idx, Ir.v_idxL, Ir.v_slice, Ir.v_strOf, Ir.v_join, Ir.v_extend, Ir.v_append, Ir.v_len, Ir.v_isi, Ir.v_toInt, Ir.v_all, Ir.v_tupOf, Ir.v_dictOf, Ir.v_dlit, Ir.v_dget3, Ir.v_eqL, Ir.v_op1, Ir.v_op2, Ir.v_fstr, Ir.f_nil, Ir.f_cons, Ir.a_nil', Ir.a_cons', Ir.a_star', Ir.l_disp', Ir.l_of', Ir.l_cat', Ir.l_cut', Ir.b_no', Ir.b_at', Ir.i_tup', Ir.i_lst', Ir.i_str', Ir.i_rng', Ir.ss_nil', Ir.ss_asg, Ir.ss_expr, Ir.ss_ret, Ir.ss_unp, Ir.ss_ite, Ir.ss_setI, Ir.ss_for, Ir.finA_p, Ir.strD_str, Ir.ofD_tup, Ir.dicAt_eq, Ir.lstAt_eq, Ir.dget3_str, Ir.dixD_int, Ir.srcLst_eq, Ir.ofD_ref, Ir.tupD_ref, Ir.lenD_ref, Ir.lenD_tup, Ir.getI_ref, Ir.lsA_lst, Ir.ifA_t, Ir.appD_eq, Ir.extD_eq, Ir.catD_eq, Ir.rb_p, decide_true, decide_false, Bool.true_and, Bool.and_true, Ir.atA_no, Ir.atA_go, Ir.contA_next, Ir.contA_ret, Ir.size_fix, Ir.size_dyn, Ir.at_fix, Ir.at_dyn, Ir.turn_one, List.length_map, List.getElem?_nil, Ir.tgt, Ir.setAll, Bool.false_eq_true, List.set_nil, List.getElem?_cons_zero, List.getElem?_cons_succ, List.set_cons_zero, List.set_cons_succ, List.map_cons, List.map_nil, List.length_cons, List.length_nil, List.replicate_succ, List.replicate_zero, List.cons_append, List.nil_append, Option.map_some, Option.bind_some, Ir.app_get, Ir.app_get0, Ir.app_set, Ir.app_set0, Ir.app_take, Ir.app_one, Ir.len_app, Nat.reduceAdd, Nat.reduceSub, Nat.reduceLeDiff, if_true, if_false, g0, cop_eq, e1, kind_ok k h, j1]
  rfl
theorem written_face (k : Nat) {u : Face} (h : u.Ok) (S : Sto) : calK fs (k + 3) 1 [.p u.py] S = .val (.p (.str (uS u.lines))) S := by
  rw [c1, callA S rfl]
  unfold b1
  have g0 : ∀ S, getI S (.p u.py) (.p (.int 0)) = some (.p (.str "face")) := fun S => get0 ..
  have e1 : eqD (.p (.str "face")) (.p (.str "kind")) = some false := by kernel_rfl
  have j1 := joinD_lst (S ++ [.lst (u.lines.map fz)]) S.length "\n" u.lines (app_get0 ..) (join_fit _ (face_len h) (by unfold Face.lines; have := h.sl; simp; omega))
  simp -dsimp only [Ir.then_val, Ir.optA_some, Ir.boolA_t, Ir.boolA_f, Ir.seqA_next, Ir.seqA_ret, Ir.wp_val_, Ir.v_var, Ir.v_cst, Ir.v_bin, Ir.v_cmp, Ir.v_chain, Ir.v_and, Ir.v_or, Ir.v_not, Ir.v_ifx, Ir.v_neg, Ir.v_call, Ir.v_tup, Ir.v_lst, Ir.v_idx, Ir.v_idxL, Ir.v_slice, Ir.v_strOf, Ir.v_join, Ir.v_extend, Ir.v_append, Ir.v_len, Ir.v_isi, Ir.v_toInt, Ir.v_all, Ir.v_tupOf, Ir.v_dictOf, Ir.v_dlit, Ir.v_dget3, Ir.v_eqL, Ir.v_op1, Ir.v_op2, Ir.v_fstr, Ir.f_nil, Ir.f_cons, Ir.a_nil', Ir.a_cons', Ir.a_star', Ir.l_disp', Ir.l_of', Ir.l_cat', Ir.l_cut', Ir.b_no', Ir.b_at', Ir.i_tup', Ir.i_lst', Ir.i_str', Ir.i_rng', Ir.ss_nil', Ir.ss_asg, Ir.ss_expr, Ir.ss_ret, Ir.ss_unp, Ir.ss_ite, Ir.ss_setI, Ir.ss_for, Ir.finA_p, Ir.strD_str, Ir.ofD_tup, Ir.dicAt_eq, Ir.lstAt_eq, Ir.dget3_str, Ir.dixD_int, Ir.srcLst_eq, Ir.ofD_ref, Ir.tupD_ref, Ir.lenD_ref, Ir.lenD_tup, Ir.getI_ref, Ir.lsA_lst, Ir.ifA_t, Ir.appD_eq, Ir.extD_eq, Ir.catD_eq, Ir.rb_p, decide_true, decide_false, Bool.true_and, Bool.and_true, Ir.atA_no, Ir.atA_go, Ir.contA_next, Ir.contA_ret, Ir.size_fix, Ir.size_dyn, Ir.at_fix, Ir.at_dyn, Ir.turn_one, List.length_map, List.getElem?_nil, Ir.tgt, Ir.setAll, Bool.false_eq_true, List.set_nil, List.getElem?_cons_zero, List.getElem?_cons_succ, List.set_cons_zero, List.set_cons_succ, List.map_cons, List.map_nil, List.length_cons, List.length_nil, List.replicate_succ, List.replicate_zero, List.cons_append, List.nil_append, Option.map_some, Option.bind_some, Ir.app_get, Ir.app_get0, Ir.app_set, Ir.app_set0, Ir.app_take, Ir.app_one, Ir.len_app, Nat.reduceAdd, Nat.reduceSub, Nat.reduceLeDiff, if_true, if_false, g0, cop_eq, e1, face_ok k h, j1]
  rfl
end Ir.K04
set_option Elab.async false
set_option linter.all false
set_option maxRecDepth 100000
set_option maxHeartbeats 1000000
namespace Ir.K04
open PySem
theorem eqD_tup (xs ys : List PyData) (h1 : SeqAt.shaped (.tuple xs) = true) (h2 : SeqAt.shaped (.tuple ys) = true) : eqD (.p (.tuple xs)) (.p (.tuple ys)) = some (PyData.eqv (.tuple xs) (.tuple ys)) := by
  unfold eqD
  simp only [sameScal, h1, h2, Bool.and_self, if_true, Bool.false_eq_true, if_false]
theorem eqv_nil (xs : List PyData) : PyData.eqv (.tuple xs) (.tuple []) = xs.isEmpty := by
  cases xs <;> simp [PyData.eqv, PyData.eqvAll]
theorem str_above : (" above " : Str) = " " ++ "above" ++ " " := by kernel_rfl
theorem str_faces : (" faces " : Str) = " " ++ "faces" ++ " " := by kernel_rfl
theorem len_above : (" above " : Str).length = 7 := by decide +kernel
theorem len_faces : (" faces " : Str).length = 7 := by decide +kernel
theorem len_kind : ("kind" : Str).length = 4 := by decide +kernel
theorem faces_join {u : Kind} (h : u.Ok) (hz : u.faces ≠ []) : Txt.join " " (("faces" : Str) :: u.faces) = "faces" ++ " " ++ Txt.join " " u.faces := by
  cases e : u.faces with
  | nil => exact absurd e hz
  | cons f fs => rw [join_cons]
theorem headS_eq {u : Kind} (h : u.Ok) : Txt.join " " u.head = "kind" ++ " " ++ u.nm ++ (if u.above = "" then Str.empty else " above " ++ u.above) ++ (if u.faces = [] then Str.empty else " faces " ++ Txt.join " " u.faces) := by
  have str_end : ∀ a : Str, a ++ Str.empty = a := fun a => by
    show Str.append a Str.empty = a
    unfold Str.append Str.empty; simp
  unfold Kind.head
  by_cases ha : u.above = ""
  · by_cases hz : u.faces = []
    · rw [if_pos ha, if_pos hz, if_pos ha, if_pos hz]
      show Txt.join " " [_, _] = _
      rw [join_cons, join_one, str_end, str_end]
    · rw [if_pos ha, if_neg hz, if_pos ha, if_neg hz]
      show Txt.join " " (_ :: _ :: _ :: _) = _
      rw [join_cons, join_cons, faces_join h hz, str_end, str_faces]
      simp only [str_assoc]
  · by_cases hz : u.faces = []
    · rw [if_neg ha, if_pos hz, if_neg ha, if_pos hz]
      show Txt.join " " [_, _, _, _] = _
      rw [join_cons, join_cons, join_cons, join_one, str_end, str_above]
      simp only [str_assoc]
    · rw [if_neg ha, if_neg hz, if_neg ha, if_neg hz]
      show Txt.join " " (_ :: _ :: _ :: _ :: _ :: _) = _
      rw [join_cons, join_cons, join_cons, join_cons, faces_join h hz, str_above, str_faces]
      simp only [str_assoc]
theorem lawhead_kind (k : Nat) {u : Kind} (h : u.Ok) (S : Sto) : calK fs (k + 1) 21 [.p u.py] S = .val (.p (.str (Txt.join " " u.head))) S := by
  rw [c21, callA S rfl, headS_eq h]
  unfold b21
  have g0 : ∀ S, getI S (.p u.py) (.p (.int 0)) = some (.p (.str "kind")) := fun S => get0 ..
  have g1 : ∀ S, getI S (.p u.py) (.p (.int 1)) = some (.p (.str u.nm)) := fun S => get1 ..
  have g2 : ∀ S, getI S (.p u.py) (.p (.int 2)) = some (.p (.str u.above)) := fun S => get2 ..
  have g3 : ∀ S, getI S (.p u.py) (.p (.int 3)) = some (.p (.tuple (u.faces.map .str))) := fun S => get3 ..
  have hn := h.nm
  have ha := h.above
  have hf := h.fl
  have s5 := sum_le 50 u.faces h.faces
  have jl := jn_len u.faces 50 5 h.faces hf
  have b1 := bop_str "kind" " " (by rw [len_kind, len_b]; omega)
  have b2 := bop_str ("kind" ++ " ") u.nm (by simp only [str_len, len_kind, len_b]; omega)
  have b3 := bop_str ("kind" ++ " " ++ u.nm) " above " (by simp only [str_len, len_kind, len_b, len_above]; omega)
  have b4 := bop_str ("kind" ++ " " ++ u.nm ++ " above ") u.above (by simp only [str_len, len_kind, len_b, len_above]; omega)
  have ek : decide (("kind" : Str) = "face") = false := by decide +kernel
  have et : eqD (.p (.tuple (u.faces.map .str))) (.p (.tuple [])) = some (decide (u.faces = [])) := by
    rw [eqD_tup _ _ h.fsh (by rfl), eqv_nil]
    cases u.faces <;> rfl
  have o1 : (0 : Nat) ≤ sizeLine := Nat.zero_le _
  have j1 : ∀ S, joinD S (.p (.str " ")) (.p (.tuple (u.faces.map .str))) = some (.p (.str (Txt.join " " u.faces))) := fun S => joinD_tup S " " u.faces (by rw [len_b]; omega)
  have str_end : ∀ a : Str, a ++ Str.empty = a := fun a => by
    show Str.append a Str.empty = a
    unfold Str.append Str.empty; simp
  have dA : ∀ c, u.above = c → (!decide (u.above = c)) = false := fun c hc => by rw [decide_eq_true hc]; rfl
  have dB : ∀ c, ¬ u.above = c → (!decide (u.above = c)) = true := fun c hc => by rw [decide_eq_false hc]; rfl
  have dC : u.faces = [] → (!decide (u.faces = [])) = false := fun hc => by rw [decide_eq_true hc]; rfl
  have dD : ¬ u.faces = [] → (!decide (u.faces = [])) = true := fun hc => by rw [decide_eq_false hc]; rfl
  have c1 : ∀ x : Str, x.length ≤ 1000 → bop .add (.p (.str x)) (.p (.str " faces ")) = some (.p (.str (x ++ " faces "))) := fun x hx => bop_str _ _ (by rw [len_faces]; omega)
  have c2 : ∀ x : Str, x.length ≤ 1100 → bop .add (.p (.str x)) (.p (.str (Txt.join " " u.faces))) = some (.p (.str (x ++ Txt.join " " u.faces))) := fun x hx => bop_str _ _ (by omega)
  have l2 : ("kind" ++ " " ++ u.nm).length ≤ 100 := by simp only [str_len, len_kind, len_b]; omega
  have l4 : ("kind" ++ " " ++ u.nm ++ " above " ++ u.above).length ≤ 200 := by simp only [str_len, len_kind, len_b, len_above]; omega
  by_cases hA : u.above = ""
  · by_cases hz : u.faces = []
    · rw [if_pos hA, if_pos hz, str_end, str_end]
      simp -dsimp only [Ir.then_val, Ir.optA_some, Ir.boolA_t, Ir.boolA_f, Ir.seqA_next, Ir.seqA_ret, Ir.wp_val_, Ir.v_var, Ir.v_cst, Ir.v_bin, Ir.v_cmp, Ir.v_chain, Ir.v_and, Ir.v_or, Ir.v_not, Ir.v_ifx, Ir.v_neg, Ir.v_call, Ir.v_tup, Ir.v_lst, Ir.v_idx, Ir.v_idxL, Ir.v_slice, Ir.v_strOf, Ir.v_join, Ir.v_extend, Ir.v_append, Ir.v_len, Ir.v_isi, Ir.v_toInt, Ir.v_all, Ir.v_tupOf, Ir.v_dictOf, Ir.v_dlit, Ir.v_dget3, Ir.v_eqL, Ir.v_op1, Ir.v_op2, Ir.v_fstr, Ir.f_nil, Ir.f_cons, Ir.a_nil', Ir.a_cons', Ir.a_star', Ir.l_disp', Ir.l_of', Ir.l_cat', Ir.l_cut', Ir.b_no', Ir.b_at', Ir.i_tup', Ir.i_lst', Ir.i_str', Ir.i_rng', Ir.ss_nil', Ir.ss_asg, Ir.ss_expr, Ir.ss_ret, Ir.ss_unp, Ir.ss_ite, Ir.ss_setI, Ir.ss_for, Ir.finA_p, Ir.strD_str, Ir.ofD_tup, Ir.dicAt_eq, Ir.lstAt_eq, Ir.dget3_str, Ir.dixD_int, Ir.srcLst_eq, Ir.ofD_ref, Ir.tupD_ref, Ir.lenD_ref, Ir.lenD_tup, Ir.getI_ref, Ir.lsA_lst, Ir.ifA_t, Ir.appD_eq, Ir.extD_eq, Ir.catD_eq, Ir.rb_p, decide_true, decide_false, Bool.true_and, Bool.and_true, Ir.atA_no, Ir.atA_go, Ir.contA_next, Ir.contA_ret, Ir.size_fix, Ir.size_dyn, Ir.at_fix, Ir.at_dyn, Ir.turn_one, List.length_map, List.getElem?_nil, Ir.tgt, Ir.setAll, Bool.false_eq_true, List.set_nil, List.getElem?_cons_zero, List.getElem?_cons_succ, List.set_cons_zero, List.set_cons_succ, List.map_cons, List.map_nil, List.length_cons, List.length_nil, List.replicate_succ, List.replicate_zero, List.cons_append, List.nil_append, Option.map_some, Option.bind_some, Ir.app_get, Ir.app_get0, Ir.app_set, Ir.app_set0, Ir.app_take, Ir.app_one, Ir.len_app, Nat.reduceAdd, Nat.reduceSub, Nat.reduceLeDiff, if_true, if_false, g0, g1, g2, g3, b1, b2, cop_eq, cop_ne, eqD_str, ek, dA _ hA, o1, plainOf, cop_ne, et, dC hz, List.take_length]
    · rw [if_pos hA, if_neg hz, str_end]
      have x1 := c1 _ (show ("kind" ++ " " ++ u.nm).length ≤ 1000 by omega)
      have x2 := c2 ("kind" ++ " " ++ u.nm ++ " faces ") (by simp only [str_len, len_faces] at l2 ⊢; omega)
      simp -dsimp only [Ir.then_val, Ir.optA_some, Ir.boolA_t, Ir.boolA_f, Ir.seqA_next, Ir.seqA_ret, Ir.wp_val_, Ir.v_var, Ir.v_cst, Ir.v_bin, Ir.v_cmp, Ir.v_chain, Ir.v_and, Ir.v_or, Ir.v_not, Ir.v_ifx, Ir.v_neg, Ir.v_call, Ir.v_tup, Ir.v_lst, Ir.v_idx, Ir.v_idxL, Ir.v_slice, Ir.v_strOf, Ir.v_join, Ir.v_extend, Ir.v_append, Ir.v_len, Ir.v_isi, Ir.v_toInt, Ir.v_all, Ir.v_tupOf, Ir.v_dictOf, Ir.v_dlit, Ir.v_dget3, Ir.v_eqL, Ir.v_op1, Ir.v_op2, Ir.v_fstr, Ir.f_nil, Ir.f_cons, Ir.a_nil', Ir.a_cons', Ir.a_star', Ir.l_disp', Ir.l_of', Ir.l_cat', Ir.l_cut', Ir.b_no', Ir.b_at', Ir.i_tup', Ir.i_lst', Ir.i_str', Ir.i_rng', Ir.ss_nil', Ir.ss_asg, Ir.ss_expr, Ir.ss_ret, Ir.ss_unp, Ir.ss_ite, Ir.ss_setI, Ir.ss_for, Ir.finA_p, Ir.strD_str, Ir.ofD_tup, Ir.dicAt_eq, Ir.lstAt_eq, Ir.dget3_str, Ir.dixD_int, Ir.srcLst_eq, Ir.ofD_ref, Ir.tupD_ref, Ir.lenD_ref, Ir.lenD_tup, Ir.getI_ref, Ir.lsA_lst, Ir.ifA_t, Ir.appD_eq, Ir.extD_eq, Ir.catD_eq, Ir.rb_p, decide_true, decide_false, Bool.true_and, Bool.and_true, Ir.atA_no, Ir.atA_go, Ir.contA_next, Ir.contA_ret, Ir.size_fix, Ir.size_dyn, Ir.at_fix, Ir.at_dyn, Ir.turn_one, List.length_map, List.getElem?_nil, Ir.tgt, Ir.setAll, Bool.false_eq_true, List.set_nil, List.getElem?_cons_zero, List.getElem?_cons_succ, List.set_cons_zero, List.set_cons_succ, List.map_cons, List.map_nil, List.length_cons, List.length_nil, List.replicate_succ, List.replicate_zero, List.cons_append, List.nil_append, Option.map_some, Option.bind_some, Ir.app_get, Ir.app_get0, Ir.app_set, Ir.app_set0, Ir.app_take, Ir.app_one, Ir.len_app, Nat.reduceAdd, Nat.reduceSub, Nat.reduceLeDiff, if_true, if_false, g0, g1, g2, g3, b1, b2, cop_eq, cop_ne, eqD_str, ek, dA _ hA, o1, plainOf, cop_ne, et, dD hz, List.take_length, x1, j1, x2]
      simp only [str_assoc]
  · by_cases hz : u.faces = []
    · rw [if_neg hA, if_pos hz, str_end]
      simp -dsimp only [Ir.then_val, Ir.optA_some, Ir.boolA_t, Ir.boolA_f, Ir.seqA_next, Ir.seqA_ret, Ir.wp_val_, Ir.v_var, Ir.v_cst, Ir.v_bin, Ir.v_cmp, Ir.v_chain, Ir.v_and, Ir.v_or, Ir.v_not, Ir.v_ifx, Ir.v_neg, Ir.v_call, Ir.v_tup, Ir.v_lst, Ir.v_idx, Ir.v_idxL, Ir.v_slice, Ir.v_strOf, Ir.v_join, Ir.v_extend, Ir.v_append, Ir.v_len, Ir.v_isi, Ir.v_toInt, Ir.v_all, Ir.v_tupOf, Ir.v_dictOf, Ir.v_dlit, Ir.v_dget3, Ir.v_eqL, Ir.v_op1, Ir.v_op2, Ir.v_fstr, Ir.f_nil, Ir.f_cons, Ir.a_nil', Ir.a_cons', Ir.a_star', Ir.l_disp', Ir.l_of', Ir.l_cat', Ir.l_cut', Ir.b_no', Ir.b_at', Ir.i_tup', Ir.i_lst', Ir.i_str', Ir.i_rng', Ir.ss_nil', Ir.ss_asg, Ir.ss_expr, Ir.ss_ret, Ir.ss_unp, Ir.ss_ite, Ir.ss_setI, Ir.ss_for, Ir.finA_p, Ir.strD_str, Ir.ofD_tup, Ir.dicAt_eq, Ir.lstAt_eq, Ir.dget3_str, Ir.dixD_int, Ir.srcLst_eq, Ir.ofD_ref, Ir.tupD_ref, Ir.lenD_ref, Ir.lenD_tup, Ir.getI_ref, Ir.lsA_lst, Ir.ifA_t, Ir.appD_eq, Ir.extD_eq, Ir.catD_eq, Ir.rb_p, decide_true, decide_false, Bool.true_and, Bool.and_true, Ir.atA_no, Ir.atA_go, Ir.contA_next, Ir.contA_ret, Ir.size_fix, Ir.size_dyn, Ir.at_fix, Ir.at_dyn, Ir.turn_one, List.length_map, List.getElem?_nil, Ir.tgt, Ir.setAll, Bool.false_eq_true, List.set_nil, List.getElem?_cons_zero, List.getElem?_cons_succ, List.set_cons_zero, List.set_cons_succ, List.map_cons, List.map_nil, List.length_cons, List.length_nil, List.replicate_succ, List.replicate_zero, List.cons_append, List.nil_append, Option.map_some, Option.bind_some, Ir.app_get, Ir.app_get0, Ir.app_set, Ir.app_set0, Ir.app_take, Ir.app_one, Ir.len_app, Nat.reduceAdd, Nat.reduceSub, Nat.reduceLeDiff, if_true, if_false, g0, g1, g2, g3, b1, b2, cop_eq, cop_ne, eqD_str, ek, dB _ hA, b3, b4, o1, plainOf, cop_ne, et, dC hz, List.take_length]
      simp only [str_assoc]
    · rw [if_neg hA, if_neg hz]
      have x1 := c1 _ (show ("kind" ++ " " ++ u.nm ++ " above " ++ u.above).length ≤ 1000 by omega)
      have x2 := c2 ("kind" ++ " " ++ u.nm ++ " above " ++ u.above ++ " faces ") (by simp only [str_len, len_faces] at l4 ⊢; omega)
      simp -dsimp only [Ir.then_val, Ir.optA_some, Ir.boolA_t, Ir.boolA_f, Ir.seqA_next, Ir.seqA_ret, Ir.wp_val_, Ir.v_var, Ir.v_cst, Ir.v_bin, Ir.v_cmp, Ir.v_chain, Ir.v_and, Ir.v_or, Ir.v_not, Ir.v_ifx, Ir.v_neg, Ir.v_call, Ir.v_tup, Ir.v_lst, Ir.v_idx, Ir.v_idxL, Ir.v_slice, Ir.v_strOf, Ir.v_join, Ir.v_extend, Ir.v_append, Ir.v_len, Ir.v_isi, Ir.v_toInt, Ir.v_all, Ir.v_tupOf, Ir.v_dictOf, Ir.v_dlit, Ir.v_dget3, Ir.v_eqL, Ir.v_op1, Ir.v_op2, Ir.v_fstr, Ir.f_nil, Ir.f_cons, Ir.a_nil', Ir.a_cons', Ir.a_star', Ir.l_disp', Ir.l_of', Ir.l_cat', Ir.l_cut', Ir.b_no', Ir.b_at', Ir.i_tup', Ir.i_lst', Ir.i_str', Ir.i_rng', Ir.ss_nil', Ir.ss_asg, Ir.ss_expr, Ir.ss_ret, Ir.ss_unp, Ir.ss_ite, Ir.ss_setI, Ir.ss_for, Ir.finA_p, Ir.strD_str, Ir.ofD_tup, Ir.dicAt_eq, Ir.lstAt_eq, Ir.dget3_str, Ir.dixD_int, Ir.srcLst_eq, Ir.ofD_ref, Ir.tupD_ref, Ir.lenD_ref, Ir.lenD_tup, Ir.getI_ref, Ir.lsA_lst, Ir.ifA_t, Ir.appD_eq, Ir.extD_eq, Ir.catD_eq, Ir.rb_p, decide_true, decide_false, Bool.true_and, Bool.and_true, Ir.atA_no, Ir.atA_go, Ir.contA_next, Ir.contA_ret, Ir.size_fix, Ir.size_dyn, Ir.at_fix, Ir.at_dyn, Ir.turn_one, List.length_map, List.getElem?_nil, Ir.tgt, Ir.setAll, Bool.false_eq_true, List.set_nil, List.getElem?_cons_zero, List.getElem?_cons_succ, List.set_cons_zero, List.set_cons_succ, List.map_cons, List.map_nil, List.length_cons, List.length_nil, List.replicate_succ, List.replicate_zero, List.cons_append, List.nil_append, Option.map_some, Option.bind_some, Ir.app_get, Ir.app_get0, Ir.app_set, Ir.app_set0, Ir.app_take, Ir.app_one, Ir.len_app, Nat.reduceAdd, Nat.reduceSub, Nat.reduceLeDiff, if_true, if_false, g0, g1, g2, g3, b1, b2, cop_eq, cop_ne, eqD_str, ek, dB _ hA, b3, b4, o1, plainOf, cop_ne, et, dD hz, List.take_length, x1, j1, x2]
      simp only [str_assoc]
theorem lawhead_face (k : Nat) {u : Face} (h : u.Ok) (S : Sto) : calK fs (k + 1) 21 [.p u.py] S = .val (.p (.str ("face " ++ u.nm))) S := by
  rw [c21, callA S rfl]
  unfold b21
  have g0 : ∀ S, getI S (.p u.py) (.p (.int 0)) = some (.p (.str "face")) := fun S => get0 ..
  have g1 : ∀ S, getI S (.p u.py) (.p (.int 1)) = some (.p (.str u.nm)) := fun S => get1 ..
  have hn := h.nm
  have lf : ("face" : Str).length = 4 := by decide +kernel
  have b1 := bop_str "face" " " (by rw [lf, len_b]; omega)
  have b2 := bop_str ("face" ++ " ") u.nm (by simp only [str_len, lf, len_b]; omega)
  have ek : eqD (.p (.str "face")) (.p (.str "face")) = some true := by rw [eqD_str, decide_eq_true rfl]
  have e : ("face" ++ " " : Str) = "face " := by kernel_rfl
  simp -dsimp only [Ir.then_val, Ir.optA_some, Ir.boolA_t, Ir.boolA_f, Ir.seqA_next, Ir.seqA_ret, Ir.wp_val_, Ir.v_var, Ir.v_cst, Ir.v_bin, Ir.v_cmp, Ir.v_chain, Ir.v_and, Ir.v_or, Ir.v_not, Ir.v_ifx, Ir.v_neg, Ir.v_call, Ir.v_tup, Ir.v_lst, Ir.v_idx, Ir.v_idxL, Ir.v_slice, Ir.v_strOf, Ir.v_join, Ir.v_extend, Ir.v_append, Ir.v_len, Ir.v_isi, Ir.v_toInt, Ir.v_all, Ir.v_tupOf, Ir.v_dictOf, Ir.v_dlit, Ir.v_dget3, Ir.v_eqL, Ir.v_op1, Ir.v_op2, Ir.v_fstr, Ir.f_nil, Ir.f_cons, Ir.a_nil', Ir.a_cons', Ir.a_star', Ir.l_disp', Ir.l_of', Ir.l_cat', Ir.l_cut', Ir.b_no', Ir.b_at', Ir.i_tup', Ir.i_lst', Ir.i_str', Ir.i_rng', Ir.ss_nil', Ir.ss_asg, Ir.ss_expr, Ir.ss_ret, Ir.ss_unp, Ir.ss_ite, Ir.ss_setI, Ir.ss_for, Ir.finA_p, Ir.strD_str, Ir.ofD_tup, Ir.dicAt_eq, Ir.lstAt_eq, Ir.dget3_str, Ir.dixD_int, Ir.srcLst_eq, Ir.ofD_ref, Ir.tupD_ref, Ir.lenD_ref, Ir.lenD_tup, Ir.getI_ref, Ir.lsA_lst, Ir.ifA_t, Ir.appD_eq, Ir.extD_eq, Ir.catD_eq, Ir.rb_p, decide_true, decide_false, Bool.true_and, Bool.and_true, Ir.atA_no, Ir.atA_go, Ir.contA_next, Ir.contA_ret, Ir.size_fix, Ir.size_dyn, Ir.at_fix, Ir.at_dyn, Ir.turn_one, List.length_map, List.getElem?_nil, Ir.tgt, Ir.setAll, Bool.false_eq_true, List.set_nil, List.getElem?_cons_zero, List.getElem?_cons_succ, List.set_cons_zero, List.set_cons_succ, List.map_cons, List.map_nil, List.length_cons, List.length_nil, List.replicate_succ, List.replicate_zero, List.cons_append, List.nil_append, Option.map_some, Option.bind_some, Ir.app_get, Ir.app_get0, Ir.app_set, Ir.app_set0, Ir.app_take, Ir.app_one, Ir.len_app, Nat.reduceAdd, Nat.reduceSub, Nat.reduceLeDiff, if_true, if_false, g0, g1, b1, b2, cop_eq, ek, List.take_length]
  rw [e]
/-! ### as the law writes -/
def slotsU (d : PyData) (l : Nat) (a b c : Option D) : Sl := [some (.p d), some (.ref l), a, b, c, none]
theorem law_face (k : Nat) {u : Face} (h : u.Ok) (S : Sto) : calK fs (k + 3) 23 [.p u.py] S = .val (.p (.str (uS u.lines))) S := by
  rw [c23, callA S rfl]
  unfold b23
  have g0 : ∀ S, getI S (.p u.py) (.p (.int 0)) = some (.p (.str "face")) := fun S => get0 ..
  have g2 : ∀ S, getI S (.p u.py) (.p (.int 2)) = some (.p (.tuple (u.sigs.map Sig.py))) := fun S => get2 ..
  have ek : eqD (.p (.str "face")) (.p (.str "face")) = some true := by rw [eqD_str, decide_eq_true rfl]
  have o1 : (1 : Nat) ≤ 100000 := by omega
  have hsl := h.sl
  have a1 := allocL S [.p (.str ("face " ++ u.nm))] rfl
  have e : ∀ s ∈ u.sigs, ∀ S, calK fs (k + 2) 20 [.p s.py] S = .val (fz (sgS s)) S := fun s hs S => lawsign_ok (k + 1) (h.sigs s hs).n (h.sigs s hs).ts (h.sigs s hs).tl (h.sigs s hs).g [] S
  have cL : evL (calK fs (k + 2)) (.lc (.tup (.idx (.var 0) (.cst (.p (.int 2))))) [3] true (.call 20 (.cons (.var 3) .nil))) [some (.p u.py), some (.ref S.length), none, none, none, none] (S ++ [.lst [.p (.str ("face " ++ u.nm))]]) = .val ((u.sigs.map sgS).map fz) (S ++ [.lst [.p (.str ("face " ++ u.nm))]]) := by
    obtain ⟨F, hF⟩ : ∃ F : D → D, ∀ s ∈ u.sigs, F (.p s.py) = fz (sgS s) := by
      classical
      refine ⟨fun d => if hd : ∃ s ∈ u.sigs, D.p s.py = d then fz (sgS hd.choose) else d, fun s hs => ?_⟩
      have hd : ∃ t ∈ u.sigs, D.p t.py = D.p s.py := ⟨s, hs, rfl⟩
      show (if hd : ∃ t ∈ u.sigs, D.p t.py = D.p s.py then fz (sgS hd.choose) else D.p s.py) = _
      rw [dif_pos hd]
      have h1 := e hd.choose hd.choose_spec.1 []
      have h2 := e s hs []
      rw [hd.choose_spec.2, h2] at h1
      exact (Out.val.inj h1).1.symm
    have e0 : (u.sigs.map sgS).map fz = ((u.sigs.map Sig.py).map D.p).map F := by
      rw [List.map_map, List.map_map, List.map_map]
      exact List.map_congr_left fun s hs => (hF s hs).symm
    rw [e0]
    refine l_lc_fix (by simp -dsimp only [Ir.then_val, Ir.optA_some, Ir.boolA_t, Ir.boolA_f, Ir.seqA_next, Ir.seqA_ret, Ir.wp_val_, Ir.v_var, Ir.v_cst, Ir.v_bin, Ir.v_cmp, Ir.v_chain, Ir.v_and, Ir.v_or, Ir.v_not, Ir.v_ifx, Ir.v_neg, Ir.v_call, Ir.v_tup, Ir.v_lst, Ir.v_idx, Ir.v_idxL, Ir.v_slice, Ir.v_strOf, Ir.v_join, Ir.v_extend, Ir.v_append, Ir.v_len, Ir.v_isi, Ir.v_toInt, Ir.v_all, Ir.v_tupOf, Ir.v_dictOf, Ir.v_dlit, Ir.v_dget3, Ir.v_eqL, Ir.v_op1, Ir.v_op2, Ir.v_fstr, Ir.f_nil, Ir.f_cons, Ir.a_nil', Ir.a_cons', Ir.a_star', Ir.l_disp', Ir.l_of', Ir.l_cat', Ir.l_cut', Ir.b_no', Ir.b_at', Ir.i_tup', Ir.i_lst', Ir.i_str', Ir.i_rng', Ir.ss_nil', Ir.ss_asg, Ir.ss_expr, Ir.ss_ret, Ir.ss_unp, Ir.ss_ite, Ir.ss_setI, Ir.ss_for, Ir.finA_p, Ir.strD_str, Ir.ofD_tup, Ir.dicAt_eq, Ir.lstAt_eq, Ir.dget3_str, Ir.dixD_int, Ir.srcLst_eq, Ir.ofD_ref, Ir.tupD_ref, Ir.lenD_ref, Ir.lenD_tup, Ir.getI_ref, Ir.lsA_lst, Ir.ifA_t, Ir.appD_eq, Ir.extD_eq, Ir.catD_eq, Ir.rb_p, decide_true, decide_false, Bool.true_and, Bool.and_true, Ir.atA_no, Ir.atA_go, Ir.contA_next, Ir.contA_ret, Ir.size_fix, Ir.size_dyn, Ir.at_fix, Ir.at_dyn, Ir.turn_one, List.length_map, List.getElem?_nil, Ir.tgt, Ir.setAll, Bool.false_eq_true, List.set_nil, List.getElem?_cons_zero, List.getElem?_cons_succ, List.set_cons_zero, List.set_cons_succ, List.map_cons, List.map_nil, List.length_cons, List.length_nil, List.replicate_succ, List.replicate_zero, List.cons_append, List.nil_append, Option.map_some, Option.bind_some, Ir.app_get, Ir.app_get0, Ir.app_set, Ir.app_set0, Ir.app_take, Ir.app_one, Ir.len_app, Nat.reduceAdd, Nat.reduceSub, Nat.reduceLeDiff, if_true, if_false, g2, srcTup]) (by simp; omega) fun d hd => ?_
    obtain ⟨p, hp, rfl⟩ := List.mem_map.mp hd
    obtain ⟨s, hs, rfl⟩ := List.mem_map.mp hp
    refine ⟨_, rfl, ?_⟩
    simp -dsimp only [Ir.then_val, Ir.optA_some, Ir.boolA_t, Ir.boolA_f, Ir.seqA_next, Ir.seqA_ret, Ir.wp_val_, Ir.v_var, Ir.v_cst, Ir.v_bin, Ir.v_cmp, Ir.v_chain, Ir.v_and, Ir.v_or, Ir.v_not, Ir.v_ifx, Ir.v_neg, Ir.v_call, Ir.v_tup, Ir.v_lst, Ir.v_idx, Ir.v_idxL, Ir.v_slice, Ir.v_strOf, Ir.v_join, Ir.v_extend, Ir.v_append, Ir.v_len, Ir.v_isi, Ir.v_toInt, Ir.v_all, Ir.v_tupOf, Ir.v_dictOf, Ir.v_dlit, Ir.v_dget3, Ir.v_eqL, Ir.v_op1, Ir.v_op2, Ir.v_fstr, Ir.f_nil, Ir.f_cons, Ir.a_nil', Ir.a_cons', Ir.a_star', Ir.l_disp', Ir.l_of', Ir.l_cat', Ir.l_cut', Ir.b_no', Ir.b_at', Ir.i_tup', Ir.i_lst', Ir.i_str', Ir.i_rng', Ir.ss_nil', Ir.ss_asg, Ir.ss_expr, Ir.ss_ret, Ir.ss_unp, Ir.ss_ite, Ir.ss_setI, Ir.ss_for, Ir.finA_p, Ir.strD_str, Ir.ofD_tup, Ir.dicAt_eq, Ir.lstAt_eq, Ir.dget3_str, Ir.dixD_int, Ir.srcLst_eq, Ir.ofD_ref, Ir.tupD_ref, Ir.lenD_ref, Ir.lenD_tup, Ir.getI_ref, Ir.lsA_lst, Ir.ifA_t, Ir.appD_eq, Ir.extD_eq, Ir.catD_eq, Ir.rb_p, decide_true, decide_false, Bool.true_and, Bool.and_true, Ir.atA_no, Ir.atA_go, Ir.contA_next, Ir.contA_ret, Ir.size_fix, Ir.size_dyn, Ir.at_fix, Ir.at_dyn, Ir.turn_one, List.length_map, List.getElem?_nil, Ir.tgt, Ir.setAll, Bool.false_eq_true, List.set_nil, List.getElem?_cons_zero, List.getElem?_cons_succ, List.set_cons_zero, List.set_cons_succ, List.map_cons, List.map_nil, List.length_cons, List.length_nil, List.replicate_succ, List.replicate_zero, List.cons_append, List.nil_append, Option.map_some, Option.bind_some, Ir.app_get, Ir.app_get0, Ir.app_set, Ir.app_set0, Ir.app_take, Ir.app_one, Ir.len_app, Nat.reduceAdd, Nat.reduceSub, Nat.reduceLeDiff, if_true, if_false, wipeD, e s hs, hF s hs]
  have a2 := allocL (S ++ [.lst [.p (.str ("face " ++ u.nm))]]) ((u.sigs.map sgS).map fz) (all_fz _ _)
  have al : ((u.sigs.map sgS).map fz).all (rb S.length) = true := all_fz _ _
  have o2 : decide (1 + u.sigs.length ≤ 100000) = true := decide_eq_true (by omega)
  have j1 := joinD_lst (S ++ [.lst (D.p (.str ("face " ++ u.nm)) :: (u.sigs.map sgS).map fz), .lst ((u.sigs.map sgS).map fz)]) S.length "\n" u.lines (app_get0 ..) (join_fit _ (face_len h) (by unfold Face.lines; simp; omega))
  simp -dsimp only [Ir.then_val, Ir.optA_some, Ir.boolA_t, Ir.boolA_f, Ir.seqA_next, Ir.seqA_ret, Ir.wp_val_, Ir.v_var, Ir.v_cst, Ir.v_bin, Ir.v_cmp, Ir.v_chain, Ir.v_and, Ir.v_or, Ir.v_not, Ir.v_ifx, Ir.v_neg, Ir.v_call, Ir.v_tup, Ir.v_lst, Ir.v_idx, Ir.v_idxL, Ir.v_slice, Ir.v_strOf, Ir.v_join, Ir.v_extend, Ir.v_append, Ir.v_len, Ir.v_isi, Ir.v_toInt, Ir.v_all, Ir.v_tupOf, Ir.v_dictOf, Ir.v_dlit, Ir.v_dget3, Ir.v_eqL, Ir.v_op1, Ir.v_op2, Ir.v_fstr, Ir.f_nil, Ir.f_cons, Ir.a_nil', Ir.a_cons', Ir.a_star', Ir.l_disp', Ir.l_of', Ir.l_cat', Ir.l_cut', Ir.b_no', Ir.b_at', Ir.i_tup', Ir.i_lst', Ir.i_str', Ir.i_rng', Ir.ss_nil', Ir.ss_asg, Ir.ss_expr, Ir.ss_ret, Ir.ss_unp, Ir.ss_ite, Ir.ss_setI, Ir.ss_for, Ir.finA_p, Ir.strD_str, Ir.ofD_tup, Ir.dicAt_eq, Ir.lstAt_eq, Ir.dget3_str, Ir.dixD_int, Ir.srcLst_eq, Ir.ofD_ref, Ir.tupD_ref, Ir.lenD_ref, Ir.lenD_tup, Ir.getI_ref, Ir.lsA_lst, Ir.ifA_t, Ir.appD_eq, Ir.extD_eq, Ir.catD_eq, Ir.rb_p, decide_true, decide_false, Bool.true_and, Bool.and_true, Ir.atA_no, Ir.atA_go, Ir.contA_next, Ir.contA_ret, Ir.size_fix, Ir.size_dyn, Ir.at_fix, Ir.at_dyn, Ir.turn_one, List.length_map, List.getElem?_nil, Ir.tgt, Ir.setAll, Bool.false_eq_true, List.set_nil, List.getElem?_cons_zero, List.getElem?_cons_succ, List.set_cons_zero, List.set_cons_succ, List.map_cons, List.map_nil, List.length_cons, List.length_nil, List.replicate_succ, List.replicate_zero, List.cons_append, List.nil_append, Option.map_some, Option.bind_some, Ir.app_get, Ir.app_get0, Ir.app_set, Ir.app_set0, Ir.app_take, Ir.app_one, Ir.len_app, Nat.reduceAdd, Nat.reduceSub, Nat.reduceLeDiff, if_true, if_false, lawhead_face (k + 1) h, o1, a1, g0, cop_eq, ek, cL, a2, al, o2, j1]
  rfl
end Ir.K04
set_option Elab.async false
set_option linter.all false
set_option maxRecDepth 100000
set_option maxHeartbeats 1000000
namespace Ir.K04
open PySem
theorem len_field : ("field " : Str).length = 6 := by decide +kernel
theorem str_field : ("field " : Str) = "field" ++ " " := by kernel_rfl
theorem fdS_eq (f : Str × Str) : fdS f = "field " ++ f.1 ++ " " ++ f.2 := by
  unfold fdS
  rw [join_cons, join_cons, join_one, str_field]
  simp only [str_assoc]
theorem law_ways_run (k : Nat) {u : Kind} (h : u.Ok) (X J : Sto) :
    forGo (.fix ((u.ways.map Way.py).map D.p)) (turn (calK fs (k + 3)) [2] true (.cons (.expr (.extend (.var 1) (.call 22 (.cons (.var 2) .nil)))) .nil)) u.ways.length 0 (slotsU u.py X.length none none none) (X ++ .lst ((u.upto 0).map fz) :: J) =
      .val (.next, slotsU u.py X.length (if u.ways.length = 0 then none else (u.ways[u.ways.length - 1]?).map fun w => D.p w.py) none none) (X ++ .lst ((u.upto u.ways.length).map fz) :: junkK u J u.ways.length) := by
  have loop := for_seq (ds := (u.ways.map Way.py).map D.p) (body := turn (calK fs (k + 3)) [2] true (.cons (.expr (.extend (.var 1) (.call 22 (.cons (.var 2) .nil)))) .nil))
    (fun i => slotsU u.py X.length (if i = 0 then none else (u.ways[i - 1]?).map fun w => D.p w.py) none none) (fun i => X ++ .lst ((u.upto i).map fz) :: junkK u J i) (fun i d hi => by
      rw [List.map_map, List.getElem?_map] at hi
      obtain ⟨w, hw, rfl⟩ := Option.map_eq_some_iff.mp hi
      have hwok := h.ways w (List.mem_of_getElem? hw)
      rw [turn_one]
      have e2 : (slotsU u.py X.length (if i = 0 then none else (u.ways[i - 1]?).map fun w => D.p w.py) none none).set 2 (some (D.p w.py)) = slotsU u.py X.length (some (.p w.py)) none none := rfl
      have e3 : (if i + 1 = 0 then none else (u.ways[i + 1 - 1]?).map fun w => D.p w.py) = some (.p w.py) := by
        rw [if_neg (by omega), Nat.add_sub_cancel, hw]; rfl
      show exSs _ _ ((slotsU u.py X.length (if i = 0 then none else (u.ways[i - 1]?).map fun w => D.p w.py) none none).set 2 (some (D.p w.py))) _ = .val (.next, slotsU u.py X.length (if i + 1 = 0 then none else (u.ways[i + 1 - 1]?).map fun w => D.p w.py) none none) _
      rw [e2, e3]
      have g := grow_end (X := X) (J := junkK u J i) (zs := u.upto i) (ys := wlines w) (by have := upto_le h i; have := wlines_le hwok; omega)
      have wl : calK fs (k + 3) 22 [.p w.py] (X ++ .lst ((u.upto i).map fz) :: junkK u J i) = .val (.ref (X ++ .lst ((u.upto i).map fz) :: junkK u J i).length) ((X ++ .lst ((u.upto i).map fz) :: junkK u J i) ++ [.lst ((wlines w).map fz)]) := lawway_ok k hwok _
      rw [upto_succ u hw, junk_succ u J hw]
      have lk : ∀ zs J, (X ++ MO.lst (List.map fz zs) :: J)[X.length]? = some (.lst (zs.map fz)) := fun zs J => app_get0 ..
      obtain ⟨Y, hY⟩ : ∃ Y, Y = X ++ MO.lst ((u.upto i).map fz) :: junkK u J i := ⟨_, rfl⟩
      have l0 := lk (u.upto i) (junkK u J i)
      rw [← hY] at g wl l0 ⊢
      unfold slotsU
      simp -dsimp only [Ir.then_val, Ir.optA_some, Ir.boolA_t, Ir.boolA_f, Ir.seqA_next, Ir.seqA_ret, Ir.wp_val_, Ir.v_var, Ir.v_cst, Ir.v_bin, Ir.v_cmp, Ir.v_chain, Ir.v_and, Ir.v_or, Ir.v_not, Ir.v_ifx, Ir.v_neg, Ir.v_call, Ir.v_tup, Ir.v_lst, Ir.v_idx, Ir.v_idxL, Ir.v_slice, Ir.v_strOf, Ir.v_join, Ir.v_extend, Ir.v_append, Ir.v_len, Ir.v_isi, Ir.v_toInt, Ir.v_all, Ir.v_tupOf, Ir.v_dictOf, Ir.v_dlit, Ir.v_dget3, Ir.v_eqL, Ir.v_op1, Ir.v_op2, Ir.v_fstr, Ir.f_nil, Ir.f_cons, Ir.a_nil', Ir.a_cons', Ir.a_star', Ir.l_disp', Ir.l_of', Ir.l_cat', Ir.l_cut', Ir.b_no', Ir.b_at', Ir.i_tup', Ir.i_lst', Ir.i_str', Ir.i_rng', Ir.ss_nil', Ir.ss_asg, Ir.ss_expr, Ir.ss_ret, Ir.ss_unp, Ir.ss_ite, Ir.ss_setI, Ir.ss_for, Ir.finA_p, Ir.strD_str, Ir.ofD_tup, Ir.dicAt_eq, Ir.lstAt_eq, Ir.dget3_str, Ir.dixD_int, Ir.srcLst_eq, Ir.ofD_ref, Ir.tupD_ref, Ir.lenD_ref, Ir.lenD_tup, Ir.getI_ref, Ir.lsA_lst, Ir.ifA_t, Ir.appD_eq, Ir.catD_eq, Ir.rb_p, decide_true, decide_false, Bool.true_and, Bool.and_true, Ir.atA_no, Ir.atA_go, Ir.contA_next, Ir.contA_ret, Ir.size_fix, Ir.size_dyn, Ir.at_fix, Ir.at_dyn, Ir.turn_one, List.length_map, List.getElem?_nil, Ir.tgt, Ir.setAll, Bool.false_eq_true, List.set_nil, List.getElem?_cons_zero, List.getElem?_cons_succ, List.set_cons_zero, List.set_cons_succ, List.map_cons, List.map_nil, List.length_cons, List.length_nil, List.replicate_succ, List.replicate_zero, List.cons_append, List.nil_append, Option.map_some, Option.bind_some, Ir.app_get, Ir.app_get0, Ir.app_set, Ir.app_set0, Ir.app_take, Ir.len_app, Nat.reduceAdd, Nat.reduceSub, Nat.reduceLeDiff, if_true, if_false, l0, wl, g]) u.ways.length 0 (by simp)
  have e0 : junkK u J 0 = J := by unfold junkK; simp
  simp only [if_true, List.length_map, e0] at loop
  exact loop
theorem law_kind (k : Nat) {u : Kind} (h : u.Ok) (S : Sto) : calK fs (k + 4) 23 [.p u.py] S = .val (.p (.str (uS (u.upto u.ways.length)))) S := by
  rw [c23, callA S rfl]
  unfold b23
  have g0 : ∀ S, getI S (.p u.py) (.p (.int 0)) = some (.p (.str "kind")) := fun S => get0 ..
  have g4 : ∀ S, getI S (.p u.py) (.p (.int 4)) = some (.p (.tuple (u.fields.map fdPy))) := fun S => get4 ..
  have g5 : ∀ S, getI S (.p u.py) (.p (.int 5)) = some (.p (.tuple (u.ways.map Way.py))) := fun S => get5 ..
  have ek : eqD (.p (.str "kind")) (.p (.str "face")) = some false := by kernel_rfl
  have o1 : (1 : Nat) ≤ 100000 := by omega
  have hdl := h.dl
  have a1 := allocL S [.p (.str (Txt.join " " u.head))] rfl
  have cL : evL (calK fs (k + 3)) (.lc (.tup (.idx (.var 0) (.cst (.p (.int 4))))) [4, 5] false (.bin .add (.bin .add (.bin .add (.cst (.p (.str "field "))) (.var 4)) (.cst (.p (.str " ")))) (.var 5))) [some (.p u.py), some (.ref S.length), none, none, none, none] (S ++ [.lst [.p (.str (Txt.join " " u.head))]]) =
      .val ((u.fields.map fdS).map fz) (S ++ [.lst [.p (.str (Txt.join " " u.head))]]) := by
    have e0 : ((u.fields.map fdPy).map D.p).map (fun d => match d with | .p (.tuple [.str a, .str b]) => fz (fdS (a, b)) | x => x) = (u.fields.map fdS).map fz := by
      simp [List.map_map]
    rw [← e0]
    refine l_lc_fix (by simp -dsimp only [Ir.then_val, Ir.optA_some, Ir.boolA_t, Ir.boolA_f, Ir.seqA_next, Ir.seqA_ret, Ir.wp_val_, Ir.v_var, Ir.v_cst, Ir.v_bin, Ir.v_cmp, Ir.v_chain, Ir.v_and, Ir.v_or, Ir.v_not, Ir.v_ifx, Ir.v_neg, Ir.v_call, Ir.v_tup, Ir.v_lst, Ir.v_idx, Ir.v_idxL, Ir.v_slice, Ir.v_strOf, Ir.v_join, Ir.v_extend, Ir.v_append, Ir.v_len, Ir.v_isi, Ir.v_toInt, Ir.v_all, Ir.v_tupOf, Ir.v_dictOf, Ir.v_dlit, Ir.v_dget3, Ir.v_eqL, Ir.v_op1, Ir.v_op2, Ir.v_fstr, Ir.f_nil, Ir.f_cons, Ir.a_nil', Ir.a_cons', Ir.a_star', Ir.l_disp', Ir.l_of', Ir.l_cat', Ir.l_cut', Ir.b_no', Ir.b_at', Ir.i_tup', Ir.i_lst', Ir.i_str', Ir.i_rng', Ir.ss_nil', Ir.ss_asg, Ir.ss_expr, Ir.ss_ret, Ir.ss_unp, Ir.ss_ite, Ir.ss_setI, Ir.ss_for, Ir.finA_p, Ir.strD_str, Ir.ofD_tup, Ir.dicAt_eq, Ir.lstAt_eq, Ir.dget3_str, Ir.dixD_int, Ir.srcLst_eq, Ir.ofD_ref, Ir.tupD_ref, Ir.lenD_ref, Ir.lenD_tup, Ir.getI_ref, Ir.lsA_lst, Ir.ifA_t, Ir.appD_eq, Ir.extD_eq, Ir.catD_eq, Ir.rb_p, decide_true, decide_false, Bool.true_and, Bool.and_true, Ir.atA_no, Ir.atA_go, Ir.contA_next, Ir.contA_ret, Ir.size_fix, Ir.size_dyn, Ir.at_fix, Ir.at_dyn, Ir.turn_one, List.length_map, List.getElem?_nil, Ir.tgt, Ir.setAll, Bool.false_eq_true, List.set_nil, List.getElem?_cons_zero, List.getElem?_cons_succ, List.set_cons_zero, List.set_cons_succ, List.map_cons, List.map_nil, List.length_cons, List.length_nil, List.replicate_succ, List.replicate_zero, List.cons_append, List.nil_append, Option.map_some, Option.bind_some, Ir.app_get, Ir.app_get0, Ir.app_set, Ir.app_set0, Ir.app_take, Ir.app_one, Ir.len_app, Nat.reduceAdd, Nat.reduceSub, Nat.reduceLeDiff, if_true, if_false, g4, srcTup]) (by simp; omega) fun d hd => ?_
    obtain ⟨p, hp, rfl⟩ := List.mem_map.mp hd
    obtain ⟨f, hf, rfl⟩ := List.mem_map.mp hp
    refine ⟨_, rfl, ?_⟩
    obtain ⟨f1, f2⟩ := h.fields f hf
    have b1 := bop_str "field " f.1 (by rw [len_field]; omega)
    have b2 := bop_str ("field " ++ f.1) " " (by simp only [str_len, len_field, len_b]; omega)
    have b3 := bop_str ("field " ++ f.1 ++ " ") f.2 (by simp only [str_len, len_field, len_b]; omega)
    show _ = Out.val (fz (fdS f)) _
    rw [fdS_eq]
    simp -dsimp only [Ir.then_val, Ir.optA_some, Ir.boolA_t, Ir.boolA_f, Ir.seqA_next, Ir.seqA_ret, Ir.wp_val_, Ir.v_var, Ir.v_cst, Ir.v_bin, Ir.v_cmp, Ir.v_chain, Ir.v_and, Ir.v_or, Ir.v_not, Ir.v_ifx, Ir.v_neg, Ir.v_call, Ir.v_tup, Ir.v_lst, Ir.v_idx, Ir.v_idxL, Ir.v_slice, Ir.v_strOf, Ir.v_join, Ir.v_extend, Ir.v_append, Ir.v_len, Ir.v_isi, Ir.v_toInt, Ir.v_all, Ir.v_tupOf, Ir.v_dictOf, Ir.v_dlit, Ir.v_dget3, Ir.v_eqL, Ir.v_op1, Ir.v_op2, Ir.v_fstr, Ir.f_nil, Ir.f_cons, Ir.a_nil', Ir.a_cons', Ir.a_star', Ir.l_disp', Ir.l_of', Ir.l_cat', Ir.l_cut', Ir.b_no', Ir.b_at', Ir.i_tup', Ir.i_lst', Ir.i_str', Ir.i_rng', Ir.ss_nil', Ir.ss_asg, Ir.ss_expr, Ir.ss_ret, Ir.ss_unp, Ir.ss_ite, Ir.ss_setI, Ir.ss_for, Ir.finA_p, Ir.strD_str, Ir.ofD_tup, Ir.dicAt_eq, Ir.lstAt_eq, Ir.dget3_str, Ir.dixD_int, Ir.srcLst_eq, Ir.ofD_ref, Ir.tupD_ref, Ir.lenD_ref, Ir.lenD_tup, Ir.getI_ref, Ir.lsA_lst, Ir.ifA_t, Ir.appD_eq, Ir.extD_eq, Ir.catD_eq, Ir.rb_p, decide_true, decide_false, Bool.true_and, Bool.and_true, Ir.atA_no, Ir.atA_go, Ir.contA_next, Ir.contA_ret, Ir.size_fix, Ir.size_dyn, Ir.at_fix, Ir.at_dyn, Ir.turn_one, List.length_map, List.getElem?_nil, Ir.tgt, Ir.setAll, Bool.false_eq_true, List.set_nil, List.getElem?_cons_zero, List.getElem?_cons_succ, List.set_cons_zero, List.set_cons_succ, List.map_cons, List.map_nil, List.length_cons, List.length_nil, List.replicate_succ, List.replicate_zero, List.cons_append, List.nil_append, Option.map_some, Option.bind_some, Ir.app_get, Ir.app_get0, Ir.app_set, Ir.app_set0, Ir.app_take, Ir.app_one, Ir.len_app, Nat.reduceAdd, Nat.reduceSub, Nat.reduceLeDiff, if_true, if_false, b1, b2, b3, wipeD]
  have a2 := allocL (S ++ [.lst [.p (.str (Txt.join " " u.head))]]) ((u.fields.map fdS).map fz) (all_fz _ _)
  have al : ((u.fields.map fdS).map fz).all (rb S.length) = true := all_fz _ _
  have o2 : decide (1 + u.fields.length ≤ 100000) = true := decide_eq_true (by omega)
  have up0 : D.p (.str (Txt.join " " u.head)) :: (u.fields.map fdS).map fz = (u.upto 0).map fz := by unfold Kind.upto; simp
  have W := law_ways_run k h S [.lst ((u.fields.map fdS).map fz)]
  have j1 := joinD_lst (S ++ .lst ((u.upto u.ways.length).map fz) :: junkK u [.lst ((u.fields.map fdS).map fz)] u.ways.length) S.length "\n" (u.upto u.ways.length) (app_get0 ..) (join_fit _ (upto_len h _) (upto_le h _))
  unfold slotsU at W
  simp -dsimp only [Ir.then_val, Ir.optA_some, Ir.boolA_t, Ir.boolA_f, Ir.seqA_next, Ir.seqA_ret, Ir.wp_val_, Ir.v_var, Ir.v_cst, Ir.v_bin, Ir.v_cmp, Ir.v_chain, Ir.v_and, Ir.v_or, Ir.v_not, Ir.v_ifx, Ir.v_neg, Ir.v_call, Ir.v_tup, Ir.v_lst, Ir.v_idx, Ir.v_idxL, Ir.v_slice, Ir.v_strOf, Ir.v_join, Ir.v_extend, Ir.v_append, Ir.v_len, Ir.v_isi, Ir.v_toInt, Ir.v_all, Ir.v_tupOf, Ir.v_dictOf, Ir.v_dlit, Ir.v_dget3, Ir.v_eqL, Ir.v_op1, Ir.v_op2, Ir.v_fstr, Ir.f_nil, Ir.f_cons, Ir.a_nil', Ir.a_cons', Ir.a_star', Ir.l_disp', Ir.l_of', Ir.l_cat', Ir.l_cut', Ir.b_no', Ir.b_at', Ir.i_tup', Ir.i_lst', Ir.i_str', Ir.i_rng', Ir.ss_nil', Ir.ss_asg, Ir.ss_expr, Ir.ss_ret, Ir.ss_unp, Ir.ss_ite, Ir.ss_setI, Ir.ss_for, Ir.finA_p, Ir.strD_str, Ir.ofD_tup, Ir.dicAt_eq, Ir.lstAt_eq, Ir.dget3_str, Ir.dixD_int, Ir.srcLst_eq, Ir.ofD_ref, Ir.tupD_ref, Ir.lenD_ref, Ir.lenD_tup, Ir.getI_ref, Ir.lsA_lst, Ir.ifA_t, Ir.appD_eq, Ir.extD_eq, Ir.catD_eq, Ir.rb_p, decide_true, decide_false, Bool.true_and, Bool.and_true, Ir.atA_no, Ir.atA_go, Ir.contA_next, Ir.contA_ret, Ir.size_fix, Ir.size_dyn, Ir.at_fix, Ir.at_dyn, Ir.turn_one, List.length_map, List.getElem?_nil, Ir.tgt, Ir.setAll, Bool.false_eq_true, List.set_nil, List.getElem?_cons_zero, List.getElem?_cons_succ, List.set_cons_zero, List.set_cons_succ, List.map_cons, List.map_nil, List.length_cons, List.length_nil, List.replicate_succ, List.replicate_zero, List.cons_append, List.nil_append, Option.map_some, Option.bind_some, Ir.app_get, Ir.app_get0, Ir.app_set, Ir.app_set0, Ir.app_take, Ir.app_one, Ir.len_app, Nat.reduceAdd, Nat.reduceSub, Nat.reduceLeDiff, if_true, if_false, lawhead_kind (k + 2) h, o1, a1, g0, cop_eq, ek, cL, a2, al, o2, up0, g5, srcTup, W, j1]
  rfl
end Ir.K04
set_option Elab.async false
set_option linter.all false
set_option maxRecDepth 100000
set_option maxHeartbeats 4000001
namespace Ir.K04
open PySem
def dInts (ms : List Int) : MO := .lst (ms.map fun i => .p (.int i))
def st4 (b c e : Int) : MO := .lst [.ref 0, .p (.int b), .p (.int c), .p (.int e)]
def dInv (N : Int) (rest S : Sto) : Prop := ∃ (ms : List Int) (b c e : Int), S = dInts ms :: st4 b c e :: rest ∧ 0 ≤ c ∧ c ≤ N ∧ 0 ≤ e ∧ e < 2147483647
def d4 : Ss := match b8 with | .cons _ (.cons _ r) => r | _ => .nil
theorem draw_tail (cal : Nat → List D → M D) (ms : List Int) (rest : Sto) (b c e many : Int) (hm : 0 < many) (hm2 : many.natAbs.log2 < 9000) (hc : 0 ≤ c) (hc2 : c ≤ 100000000) (he : 0 ≤ e) (he2 : e < 2147483647) (N : Int) (hN : c ≤ N) :
    wp (exSs cal d4 [some (.ref 1), some (.p (.int many)), none] (dInts ms :: st4 b c e :: rest)) (fun x S' => ∃ (r : Int), x.1 = .ret (.p (.int r)) ∧ 0 ≤ r ∧ r < many ∧ dInv N rest S') (fun _ _ => False) := by
  unfold d4 b8
  dsimp only
  (with_reducible refine ss_consR ?_)
  repeat (first | (first | ((with_reducible refine r_var ?_); refine ⟨_, rfl, ?_⟩) | with_reducible refine r_cst ?_ | with_reducible refine r_bin ?_ | with_reducible refine r_cmp ?_ | with_reducible refine r_chain ?_ | with_reducible refine r_and ?_ | with_reducible refine r_or ?_ | with_reducible refine r_not ?_ | with_reducible refine r_idx ?_ | with_reducible refine r_idxL ?_ | with_reducible refine r_slice ?_ | with_reducible refine r_len ?_ | with_reducible refine r_isi ?_ | with_reducible refine r_toInt ?_ | with_reducible refine r_all ?_ | with_reducible refine r_tupOf ?_ | with_reducible refine r_wget ?_ | with_reducible refine r_dictOf ?_ | with_reducible refine r_lenset ?_ | with_reducible refine r_call ?_ | with_reducible refine r_tup ?_ | with_reducible refine r_nil ?_ | with_reducible refine r_cons ?_ | with_reducible refine r_disp ?_ | with_reducible refine r_lst ?_ | with_reducible refine r_cat ?_ | with_reducible refine r_of ?_ | with_reducible refine r_eqL ?_ | with_reducible refine r_pop ?_ | with_reducible refine s_asgR ?_ | with_reducible refine s_setR ?_ | with_reducible refine s_retR ?_ | with_reducible refine s_iteR ?_ | with_reducible refine s_unpR ?_ | with_reducible refine ss_nilR ?_ | ((with_reducible refine r_callv ?_); refine ⟨_, rfl, ?_⟩) | ((with_reducible refine r_setD ?_); refine ⟨_, _, rfl, rfl, rfl, ?_⟩) | ((with_reducible refine r_popD ?_); refine ⟨_, _, rfl, ?_⟩)) | with_reducible refine ex_bool ?_ | with_reducible refine ex_eq ?_ | with_reducible refine ex_lt ?_ | with_reducible refine ex_le ?_ | with_reducible refine ex_gt ?_ | with_reducible refine ex_add ?_ | with_reducible refine ex_sub ?_ | ((with_reducible refine ex_mod ?_ ?_); (· first | assumption | decide)) | ((with_reducible refine ex_mulR ?_ ?_); · decide) | ((with_reducible refine ex_mulL ?_ ?_); · decide) | ((with_reducible refine ex_pow ?_ ?_ ?_); (· decide); (· first | omega | decide)) | ((with_reducible refine ex_fdiv ?_ ?_ ?_); (· first | assumption | decide); (· first | assumption | decide)) | ((with_reducible refine ex_get ?_); refine ⟨_, rfl, ?_⟩; (try dsimp only)) | ((with_reducible refine ex_len ?_ ?_); (· exact Nat.le_of_ble_eq_true rfl)) | ((with_reducible refine ex_plain ?_); refine ⟨_, rfl, Nat.le_of_ble_eq_true rfl, ?_⟩; (try dsimp only)))
  refine ifB (fun h => ?_) (fun h => ?_)
  · (with_reducible refine ss_consR ?_); repeat (first | (first | ((with_reducible refine r_var ?_); refine ⟨_, rfl, ?_⟩) | with_reducible refine r_cst ?_ | with_reducible refine r_bin ?_ | with_reducible refine r_cmp ?_ | with_reducible refine r_chain ?_ | with_reducible refine r_and ?_ | with_reducible refine r_or ?_ | with_reducible refine r_not ?_ | with_reducible refine r_idx ?_ | with_reducible refine r_idxL ?_ | with_reducible refine r_slice ?_ | with_reducible refine r_len ?_ | with_reducible refine r_isi ?_ | with_reducible refine r_toInt ?_ | with_reducible refine r_all ?_ | with_reducible refine r_tupOf ?_ | with_reducible refine r_wget ?_ | with_reducible refine r_dictOf ?_ | with_reducible refine r_lenset ?_ | with_reducible refine r_call ?_ | with_reducible refine r_tup ?_ | with_reducible refine r_nil ?_ | with_reducible refine r_cons ?_ | with_reducible refine r_disp ?_ | with_reducible refine r_lst ?_ | with_reducible refine r_cat ?_ | with_reducible refine r_of ?_ | with_reducible refine r_eqL ?_ | with_reducible refine r_pop ?_ | with_reducible refine s_asgR ?_ | with_reducible refine s_setR ?_ | with_reducible refine s_retR ?_ | with_reducible refine s_iteR ?_ | with_reducible refine s_unpR ?_ | with_reducible refine ss_nilR ?_ | ((with_reducible refine r_callv ?_); refine ⟨_, rfl, ?_⟩) | ((with_reducible refine r_setD ?_); refine ⟨_, _, rfl, rfl, rfl, ?_⟩) | ((with_reducible refine r_popD ?_); refine ⟨_, _, rfl, ?_⟩)) | with_reducible refine ex_bool ?_ | with_reducible refine ex_eq ?_ | with_reducible refine ex_lt ?_ | with_reducible refine ex_le ?_ | with_reducible refine ex_gt ?_ | with_reducible refine ex_add ?_ | with_reducible refine ex_sub ?_ | ((with_reducible refine ex_mod ?_ ?_); (· first | assumption | decide)) | ((with_reducible refine ex_mulR ?_ ?_); · decide) | ((with_reducible refine ex_mulL ?_ ?_); · decide) | ((with_reducible refine ex_pow ?_ ?_ ?_); (· decide); (· first | omega | decide)) | ((with_reducible refine ex_fdiv ?_ ?_ ?_); (· first | assumption | decide); (· first | assumption | decide)) | ((with_reducible refine ex_get ?_); refine ⟨_, rfl, ?_⟩; (try dsimp only)) | ((with_reducible refine ex_len ?_ ?_); (· exact Nat.le_of_ble_eq_true rfl)) | ((with_reducible refine ex_plain ?_); refine ⟨_, rfl, Nat.le_of_ble_eq_true rfl, ?_⟩; (try dsimp only)))
    (with_reducible refine ss_consR ?_); repeat (first | (first | ((with_reducible refine r_var ?_); refine ⟨_, rfl, ?_⟩) | with_reducible refine r_cst ?_ | with_reducible refine r_bin ?_ | with_reducible refine r_cmp ?_ | with_reducible refine r_chain ?_ | with_reducible refine r_and ?_ | with_reducible refine r_or ?_ | with_reducible refine r_not ?_ | with_reducible refine r_idx ?_ | with_reducible refine r_idxL ?_ | with_reducible refine r_slice ?_ | with_reducible refine r_len ?_ | with_reducible refine r_isi ?_ | with_reducible refine r_toInt ?_ | with_reducible refine r_all ?_ | with_reducible refine r_tupOf ?_ | with_reducible refine r_wget ?_ | with_reducible refine r_dictOf ?_ | with_reducible refine r_lenset ?_ | with_reducible refine r_call ?_ | with_reducible refine r_tup ?_ | with_reducible refine r_nil ?_ | with_reducible refine r_cons ?_ | with_reducible refine r_disp ?_ | with_reducible refine r_lst ?_ | with_reducible refine r_cat ?_ | with_reducible refine r_of ?_ | with_reducible refine r_eqL ?_ | with_reducible refine r_pop ?_ | with_reducible refine s_asgR ?_ | with_reducible refine s_setR ?_ | with_reducible refine s_retR ?_ | with_reducible refine s_iteR ?_ | with_reducible refine s_unpR ?_ | with_reducible refine ss_nilR ?_ | ((with_reducible refine r_callv ?_); refine ⟨_, rfl, ?_⟩) | ((with_reducible refine r_setD ?_); refine ⟨_, _, rfl, rfl, rfl, ?_⟩) | ((with_reducible refine r_popD ?_); refine ⟨_, _, rfl, ?_⟩)) | with_reducible refine ex_bool ?_ | with_reducible refine ex_eq ?_ | with_reducible refine ex_lt ?_ | with_reducible refine ex_le ?_ | with_reducible refine ex_gt ?_ | with_reducible refine ex_add ?_ | with_reducible refine ex_sub ?_ | ((with_reducible refine ex_mod ?_ ?_); (· first | assumption | decide)) | ((with_reducible refine ex_mulR ?_ ?_); · decide) | ((with_reducible refine ex_mulL ?_ ?_); · decide) | ((with_reducible refine ex_pow ?_ ?_ ?_); (· decide); (· first | omega | decide)) | ((with_reducible refine ex_fdiv ?_ ?_ ?_); (· first | assumption | decide); (· first | assumption | decide)) | ((with_reducible refine ex_get ?_); refine ⟨_, rfl, ?_⟩; (try dsimp only)) | ((with_reducible refine ex_len ?_ ?_); (· exact Nat.le_of_ble_eq_true rfl)) | ((with_reducible refine ex_plain ?_); refine ⟨_, rfl, Nat.le_of_ble_eq_true rfl, ?_⟩; (try dsimp only)))
    (with_reducible refine ss_consR ?_); repeat (first | (first | ((with_reducible refine r_var ?_); refine ⟨_, rfl, ?_⟩) | with_reducible refine r_cst ?_ | with_reducible refine r_bin ?_ | with_reducible refine r_cmp ?_ | with_reducible refine r_chain ?_ | with_reducible refine r_and ?_ | with_reducible refine r_or ?_ | with_reducible refine r_not ?_ | with_reducible refine r_idx ?_ | with_reducible refine r_idxL ?_ | with_reducible refine r_slice ?_ | with_reducible refine r_len ?_ | with_reducible refine r_isi ?_ | with_reducible refine r_toInt ?_ | with_reducible refine r_all ?_ | with_reducible refine r_tupOf ?_ | with_reducible refine r_wget ?_ | with_reducible refine r_dictOf ?_ | with_reducible refine r_lenset ?_ | with_reducible refine r_call ?_ | with_reducible refine r_tup ?_ | with_reducible refine r_nil ?_ | with_reducible refine r_cons ?_ | with_reducible refine r_disp ?_ | with_reducible refine r_lst ?_ | with_reducible refine r_cat ?_ | with_reducible refine r_of ?_ | with_reducible refine r_eqL ?_ | with_reducible refine r_pop ?_ | with_reducible refine s_asgR ?_ | with_reducible refine s_setR ?_ | with_reducible refine s_retR ?_ | with_reducible refine s_iteR ?_ | with_reducible refine s_unpR ?_ | with_reducible refine ss_nilR ?_ | ((with_reducible refine r_callv ?_); refine ⟨_, rfl, ?_⟩) | ((with_reducible refine r_setD ?_); refine ⟨_, _, rfl, rfl, rfl, ?_⟩) | ((with_reducible refine r_popD ?_); refine ⟨_, _, rfl, ?_⟩)) | with_reducible refine ex_bool ?_ | with_reducible refine ex_eq ?_ | with_reducible refine ex_lt ?_ | with_reducible refine ex_le ?_ | with_reducible refine ex_gt ?_ | with_reducible refine ex_add ?_ | with_reducible refine ex_sub ?_ | ((with_reducible refine ex_mod ?_ ?_); (· first | assumption | decide)) | ((with_reducible refine ex_mulR ?_ ?_); · decide) | ((with_reducible refine ex_mulL ?_ ?_); · decide) | ((with_reducible refine ex_pow ?_ ?_ ?_); (· decide); (· first | omega | decide)) | ((with_reducible refine ex_fdiv ?_ ?_ ?_); (· first | assumption | decide); (· first | assumption | decide)) | ((with_reducible refine ex_get ?_); refine ⟨_, rfl, ?_⟩; (try dsimp only)) | ((with_reducible refine ex_len ?_ ?_); (· exact Nat.le_of_ble_eq_true rfl)) | ((with_reducible refine ex_plain ?_); refine ⟨_, rfl, Nat.le_of_ble_eq_true rfl, ?_⟩; (try dsimp only)))
    exact ⟨_, rfl, Int.emod_nonneg _ (by omega), Int.emod_lt_of_pos _ hm, ms, b / many, c, e, rfl, hc, hN, he, he2⟩
  · repeat (first | (first | ((with_reducible refine r_var ?_); refine ⟨_, rfl, ?_⟩) | with_reducible refine r_cst ?_ | with_reducible refine r_bin ?_ | with_reducible refine r_cmp ?_ | with_reducible refine r_chain ?_ | with_reducible refine r_and ?_ | with_reducible refine r_or ?_ | with_reducible refine r_not ?_ | with_reducible refine r_idx ?_ | with_reducible refine r_idxL ?_ | with_reducible refine r_slice ?_ | with_reducible refine r_len ?_ | with_reducible refine r_isi ?_ | with_reducible refine r_toInt ?_ | with_reducible refine r_all ?_ | with_reducible refine r_tupOf ?_ | with_reducible refine r_wget ?_ | with_reducible refine r_dictOf ?_ | with_reducible refine r_lenset ?_ | with_reducible refine r_call ?_ | with_reducible refine r_tup ?_ | with_reducible refine r_nil ?_ | with_reducible refine r_cons ?_ | with_reducible refine r_disp ?_ | with_reducible refine r_lst ?_ | with_reducible refine r_cat ?_ | with_reducible refine r_of ?_ | with_reducible refine r_eqL ?_ | with_reducible refine r_pop ?_ | with_reducible refine s_asgR ?_ | with_reducible refine s_setR ?_ | with_reducible refine s_retR ?_ | with_reducible refine s_iteR ?_ | with_reducible refine s_unpR ?_ | with_reducible refine ss_nilR ?_ | ((with_reducible refine r_callv ?_); refine ⟨_, rfl, ?_⟩) | ((with_reducible refine r_setD ?_); refine ⟨_, _, rfl, rfl, rfl, ?_⟩) | ((with_reducible refine r_popD ?_); refine ⟨_, _, rfl, ?_⟩)) | with_reducible refine ex_bool ?_ | with_reducible refine ex_eq ?_ | with_reducible refine ex_lt ?_ | with_reducible refine ex_le ?_ | with_reducible refine ex_gt ?_ | with_reducible refine ex_add ?_ | with_reducible refine ex_sub ?_ | ((with_reducible refine ex_mod ?_ ?_); (· first | assumption | decide)) | ((with_reducible refine ex_mulR ?_ ?_); · decide) | ((with_reducible refine ex_mulL ?_ ?_); · decide) | ((with_reducible refine ex_pow ?_ ?_ ?_); (· decide); (· first | omega | decide)) | ((with_reducible refine ex_fdiv ?_ ?_ ?_); (· first | assumption | decide); (· first | assumption | decide)) | ((with_reducible refine ex_get ?_); refine ⟨_, rfl, ?_⟩; (try dsimp only)) | ((with_reducible refine ex_len ?_ ?_); (· exact Nat.le_of_ble_eq_true rfl)) | ((with_reducible refine ex_plain ?_); refine ⟨_, rfl, Nat.le_of_ble_eq_true rfl, ?_⟩; (try dsimp only)))
    (with_reducible refine ss_consR ?_); repeat (first | (first | ((with_reducible refine r_var ?_); refine ⟨_, rfl, ?_⟩) | with_reducible refine r_cst ?_ | with_reducible refine r_bin ?_ | with_reducible refine r_cmp ?_ | with_reducible refine r_chain ?_ | with_reducible refine r_and ?_ | with_reducible refine r_or ?_ | with_reducible refine r_not ?_ | with_reducible refine r_idx ?_ | with_reducible refine r_idxL ?_ | with_reducible refine r_slice ?_ | with_reducible refine r_len ?_ | with_reducible refine r_isi ?_ | with_reducible refine r_toInt ?_ | with_reducible refine r_all ?_ | with_reducible refine r_tupOf ?_ | with_reducible refine r_wget ?_ | with_reducible refine r_dictOf ?_ | with_reducible refine r_lenset ?_ | with_reducible refine r_call ?_ | with_reducible refine r_tup ?_ | with_reducible refine r_nil ?_ | with_reducible refine r_cons ?_ | with_reducible refine r_disp ?_ | with_reducible refine r_lst ?_ | with_reducible refine r_cat ?_ | with_reducible refine r_of ?_ | with_reducible refine r_eqL ?_ | with_reducible refine r_pop ?_ | with_reducible refine s_asgR ?_ | with_reducible refine s_setR ?_ | with_reducible refine s_retR ?_ | with_reducible refine s_iteR ?_ | with_reducible refine s_unpR ?_ | with_reducible refine ss_nilR ?_ | ((with_reducible refine r_callv ?_); refine ⟨_, rfl, ?_⟩) | ((with_reducible refine r_setD ?_); refine ⟨_, _, rfl, rfl, rfl, ?_⟩) | ((with_reducible refine r_popD ?_); refine ⟨_, _, rfl, ?_⟩)) | with_reducible refine ex_bool ?_ | with_reducible refine ex_eq ?_ | with_reducible refine ex_lt ?_ | with_reducible refine ex_le ?_ | with_reducible refine ex_gt ?_ | with_reducible refine ex_add ?_ | with_reducible refine ex_sub ?_ | ((with_reducible refine ex_mod ?_ ?_); (· first | assumption | decide)) | ((with_reducible refine ex_mulR ?_ ?_); · decide) | ((with_reducible refine ex_mulL ?_ ?_); · decide) | ((with_reducible refine ex_pow ?_ ?_ ?_); (· decide); (· first | omega | decide)) | ((with_reducible refine ex_fdiv ?_ ?_ ?_); (· first | assumption | decide); (· first | assumption | decide)) | ((with_reducible refine ex_get ?_); refine ⟨_, rfl, ?_⟩; (try dsimp only)) | ((with_reducible refine ex_len ?_ ?_); (· exact Nat.le_of_ble_eq_true rfl)) | ((with_reducible refine ex_plain ?_); refine ⟨_, rfl, Nat.le_of_ble_eq_true rfl, ?_⟩; (try dsimp only)))
    (with_reducible refine ss_consR ?_); repeat (first | (first | ((with_reducible refine r_var ?_); refine ⟨_, rfl, ?_⟩) | with_reducible refine r_cst ?_ | with_reducible refine r_bin ?_ | with_reducible refine r_cmp ?_ | with_reducible refine r_chain ?_ | with_reducible refine r_and ?_ | with_reducible refine r_or ?_ | with_reducible refine r_not ?_ | with_reducible refine r_idx ?_ | with_reducible refine r_idxL ?_ | with_reducible refine r_slice ?_ | with_reducible refine r_len ?_ | with_reducible refine r_isi ?_ | with_reducible refine r_toInt ?_ | with_reducible refine r_all ?_ | with_reducible refine r_tupOf ?_ | with_reducible refine r_wget ?_ | with_reducible refine r_dictOf ?_ | with_reducible refine r_lenset ?_ | with_reducible refine r_call ?_ | with_reducible refine r_tup ?_ | with_reducible refine r_nil ?_ | with_reducible refine r_cons ?_ | with_reducible refine r_disp ?_ | with_reducible refine r_lst ?_ | with_reducible refine r_cat ?_ | with_reducible refine r_of ?_ | with_reducible refine r_eqL ?_ | with_reducible refine r_pop ?_ | with_reducible refine s_asgR ?_ | with_reducible refine s_setR ?_ | with_reducible refine s_retR ?_ | with_reducible refine s_iteR ?_ | with_reducible refine s_unpR ?_ | with_reducible refine ss_nilR ?_ | ((with_reducible refine r_callv ?_); refine ⟨_, rfl, ?_⟩) | ((with_reducible refine r_setD ?_); refine ⟨_, _, rfl, rfl, rfl, ?_⟩) | ((with_reducible refine r_popD ?_); refine ⟨_, _, rfl, ?_⟩)) | with_reducible refine ex_bool ?_ | with_reducible refine ex_eq ?_ | with_reducible refine ex_lt ?_ | with_reducible refine ex_le ?_ | with_reducible refine ex_gt ?_ | with_reducible refine ex_add ?_ | with_reducible refine ex_sub ?_ | ((with_reducible refine ex_mod ?_ ?_); (· first | assumption | decide)) | ((with_reducible refine ex_mulR ?_ ?_); · decide) | ((with_reducible refine ex_mulL ?_ ?_); · decide) | ((with_reducible refine ex_pow ?_ ?_ ?_); (· decide); (· first | omega | decide)) | ((with_reducible refine ex_fdiv ?_ ?_ ?_); (· first | assumption | decide); (· first | assumption | decide)) | ((with_reducible refine ex_get ?_); refine ⟨_, rfl, ?_⟩; (try dsimp only)) | ((with_reducible refine ex_len ?_ ?_); (· exact Nat.le_of_ble_eq_true rfl)) | ((with_reducible refine ex_plain ?_); refine ⟨_, rfl, Nat.le_of_ble_eq_true rfl, ?_⟩; (try dsimp only)))
    exact ⟨_, rfl, Int.emod_nonneg _ (by omega), Int.emod_lt_of_pos _ hm, ms, b, c, e, rfl, hc, hN, he, he2⟩
theorem draw_body (cal : Nat → List D → M D) (ms : List Int) (rest : Sto) (b c e many : Int) (hm : 0 < many) (hm2 : many.natAbs.log2 < 9000) (hc : 0 ≤ c) (hc2 : c ≤ 10000000) (he : 0 ≤ e) (he2 : e < 2147483647) (N : Int) (hN : c ≤ N) :
    wp (exSs cal b8 [some (.ref 1), some (.p (.int many)), none] (dInts ms :: st4 b c e :: rest)) (fun x S' => ∃ (r : Int), x.1 = .ret (.p (.int r)) ∧ 0 ≤ r ∧ r < many ∧ dInv (N + 1) rest S') (fun _ _ => False) := by
  have T := fun ms b e (he : 0 ≤ e) (he2 : e < 2147483647) => draw_tail cal ms rest b (c + 1) e many hm hm2 (by omega) (by omega) he he2 (N + 1) (by omega)
  unfold d4 at T
  unfold b8 at T ⊢
  dsimp only at T
  (with_reducible refine ss_consR ?_); repeat (first | (first | ((with_reducible refine r_var ?_); refine ⟨_, rfl, ?_⟩) | with_reducible refine r_cst ?_ | with_reducible refine r_bin ?_ | with_reducible refine r_cmp ?_ | with_reducible refine r_chain ?_ | with_reducible refine r_and ?_ | with_reducible refine r_or ?_ | with_reducible refine r_not ?_ | with_reducible refine r_idx ?_ | with_reducible refine r_idxL ?_ | with_reducible refine r_slice ?_ | with_reducible refine r_len ?_ | with_reducible refine r_isi ?_ | with_reducible refine r_toInt ?_ | with_reducible refine r_all ?_ | with_reducible refine r_tupOf ?_ | with_reducible refine r_wget ?_ | with_reducible refine r_dictOf ?_ | with_reducible refine r_lenset ?_ | with_reducible refine r_call ?_ | with_reducible refine r_tup ?_ | with_reducible refine r_nil ?_ | with_reducible refine r_cons ?_ | with_reducible refine r_disp ?_ | with_reducible refine r_lst ?_ | with_reducible refine r_cat ?_ | with_reducible refine r_of ?_ | with_reducible refine r_eqL ?_ | with_reducible refine r_pop ?_ | with_reducible refine s_asgR ?_ | with_reducible refine s_setR ?_ | with_reducible refine s_retR ?_ | with_reducible refine s_iteR ?_ | with_reducible refine s_unpR ?_ | with_reducible refine ss_nilR ?_ | ((with_reducible refine r_callv ?_); refine ⟨_, rfl, ?_⟩) | ((with_reducible refine r_setD ?_); refine ⟨_, _, rfl, rfl, rfl, ?_⟩) | ((with_reducible refine r_popD ?_); refine ⟨_, _, rfl, ?_⟩)) | with_reducible refine ex_bool ?_ | with_reducible refine ex_eq ?_ | with_reducible refine ex_lt ?_ | with_reducible refine ex_le ?_ | with_reducible refine ex_gt ?_ | with_reducible refine ex_add ?_ | with_reducible refine ex_sub ?_ | ((with_reducible refine ex_mod ?_ ?_); (· first | assumption | decide)) | ((with_reducible refine ex_mulR ?_ ?_); · decide) | ((with_reducible refine ex_mulL ?_ ?_); · decide) | ((with_reducible refine ex_pow ?_ ?_ ?_); (· decide); (· first | omega | decide)) | ((with_reducible refine ex_fdiv ?_ ?_ ?_); (· first | assumption | decide); (· first | assumption | decide)) | ((with_reducible refine ex_get ?_); refine ⟨_, rfl, ?_⟩; (try dsimp only)) | ((with_reducible refine ex_len ?_ ?_); (· exact Nat.le_of_ble_eq_true rfl)) | ((with_reducible refine ex_plain ?_); refine ⟨_, rfl, Nat.le_of_ble_eq_true rfl, ?_⟩; (try dsimp only)))
  (with_reducible refine ss_consR ?_); repeat (first | (first | ((with_reducible refine r_var ?_); refine ⟨_, rfl, ?_⟩) | with_reducible refine r_cst ?_ | with_reducible refine r_bin ?_ | with_reducible refine r_cmp ?_ | with_reducible refine r_chain ?_ | with_reducible refine r_and ?_ | with_reducible refine r_or ?_ | with_reducible refine r_not ?_ | with_reducible refine r_idx ?_ | with_reducible refine r_idxL ?_ | with_reducible refine r_slice ?_ | with_reducible refine r_len ?_ | with_reducible refine r_isi ?_ | with_reducible refine r_toInt ?_ | with_reducible refine r_all ?_ | with_reducible refine r_tupOf ?_ | with_reducible refine r_wget ?_ | with_reducible refine r_dictOf ?_ | with_reducible refine r_lenset ?_ | with_reducible refine r_call ?_ | with_reducible refine r_tup ?_ | with_reducible refine r_nil ?_ | with_reducible refine r_cons ?_ | with_reducible refine r_disp ?_ | with_reducible refine r_lst ?_ | with_reducible refine r_cat ?_ | with_reducible refine r_of ?_ | with_reducible refine r_eqL ?_ | with_reducible refine r_pop ?_ | with_reducible refine s_asgR ?_ | with_reducible refine s_setR ?_ | with_reducible refine s_retR ?_ | with_reducible refine s_iteR ?_ | with_reducible refine s_unpR ?_ | with_reducible refine ss_nilR ?_ | ((with_reducible refine r_callv ?_); refine ⟨_, rfl, ?_⟩) | ((with_reducible refine r_setD ?_); refine ⟨_, _, rfl, rfl, rfl, ?_⟩) | ((with_reducible refine r_popD ?_); refine ⟨_, _, rfl, ?_⟩)) | with_reducible refine ex_bool ?_ | with_reducible refine ex_eq ?_ | with_reducible refine ex_lt ?_ | with_reducible refine ex_le ?_ | with_reducible refine ex_gt ?_ | with_reducible refine ex_add ?_ | with_reducible refine ex_sub ?_ | ((with_reducible refine ex_mod ?_ ?_); (· first | assumption | decide)) | ((with_reducible refine ex_mulR ?_ ?_); · decide) | ((with_reducible refine ex_mulL ?_ ?_); · decide) | ((with_reducible refine ex_pow ?_ ?_ ?_); (· decide); (· first | omega | decide)) | ((with_reducible refine ex_fdiv ?_ ?_ ?_); (· first | assumption | decide); (· first | assumption | decide)) | ((with_reducible refine ex_get ?_); refine ⟨_, rfl, ?_⟩; (try dsimp only)) | ((with_reducible refine ex_len ?_ ?_); (· exact Nat.le_of_ble_eq_true rfl)) | ((with_reducible refine ex_plain ?_); refine ⟨_, rfl, Nat.le_of_ble_eq_true rfl, ?_⟩; (try dsimp only)))
  refine ifB (fun h => ?_) (fun h => ?_)
  · repeat (first | (first | ((with_reducible refine r_var ?_); refine ⟨_, rfl, ?_⟩) | with_reducible refine r_cst ?_ | with_reducible refine r_bin ?_ | with_reducible refine r_cmp ?_ | with_reducible refine r_chain ?_ | with_reducible refine r_and ?_ | with_reducible refine r_or ?_ | with_reducible refine r_not ?_ | with_reducible refine r_idx ?_ | with_reducible refine r_idxL ?_ | with_reducible refine r_slice ?_ | with_reducible refine r_len ?_ | with_reducible refine r_isi ?_ | with_reducible refine r_toInt ?_ | with_reducible refine r_all ?_ | with_reducible refine r_tupOf ?_ | with_reducible refine r_wget ?_ | with_reducible refine r_dictOf ?_ | with_reducible refine r_lenset ?_ | with_reducible refine r_call ?_ | with_reducible refine r_tup ?_ | with_reducible refine r_nil ?_ | with_reducible refine r_cons ?_ | with_reducible refine r_disp ?_ | with_reducible refine r_lst ?_ | with_reducible refine r_cat ?_ | with_reducible refine r_of ?_ | with_reducible refine r_eqL ?_ | with_reducible refine r_pop ?_ | with_reducible refine s_asgR ?_ | with_reducible refine s_setR ?_ | with_reducible refine s_retR ?_ | with_reducible refine s_iteR ?_ | with_reducible refine s_unpR ?_ | with_reducible refine ss_nilR ?_ | ((with_reducible refine r_callv ?_); refine ⟨_, rfl, ?_⟩) | ((with_reducible refine r_setD ?_); refine ⟨_, _, rfl, rfl, rfl, ?_⟩) | ((with_reducible refine r_popD ?_); refine ⟨_, _, rfl, ?_⟩)) | with_reducible refine ex_bool ?_ | with_reducible refine ex_eq ?_ | with_reducible refine ex_lt ?_ | with_reducible refine ex_le ?_ | with_reducible refine ex_gt ?_ | with_reducible refine ex_add ?_ | with_reducible refine ex_sub ?_ | ((with_reducible refine ex_mod ?_ ?_); (· first | assumption | decide)) | ((with_reducible refine ex_mulR ?_ ?_); · decide) | ((with_reducible refine ex_mulL ?_ ?_); · decide) | ((with_reducible refine ex_pow ?_ ?_ ?_); (· decide); (· first | omega | decide)) | ((with_reducible refine ex_fdiv ?_ ?_ ?_); (· first | assumption | decide); (· first | assumption | decide)) | ((with_reducible refine ex_get ?_); refine ⟨_, rfl, ?_⟩; (try dsimp only)) | ((with_reducible refine ex_len ?_ ?_); (· exact Nat.le_of_ble_eq_true rfl)) | ((with_reducible refine ex_plain ?_); refine ⟨_, rfl, Nat.le_of_ble_eq_true rfl, ?_⟩; (try dsimp only)))
    refine ⟨_, _, rfl, eqL_ints true ms, ?_⟩
    repeat (first | (first | ((with_reducible refine r_var ?_); refine ⟨_, rfl, ?_⟩) | with_reducible refine r_cst ?_ | with_reducible refine r_bin ?_ | with_reducible refine r_cmp ?_ | with_reducible refine r_chain ?_ | with_reducible refine r_and ?_ | with_reducible refine r_or ?_ | with_reducible refine r_not ?_ | with_reducible refine r_idx ?_ | with_reducible refine r_idxL ?_ | with_reducible refine r_slice ?_ | with_reducible refine r_len ?_ | with_reducible refine r_isi ?_ | with_reducible refine r_toInt ?_ | with_reducible refine r_all ?_ | with_reducible refine r_tupOf ?_ | with_reducible refine r_wget ?_ | with_reducible refine r_dictOf ?_ | with_reducible refine r_lenset ?_ | with_reducible refine r_call ?_ | with_reducible refine r_tup ?_ | with_reducible refine r_nil ?_ | with_reducible refine r_cons ?_ | with_reducible refine r_disp ?_ | with_reducible refine r_lst ?_ | with_reducible refine r_cat ?_ | with_reducible refine r_of ?_ | with_reducible refine r_eqL ?_ | with_reducible refine r_pop ?_ | with_reducible refine s_asgR ?_ | with_reducible refine s_setR ?_ | with_reducible refine s_retR ?_ | with_reducible refine s_iteR ?_ | with_reducible refine s_unpR ?_ | with_reducible refine ss_nilR ?_ | ((with_reducible refine r_callv ?_); refine ⟨_, rfl, ?_⟩) | ((with_reducible refine r_setD ?_); refine ⟨_, _, rfl, rfl, rfl, ?_⟩) | ((with_reducible refine r_popD ?_); refine ⟨_, _, rfl, ?_⟩)) | with_reducible refine ex_bool ?_ | with_reducible refine ex_eq ?_ | with_reducible refine ex_lt ?_ | with_reducible refine ex_le ?_ | with_reducible refine ex_gt ?_ | with_reducible refine ex_add ?_ | with_reducible refine ex_sub ?_ | ((with_reducible refine ex_mod ?_ ?_); (· first | assumption | decide)) | ((with_reducible refine ex_mulR ?_ ?_); · decide) | ((with_reducible refine ex_mulL ?_ ?_); · decide) | ((with_reducible refine ex_pow ?_ ?_ ?_); (· decide); (· first | omega | decide)) | ((with_reducible refine ex_fdiv ?_ ?_ ?_); (· first | assumption | decide); (· first | assumption | decide)) | ((with_reducible refine ex_get ?_); refine ⟨_, rfl, ?_⟩; (try dsimp only)) | ((with_reducible refine ex_len ?_ ?_); (· exact Nat.le_of_ble_eq_true rfl)) | ((with_reducible refine ex_plain ?_); refine ⟨_, rfl, Nat.le_of_ble_eq_true rfl, ?_⟩; (try dsimp only)))
    cases ms with
    | nil =>
      refine ifF ?_
      repeat (first | (first | ((with_reducible refine r_var ?_); refine ⟨_, rfl, ?_⟩) | with_reducible refine r_cst ?_ | with_reducible refine r_bin ?_ | with_reducible refine r_cmp ?_ | with_reducible refine r_chain ?_ | with_reducible refine r_and ?_ | with_reducible refine r_or ?_ | with_reducible refine r_not ?_ | with_reducible refine r_idx ?_ | with_reducible refine r_idxL ?_ | with_reducible refine r_slice ?_ | with_reducible refine r_len ?_ | with_reducible refine r_isi ?_ | with_reducible refine r_toInt ?_ | with_reducible refine r_all ?_ | with_reducible refine r_tupOf ?_ | with_reducible refine r_wget ?_ | with_reducible refine r_dictOf ?_ | with_reducible refine r_lenset ?_ | with_reducible refine r_call ?_ | with_reducible refine r_tup ?_ | with_reducible refine r_nil ?_ | with_reducible refine r_cons ?_ | with_reducible refine r_disp ?_ | with_reducible refine r_lst ?_ | with_reducible refine r_cat ?_ | with_reducible refine r_of ?_ | with_reducible refine r_eqL ?_ | with_reducible refine r_pop ?_ | with_reducible refine s_asgR ?_ | with_reducible refine s_setR ?_ | with_reducible refine s_retR ?_ | with_reducible refine s_iteR ?_ | with_reducible refine s_unpR ?_ | with_reducible refine ss_nilR ?_ | ((with_reducible refine r_callv ?_); refine ⟨_, rfl, ?_⟩) | ((with_reducible refine r_setD ?_); refine ⟨_, _, rfl, rfl, rfl, ?_⟩) | ((with_reducible refine r_popD ?_); refine ⟨_, _, rfl, ?_⟩)) | with_reducible refine ex_bool ?_ | with_reducible refine ex_eq ?_ | with_reducible refine ex_lt ?_ | with_reducible refine ex_le ?_ | with_reducible refine ex_gt ?_ | with_reducible refine ex_add ?_ | with_reducible refine ex_sub ?_ | ((with_reducible refine ex_mod ?_ ?_); (· first | assumption | decide)) | ((with_reducible refine ex_mulR ?_ ?_); · decide) | ((with_reducible refine ex_mulL ?_ ?_); · decide) | ((with_reducible refine ex_pow ?_ ?_ ?_); (· decide); (· first | omega | decide)) | ((with_reducible refine ex_fdiv ?_ ?_ ?_); (· first | assumption | decide); (· first | assumption | decide)) | ((with_reducible refine ex_get ?_); refine ⟨_, rfl, ?_⟩; (try dsimp only)) | ((with_reducible refine ex_len ?_ ?_); (· exact Nat.le_of_ble_eq_true rfl)) | ((with_reducible refine ex_plain ?_); refine ⟨_, rfl, Nat.le_of_ble_eq_true rfl, ?_⟩; (try dsimp only)))
      exact T [] b e he he2
    | cons m ms =>
      refine ifT ?_
      (with_reducible refine ss_consR ?_); repeat (first | (first | ((with_reducible refine r_var ?_); refine ⟨_, rfl, ?_⟩) | with_reducible refine r_cst ?_ | with_reducible refine r_bin ?_ | with_reducible refine r_cmp ?_ | with_reducible refine r_chain ?_ | with_reducible refine r_and ?_ | with_reducible refine r_or ?_ | with_reducible refine r_not ?_ | with_reducible refine r_idx ?_ | with_reducible refine r_idxL ?_ | with_reducible refine r_slice ?_ | with_reducible refine r_len ?_ | with_reducible refine r_isi ?_ | with_reducible refine r_toInt ?_ | with_reducible refine r_all ?_ | with_reducible refine r_tupOf ?_ | with_reducible refine r_wget ?_ | with_reducible refine r_dictOf ?_ | with_reducible refine r_lenset ?_ | with_reducible refine r_call ?_ | with_reducible refine r_tup ?_ | with_reducible refine r_nil ?_ | with_reducible refine r_cons ?_ | with_reducible refine r_disp ?_ | with_reducible refine r_lst ?_ | with_reducible refine r_cat ?_ | with_reducible refine r_of ?_ | with_reducible refine r_eqL ?_ | with_reducible refine r_pop ?_ | with_reducible refine s_asgR ?_ | with_reducible refine s_setR ?_ | with_reducible refine s_retR ?_ | with_reducible refine s_iteR ?_ | with_reducible refine s_unpR ?_ | with_reducible refine ss_nilR ?_ | ((with_reducible refine r_callv ?_); refine ⟨_, rfl, ?_⟩) | ((with_reducible refine r_setD ?_); refine ⟨_, _, rfl, rfl, rfl, ?_⟩) | ((with_reducible refine r_popD ?_); refine ⟨_, _, rfl, ?_⟩)) | with_reducible refine ex_bool ?_ | with_reducible refine ex_eq ?_ | with_reducible refine ex_lt ?_ | with_reducible refine ex_le ?_ | with_reducible refine ex_gt ?_ | with_reducible refine ex_add ?_ | with_reducible refine ex_sub ?_ | ((with_reducible refine ex_mod ?_ ?_); (· first | assumption | decide)) | ((with_reducible refine ex_mulR ?_ ?_); · decide) | ((with_reducible refine ex_mulL ?_ ?_); · decide) | ((with_reducible refine ex_pow ?_ ?_ ?_); (· decide); (· first | omega | decide)) | ((with_reducible refine ex_fdiv ?_ ?_ ?_); (· first | assumption | decide); (· first | assumption | decide)) | ((with_reducible refine ex_get ?_); refine ⟨_, rfl, ?_⟩; (try dsimp only)) | ((with_reducible refine ex_len ?_ ?_); (· exact Nat.le_of_ble_eq_true rfl)) | ((with_reducible refine ex_plain ?_); refine ⟨_, rfl, Nat.le_of_ble_eq_true rfl, ?_⟩; (try dsimp only)))
      refine ⟨_, rfl, ?_⟩
      repeat (first | (first | ((with_reducible refine r_var ?_); refine ⟨_, rfl, ?_⟩) | with_reducible refine r_cst ?_ | with_reducible refine r_bin ?_ | with_reducible refine r_cmp ?_ | with_reducible refine r_chain ?_ | with_reducible refine r_and ?_ | with_reducible refine r_or ?_ | with_reducible refine r_not ?_ | with_reducible refine r_idx ?_ | with_reducible refine r_idxL ?_ | with_reducible refine r_slice ?_ | with_reducible refine r_len ?_ | with_reducible refine r_isi ?_ | with_reducible refine r_toInt ?_ | with_reducible refine r_all ?_ | with_reducible refine r_tupOf ?_ | with_reducible refine r_wget ?_ | with_reducible refine r_dictOf ?_ | with_reducible refine r_lenset ?_ | with_reducible refine r_call ?_ | with_reducible refine r_tup ?_ | with_reducible refine r_nil ?_ | with_reducible refine r_cons ?_ | with_reducible refine r_disp ?_ | with_reducible refine r_lst ?_ | with_reducible refine r_cat ?_ | with_reducible refine r_of ?_ | with_reducible refine r_eqL ?_ | with_reducible refine r_pop ?_ | with_reducible refine s_asgR ?_ | with_reducible refine s_setR ?_ | with_reducible refine s_retR ?_ | with_reducible refine s_iteR ?_ | with_reducible refine s_unpR ?_ | with_reducible refine ss_nilR ?_ | ((with_reducible refine r_callv ?_); refine ⟨_, rfl, ?_⟩) | ((with_reducible refine r_setD ?_); refine ⟨_, _, rfl, rfl, rfl, ?_⟩) | ((with_reducible refine r_popD ?_); refine ⟨_, _, rfl, ?_⟩)) | with_reducible refine ex_bool ?_ | with_reducible refine ex_eq ?_ | with_reducible refine ex_lt ?_ | with_reducible refine ex_le ?_ | with_reducible refine ex_gt ?_ | with_reducible refine ex_add ?_ | with_reducible refine ex_sub ?_ | ((with_reducible refine ex_mod ?_ ?_); (· first | assumption | decide)) | ((with_reducible refine ex_mulR ?_ ?_); · decide) | ((with_reducible refine ex_mulL ?_ ?_); · decide) | ((with_reducible refine ex_pow ?_ ?_ ?_); (· decide); (· first | omega | decide)) | ((with_reducible refine ex_fdiv ?_ ?_ ?_); (· first | assumption | decide); (· first | assumption | decide)) | ((with_reducible refine ex_get ?_); refine ⟨_, rfl, ?_⟩; (try dsimp only)) | ((with_reducible refine ex_len ?_ ?_); (· exact Nat.le_of_ble_eq_true rfl)) | ((with_reducible refine ex_plain ?_); refine ⟨_, rfl, Nat.le_of_ble_eq_true rfl, ?_⟩; (try dsimp only)))
      (with_reducible refine ss_consR ?_); repeat (first | (first | ((with_reducible refine r_var ?_); refine ⟨_, rfl, ?_⟩) | with_reducible refine r_cst ?_ | with_reducible refine r_bin ?_ | with_reducible refine r_cmp ?_ | with_reducible refine r_chain ?_ | with_reducible refine r_and ?_ | with_reducible refine r_or ?_ | with_reducible refine r_not ?_ | with_reducible refine r_idx ?_ | with_reducible refine r_idxL ?_ | with_reducible refine r_slice ?_ | with_reducible refine r_len ?_ | with_reducible refine r_isi ?_ | with_reducible refine r_toInt ?_ | with_reducible refine r_all ?_ | with_reducible refine r_tupOf ?_ | with_reducible refine r_wget ?_ | with_reducible refine r_dictOf ?_ | with_reducible refine r_lenset ?_ | with_reducible refine r_call ?_ | with_reducible refine r_tup ?_ | with_reducible refine r_nil ?_ | with_reducible refine r_cons ?_ | with_reducible refine r_disp ?_ | with_reducible refine r_lst ?_ | with_reducible refine r_cat ?_ | with_reducible refine r_of ?_ | with_reducible refine r_eqL ?_ | with_reducible refine r_pop ?_ | with_reducible refine s_asgR ?_ | with_reducible refine s_setR ?_ | with_reducible refine s_retR ?_ | with_reducible refine s_iteR ?_ | with_reducible refine s_unpR ?_ | with_reducible refine ss_nilR ?_ | ((with_reducible refine r_callv ?_); refine ⟨_, rfl, ?_⟩) | ((with_reducible refine r_setD ?_); refine ⟨_, _, rfl, rfl, rfl, ?_⟩) | ((with_reducible refine r_popD ?_); refine ⟨_, _, rfl, ?_⟩)) | with_reducible refine ex_bool ?_ | with_reducible refine ex_eq ?_ | with_reducible refine ex_lt ?_ | with_reducible refine ex_le ?_ | with_reducible refine ex_gt ?_ | with_reducible refine ex_add ?_ | with_reducible refine ex_sub ?_ | ((with_reducible refine ex_mod ?_ ?_); (· first | assumption | decide)) | ((with_reducible refine ex_mulR ?_ ?_); · decide) | ((with_reducible refine ex_mulL ?_ ?_); · decide) | ((with_reducible refine ex_pow ?_ ?_ ?_); (· decide); (· first | omega | decide)) | ((with_reducible refine ex_fdiv ?_ ?_ ?_); (· first | assumption | decide); (· first | assumption | decide)) | ((with_reducible refine ex_get ?_); refine ⟨_, rfl, ?_⟩; (try dsimp only)) | ((with_reducible refine ex_len ?_ ?_); (· exact Nat.le_of_ble_eq_true rfl)) | ((with_reducible refine ex_plain ?_); refine ⟨_, rfl, Nat.le_of_ble_eq_true rfl, ?_⟩; (try dsimp only)))
      refine ifB (fun h => ?_) (fun h => ?_)
      · (with_reducible refine ss_consR ?_); repeat (first | (first | ((with_reducible refine r_var ?_); refine ⟨_, rfl, ?_⟩) | with_reducible refine r_cst ?_ | with_reducible refine r_bin ?_ | with_reducible refine r_cmp ?_ | with_reducible refine r_chain ?_ | with_reducible refine r_and ?_ | with_reducible refine r_or ?_ | with_reducible refine r_not ?_ | with_reducible refine r_idx ?_ | with_reducible refine r_idxL ?_ | with_reducible refine r_slice ?_ | with_reducible refine r_len ?_ | with_reducible refine r_isi ?_ | with_reducible refine r_toInt ?_ | with_reducible refine r_all ?_ | with_reducible refine r_tupOf ?_ | with_reducible refine r_wget ?_ | with_reducible refine r_dictOf ?_ | with_reducible refine r_lenset ?_ | with_reducible refine r_call ?_ | with_reducible refine r_tup ?_ | with_reducible refine r_nil ?_ | with_reducible refine r_cons ?_ | with_reducible refine r_disp ?_ | with_reducible refine r_lst ?_ | with_reducible refine r_cat ?_ | with_reducible refine r_of ?_ | with_reducible refine r_eqL ?_ | with_reducible refine r_pop ?_ | with_reducible refine s_asgR ?_ | with_reducible refine s_setR ?_ | with_reducible refine s_retR ?_ | with_reducible refine s_iteR ?_ | with_reducible refine s_unpR ?_ | with_reducible refine ss_nilR ?_ | ((with_reducible refine r_callv ?_); refine ⟨_, rfl, ?_⟩) | ((with_reducible refine r_setD ?_); refine ⟨_, _, rfl, rfl, rfl, ?_⟩) | ((with_reducible refine r_popD ?_); refine ⟨_, _, rfl, ?_⟩)) | with_reducible refine ex_bool ?_ | with_reducible refine ex_eq ?_ | with_reducible refine ex_lt ?_ | with_reducible refine ex_le ?_ | with_reducible refine ex_gt ?_ | with_reducible refine ex_add ?_ | with_reducible refine ex_sub ?_ | ((with_reducible refine ex_mod ?_ ?_); (· first | assumption | decide)) | ((with_reducible refine ex_mulR ?_ ?_); · decide) | ((with_reducible refine ex_mulL ?_ ?_); · decide) | ((with_reducible refine ex_pow ?_ ?_ ?_); (· decide); (· first | omega | decide)) | ((with_reducible refine ex_fdiv ?_ ?_ ?_); (· first | assumption | decide); (· first | assumption | decide)) | ((with_reducible refine ex_get ?_); refine ⟨_, rfl, ?_⟩; (try dsimp only)) | ((with_reducible refine ex_len ?_ ?_); (· exact Nat.le_of_ble_eq_true rfl)) | ((with_reducible refine ex_plain ?_); refine ⟨_, rfl, Nat.le_of_ble_eq_true rfl, ?_⟩; (try dsimp only)))
        (with_reducible refine ss_consR ?_); repeat (first | (first | ((with_reducible refine r_var ?_); refine ⟨_, rfl, ?_⟩) | with_reducible refine r_cst ?_ | with_reducible refine r_bin ?_ | with_reducible refine r_cmp ?_ | with_reducible refine r_chain ?_ | with_reducible refine r_and ?_ | with_reducible refine r_or ?_ | with_reducible refine r_not ?_ | with_reducible refine r_idx ?_ | with_reducible refine r_idxL ?_ | with_reducible refine r_slice ?_ | with_reducible refine r_len ?_ | with_reducible refine r_isi ?_ | with_reducible refine r_toInt ?_ | with_reducible refine r_all ?_ | with_reducible refine r_tupOf ?_ | with_reducible refine r_wget ?_ | with_reducible refine r_dictOf ?_ | with_reducible refine r_lenset ?_ | with_reducible refine r_call ?_ | with_reducible refine r_tup ?_ | with_reducible refine r_nil ?_ | with_reducible refine r_cons ?_ | with_reducible refine r_disp ?_ | with_reducible refine r_lst ?_ | with_reducible refine r_cat ?_ | with_reducible refine r_of ?_ | with_reducible refine r_eqL ?_ | with_reducible refine r_pop ?_ | with_reducible refine s_asgR ?_ | with_reducible refine s_setR ?_ | with_reducible refine s_retR ?_ | with_reducible refine s_iteR ?_ | with_reducible refine s_unpR ?_ | with_reducible refine ss_nilR ?_ | ((with_reducible refine r_callv ?_); refine ⟨_, rfl, ?_⟩) | ((with_reducible refine r_setD ?_); refine ⟨_, _, rfl, rfl, rfl, ?_⟩) | ((with_reducible refine r_popD ?_); refine ⟨_, _, rfl, ?_⟩)) | with_reducible refine ex_bool ?_ | with_reducible refine ex_eq ?_ | with_reducible refine ex_lt ?_ | with_reducible refine ex_le ?_ | with_reducible refine ex_gt ?_ | with_reducible refine ex_add ?_ | with_reducible refine ex_sub ?_ | ((with_reducible refine ex_mod ?_ ?_); (· first | assumption | decide)) | ((with_reducible refine ex_mulR ?_ ?_); · decide) | ((with_reducible refine ex_mulL ?_ ?_); · decide) | ((with_reducible refine ex_pow ?_ ?_ ?_); (· decide); (· first | omega | decide)) | ((with_reducible refine ex_fdiv ?_ ?_ ?_); (· first | assumption | decide); (· first | assumption | decide)) | ((with_reducible refine ex_get ?_); refine ⟨_, rfl, ?_⟩; (try dsimp only)) | ((with_reducible refine ex_len ?_ ?_); (· exact Nat.le_of_ble_eq_true rfl)) | ((with_reducible refine ex_plain ?_); refine ⟨_, rfl, Nat.le_of_ble_eq_true rfl, ?_⟩; (try dsimp only)))
        exact T ms 0 _ (Int.emod_nonneg _ (by decide)) (Int.emod_lt_of_pos _ (by decide))
      · repeat (first | (first | ((with_reducible refine r_var ?_); refine ⟨_, rfl, ?_⟩) | with_reducible refine r_cst ?_ | with_reducible refine r_bin ?_ | with_reducible refine r_cmp ?_ | with_reducible refine r_chain ?_ | with_reducible refine r_and ?_ | with_reducible refine r_or ?_ | with_reducible refine r_not ?_ | with_reducible refine r_idx ?_ | with_reducible refine r_idxL ?_ | with_reducible refine r_slice ?_ | with_reducible refine r_len ?_ | with_reducible refine r_isi ?_ | with_reducible refine r_toInt ?_ | with_reducible refine r_all ?_ | with_reducible refine r_tupOf ?_ | with_reducible refine r_wget ?_ | with_reducible refine r_dictOf ?_ | with_reducible refine r_lenset ?_ | with_reducible refine r_call ?_ | with_reducible refine r_tup ?_ | with_reducible refine r_nil ?_ | with_reducible refine r_cons ?_ | with_reducible refine r_disp ?_ | with_reducible refine r_lst ?_ | with_reducible refine r_cat ?_ | with_reducible refine r_of ?_ | with_reducible refine r_eqL ?_ | with_reducible refine r_pop ?_ | with_reducible refine s_asgR ?_ | with_reducible refine s_setR ?_ | with_reducible refine s_retR ?_ | with_reducible refine s_iteR ?_ | with_reducible refine s_unpR ?_ | with_reducible refine ss_nilR ?_ | ((with_reducible refine r_callv ?_); refine ⟨_, rfl, ?_⟩) | ((with_reducible refine r_setD ?_); refine ⟨_, _, rfl, rfl, rfl, ?_⟩) | ((with_reducible refine r_popD ?_); refine ⟨_, _, rfl, ?_⟩)) | with_reducible refine ex_bool ?_ | with_reducible refine ex_eq ?_ | with_reducible refine ex_lt ?_ | with_reducible refine ex_le ?_ | with_reducible refine ex_gt ?_ | with_reducible refine ex_add ?_ | with_reducible refine ex_sub ?_ | ((with_reducible refine ex_mod ?_ ?_); (· first | assumption | decide)) | ((with_reducible refine ex_mulR ?_ ?_); · decide) | ((with_reducible refine ex_mulL ?_ ?_); · decide) | ((with_reducible refine ex_pow ?_ ?_ ?_); (· decide); (· first | omega | decide)) | ((with_reducible refine ex_fdiv ?_ ?_ ?_); (· first | assumption | decide); (· first | assumption | decide)) | ((with_reducible refine ex_get ?_); refine ⟨_, rfl, ?_⟩; (try dsimp only)) | ((with_reducible refine ex_len ?_ ?_); (· exact Nat.le_of_ble_eq_true rfl)) | ((with_reducible refine ex_plain ?_); refine ⟨_, rfl, Nat.le_of_ble_eq_true rfl, ?_⟩; (try dsimp only)))
        exact T ms m e he he2
  · repeat (first | (first | ((with_reducible refine r_var ?_); refine ⟨_, rfl, ?_⟩) | with_reducible refine r_cst ?_ | with_reducible refine r_bin ?_ | with_reducible refine r_cmp ?_ | with_reducible refine r_chain ?_ | with_reducible refine r_and ?_ | with_reducible refine r_or ?_ | with_reducible refine r_not ?_ | with_reducible refine r_idx ?_ | with_reducible refine r_idxL ?_ | with_reducible refine r_slice ?_ | with_reducible refine r_len ?_ | with_reducible refine r_isi ?_ | with_reducible refine r_toInt ?_ | with_reducible refine r_all ?_ | with_reducible refine r_tupOf ?_ | with_reducible refine r_wget ?_ | with_reducible refine r_dictOf ?_ | with_reducible refine r_lenset ?_ | with_reducible refine r_call ?_ | with_reducible refine r_tup ?_ | with_reducible refine r_nil ?_ | with_reducible refine r_cons ?_ | with_reducible refine r_disp ?_ | with_reducible refine r_lst ?_ | with_reducible refine r_cat ?_ | with_reducible refine r_of ?_ | with_reducible refine r_eqL ?_ | with_reducible refine r_pop ?_ | with_reducible refine s_asgR ?_ | with_reducible refine s_setR ?_ | with_reducible refine s_retR ?_ | with_reducible refine s_iteR ?_ | with_reducible refine s_unpR ?_ | with_reducible refine ss_nilR ?_ | ((with_reducible refine r_callv ?_); refine ⟨_, rfl, ?_⟩) | ((with_reducible refine r_setD ?_); refine ⟨_, _, rfl, rfl, rfl, ?_⟩) | ((with_reducible refine r_popD ?_); refine ⟨_, _, rfl, ?_⟩)) | with_reducible refine ex_bool ?_ | with_reducible refine ex_eq ?_ | with_reducible refine ex_lt ?_ | with_reducible refine ex_le ?_ | with_reducible refine ex_gt ?_ | with_reducible refine ex_add ?_ | with_reducible refine ex_sub ?_ | ((with_reducible refine ex_mod ?_ ?_); (· first | assumption | decide)) | ((with_reducible refine ex_mulR ?_ ?_); · decide) | ((with_reducible refine ex_mulL ?_ ?_); · decide) | ((with_reducible refine ex_pow ?_ ?_ ?_); (· decide); (· first | omega | decide)) | ((with_reducible refine ex_fdiv ?_ ?_ ?_); (· first | assumption | decide); (· first | assumption | decide)) | ((with_reducible refine ex_get ?_); refine ⟨_, rfl, ?_⟩; (try dsimp only)) | ((with_reducible refine ex_len ?_ ?_); (· exact Nat.le_of_ble_eq_true rfl)) | ((with_reducible refine ex_plain ?_); refine ⟨_, rfl, Nat.le_of_ble_eq_true rfl, ?_⟩; (try dsimp only)))
    refine ifF ?_
    repeat (first | (first | ((with_reducible refine r_var ?_); refine ⟨_, rfl, ?_⟩) | with_reducible refine r_cst ?_ | with_reducible refine r_bin ?_ | with_reducible refine r_cmp ?_ | with_reducible refine r_chain ?_ | with_reducible refine r_and ?_ | with_reducible refine r_or ?_ | with_reducible refine r_not ?_ | with_reducible refine r_idx ?_ | with_reducible refine r_idxL ?_ | with_reducible refine r_slice ?_ | with_reducible refine r_len ?_ | with_reducible refine r_isi ?_ | with_reducible refine r_toInt ?_ | with_reducible refine r_all ?_ | with_reducible refine r_tupOf ?_ | with_reducible refine r_wget ?_ | with_reducible refine r_dictOf ?_ | with_reducible refine r_lenset ?_ | with_reducible refine r_call ?_ | with_reducible refine r_tup ?_ | with_reducible refine r_nil ?_ | with_reducible refine r_cons ?_ | with_reducible refine r_disp ?_ | with_reducible refine r_lst ?_ | with_reducible refine r_cat ?_ | with_reducible refine r_of ?_ | with_reducible refine r_eqL ?_ | with_reducible refine r_pop ?_ | with_reducible refine s_asgR ?_ | with_reducible refine s_setR ?_ | with_reducible refine s_retR ?_ | with_reducible refine s_iteR ?_ | with_reducible refine s_unpR ?_ | with_reducible refine ss_nilR ?_ | ((with_reducible refine r_callv ?_); refine ⟨_, rfl, ?_⟩) | ((with_reducible refine r_setD ?_); refine ⟨_, _, rfl, rfl, rfl, ?_⟩) | ((with_reducible refine r_popD ?_); refine ⟨_, _, rfl, ?_⟩)) | with_reducible refine ex_bool ?_ | with_reducible refine ex_eq ?_ | with_reducible refine ex_lt ?_ | with_reducible refine ex_le ?_ | with_reducible refine ex_gt ?_ | with_reducible refine ex_add ?_ | with_reducible refine ex_sub ?_ | ((with_reducible refine ex_mod ?_ ?_); (· first | assumption | decide)) | ((with_reducible refine ex_mulR ?_ ?_); · decide) | ((with_reducible refine ex_mulL ?_ ?_); · decide) | ((with_reducible refine ex_pow ?_ ?_ ?_); (· decide); (· first | omega | decide)) | ((with_reducible refine ex_fdiv ?_ ?_ ?_); (· first | assumption | decide); (· first | assumption | decide)) | ((with_reducible refine ex_get ?_); refine ⟨_, rfl, ?_⟩; (try dsimp only)) | ((with_reducible refine ex_len ?_ ?_); (· exact Nat.le_of_ble_eq_true rfl)) | ((with_reducible refine ex_plain ?_); refine ⟨_, rfl, Nat.le_of_ble_eq_true rfl, ?_⟩; (try dsimp only)))
    exact T ms b e he he2
theorem wp_ex {α : Type} {o : Out α} {ok : α → Sto → Prop} (h : wp o ok (fun _ _ => False)) : ∃ a S', o = .val a S' ∧ ok a S' := by
  cases o with
  | val a S' => exact ⟨a, S', rfl, h⟩
  | exc _ _ => exact h.elim
  | bad => exact h.elim
theorem dInv_len {N : Int} {R S : Sto} (h : dInv N R S) : S.length = R.length + 2 := by
  obtain ⟨ms, b, c, e, rfl, _⟩ := h
  simp
theorem dInv_mono {N M : Int} {R S : Sto} (h : dInv N R S) (l : N ≤ M) : dInv M R S := by
  obtain ⟨ms, b, c, e, e1, h1, h2, h3⟩ := h
  exact ⟨ms, b, c, e, e1, h1, by omega, h3⟩
theorem dInv_get {N : Int} {R S : Sto} (h : dInv N R S) (j : Nat) : S[j + 2]? = R[j]? := by
  obtain ⟨ms, b, c, e, rfl, _⟩ := h
  rfl
theorem dInv_app {N : Int} {R S : Sto} (h : dInv N R S) (T : Sto) : dInv N (R ++ T) (S ++ T) := by
  obtain ⟨ms, b, c, e, rfl, h1⟩ := h
  exact ⟨ms, b, c, e, rfl, h1⟩
theorem dInv_set {N : Int} {R S : Sto} (h : dInv N R S) (j : Nat) (o : MO) : dInv N (R.set j o) (S.set (j + 2) o) := by
  obtain ⟨ms, b, c, e, rfl, h1⟩ := h
  exact ⟨ms, b, c, e, rfl, h1⟩
theorem dInv_take {N : Int} {R T S : Sto} (h : dInv N (R ++ T) S) : dInv N R (S.take (R.length + 2)) := by
  obtain ⟨ms, b, c, e, rfl, h1⟩ := h
  refine ⟨ms, b, c, e, ?_, h1⟩
  show dInts ms :: st4 b c e :: (R ++ T).take R.length = _
  rw [app_take]
theorem dInv_take' {N : Int} {R S : Sto} (h : dInv N R S) : S.take (R.length + 2) = S := by
  rw [← dInv_len h, List.take_length]
theorem c8 (k : Nat) : calK fs (k + 1) 8 = callF (calK fs k) ⟨2, 3, b8⟩ := rfl
theorem draw_ok (k : Nat) {R S : Sto} {N many : Int} (h : dInv N R S) (hN : N ≤ 5000000) (hm : 0 < many) (hm2 : many ≤ 1000000000000) :
    ∃ r S', calK fs (k + 1) 8 [.ref 1, .p (.int many)] S = .val (.p (.int r)) S' ∧ 0 ≤ r ∧ r < many ∧ dInv (N + 1) R S' := by
  have hl := dInv_len h
  have hlog : many.natAbs.log2 < 9000 := by
    have : many.natAbs.log2 < 41 := by
      refine (Nat.log2_lt (by omega)).mpr ?_
      have : (2 : Nat) ^ 41 = 2199023255552 := by decide
      omega
    omega
  have W : wp (calK fs (k + 1) 8 [.ref 1, .p (.int many)] S) (fun d S' => ∃ r, d = .p (.int r) ∧ 0 ≤ r ∧ r < many ∧ dInv (N + 1) R S') (fun _ _ => False) := by
    show wp (callF (calK fs k) ⟨2, 3, b8⟩ _ S) _ _
    refine call_wp rfl ?_
    obtain ⟨ms, b, c, e, rfl, h1, h2, h3, h4⟩ := id h
    refine wp_mono (draw_body (calK fs k) ms R b c e many hm hlog h1 (by omega) h3 h4 N h2) (fun x S' q => ?_) fun _ _ z => z
    obtain ⟨r, e1, h5, h6, h7⟩ := q
    refine ⟨_, e1, r, rfl, h5, h6, ?_⟩
    rw [hl, dInv_take' h7]
    exact h7
  obtain ⟨d, S', e, r, rfl, h1, h2, h3⟩ := wp_ex W
  exact ⟨r, S', e, h1, h2, h3⟩
theorem pick {A : Type} (ds : List A) {r : Int} (h0 : 0 ≤ r) (h1 : r < ds.length) : ∃ d, L2.atI ds r = some d ∧ d ∈ ds := by
  obtain ⟨n, rfl⟩ : ∃ n : Nat, r = n := ⟨r.toNat, by omega⟩
  have hlt : n < ds.length := by omega
  refine ⟨ds[n], ?_, List.getElem_mem hlt⟩
  simp [L2.atI, L2.ixN, hlt]
/-- a comprehension whose turns change the store, by what each turn keeps -/
theorem l_lc_inv {cal : Nat → List D → M D} {it : Wi} {tg : List Nat} {one : Bool} {elt : E} {ρ : Sl} {S S0 : Sto} {ds : List D} (hi : evI cal it ρ S0 = .val (.fix ds) S) (hl : ds.length ≤ 100000) (I : Nat → Sto → Prop) (P : D → Prop) (h0 : I 0 S)
    (step : ∀ i d S, ds[i]? = some d → I i S → ∃ ρ' e S', tgt tg one d (wipeD ρ tg) = some ρ' ∧ evE cal elt ρ' S = .val e S' ∧ P e ∧ I (i + 1) S') :
    ∃ es S', evL cal (.lc it tg one elt) ρ S0 = .val es S' ∧ es.length = ds.length ∧ (∀ e ∈ es, P e) ∧ I ds.length S' := by
  obtain ⟨es, S', e1, e2, e3⟩ := lc_inv (ds := ds) (body := fun d => M.calm (match tgt tg one d (wipeD ρ tg) with
        | some ρ' => evE cal elt ρ'
        | none => M.bad)) I (fun _ d => P d) (fun i d S hd hS => by
    obtain ⟨ρ', e, S', h1, h2, h3, h4⟩ := step i d S hd hS
    exact ⟨e, S', calm_val (by rw [h1]; exact h2), h3, h4⟩) ds.length 0 [] S (by omega) h0
  refine ⟨es, S', ?_, ?_, ?_, e3⟩
  · refine (show _ = (evI cal it ρ S0).then (fun src S1 => match src.size S1 with
      | some n => if n ≤ 100000 then lcGo src _ n 0 [] S1 else .bad
      | none => .bad) from rfl).trans ?_
    rw [hi]
    show (if ds.length ≤ 100000 then lcGo _ _ ds.length 0 [] S else .bad) = _
    rw [if_pos hl]
    exact e1
  · have := Paired.length e2
    rw [List.drop_zero] at this
    exact this.symm
  · have : ∀ {ds es : List D}, Paired (fun _ d => P d) ds es → ∀ e ∈ es, P e := by
      intro ds es p
      induction p with
      | nil => exact fun e he => nomatch he
      | cons x y ih => exact fun e he => by rcases List.mem_cons.mp he with rfl | he; exact x; exact ih e he
    exact this e2
theorem strs_of {P : Str → Prop} : ∀ {es : List D}, (∀ e ∈ es, ∃ z : Str, e = .p (.str z) ∧ P z) → ∃ zs : List Str, es = zs.map (fun z => D.p (.str z)) ∧ ∀ z ∈ zs, P z
  | [], _ => ⟨[], rfl, fun z hz => nomatch hz⟩
  | e :: es, h => by
    obtain ⟨z, rfl, hz⟩ := h e (List.mem_cons_self ..)
    obtain ⟨zs, rfl, hs⟩ := strs_of fun q hq => h q (List.mem_cons_of_mem _ hq)
    exact ⟨z :: zs, rfl, fun q hq => by rcases List.mem_cons.mp hq with rfl | hq; exact hz; exact hs q hq⟩
end Ir.K04
set_option Elab.async false
set_option linter.all false
set_option maxRecDepth 100000
set_option maxHeartbeats 4000001
namespace Ir.K04
open PySem
theorem c9 (k : Nat) : calK fs (k + 1) 9 = callF (calK fs k) ⟨3, 9, b9⟩ := rfl
theorem c10 (k : Nat) : calK fs (k + 1) 10 = callF (calK fs k) ⟨3, 5, b10⟩ := rfl
/-- a text of the generator: short, of plain signs -/
structure Nm (z : Str) : Prop where
  len : z.length ≤ 30
  low : z.cps.toList.all (fun c => decide (c < 128)) = true
theorem nm_app {x y : Str} (h1 : x.cps.toList.all (fun c => decide (c < 128)) = true) (h2 : y.cps.toList.all (fun c => decide (c < 128)) = true) : (x ++ y).cps.toList.all (fun c => decide (c < 128)) = true := by
  show (Str.append x y).cps.toList.all _ = true
  unfold Str.append
  simp only [Array.toList_append, List.all_append, h1, h2, Bool.and_self]
theorem shaped_of {z : Str} (h : z.cps.toList.all (fun c => decide (c < 128)) = true) : PyData.canLay0 (.str z) = true := by
  have : z.cps.all (· < 0x110000) = true := by
    rw [← Array.all_toList, List.all_eq_true]
    intro c hc
    have := of_decide_eq_true (List.all_eq_true.mp h c hc)
    exact decide_eq_true (by omega)
  simpa [PyData.canLay0, PyData.strOk] using this
theorem lay_strs : ∀ zs : List Str, (∀ z ∈ zs, Nm z) → PyData.canLayAll0 (zs.map PyData.str) = true ∧ PyData.depthAll (zs.map PyData.str) = 0
  | [], _ => ⟨rfl, rfl⟩
  | z :: zs, h => by
    obtain ⟨h1, h2⟩ := lay_strs zs fun q hq => h q (List.mem_cons_of_mem _ hq)
    have h3 := shaped_of (h z (List.mem_cons_self ..)).low
    refine ⟨?_, ?_⟩
    · simp only [List.map_cons, PyData.canLayAll0, h3, h1, Bool.and_self]
    · simp only [List.map_cons, PyData.depthAll, PyData.depth, h2, Nat.max_self]
theorem shaped_list {zs : List Str} (h : ∀ z ∈ zs, Nm z) : SeqAt.shaped (.list (zs.map .str)) = true := by
  obtain ⟨h1, h2⟩ := lay_strs zs h
  simp [SeqAt.shaped, PyData.canLay0, PyData.depth, h1, h2]
theorem shaped_tup {zs : List Str} (h : ∀ z ∈ zs, Nm z) : SeqAt.shaped (.tuple (zs.map .str)) = true := by
  obtain ⟨h1, h2⟩ := lay_strs zs h
  simp [SeqAt.shaped, PyData.canLay0, PyData.depth, h1, h2]
theorem shaped_str {z : Str} (h : Nm z) : SeqAt.shaped (.str z) = true := by
  have h3 := shaped_of h.low
  simp [SeqAt.shaped, h3, PyData.depth]
theorem in_strs {S : Sto} {j : Nat} {z : Str} {zs : List Str} (hj : S[j]? = some (.lst (zs.map fz))) (hz : Nm z) (hs : ∀ z ∈ zs, Nm z) : inD S (.p (.str z)) (.ref j) = some (zs.any fun y => decide (y = z)) := by
  unfold inD
  simp only [hj, (strs_back zs).1, shaped_str hz, shaped_list hs, and_self, if_true]
  rw [List.any_map]
  have e2 : ((fun y => PyData.eqv y (.str z)) ∘ PyData.str) = fun y => decide (y = z) := by
    funext a
    exact eqv_str a z
  rw [e2]
/-- one sign of a text -/
theorem sign_at {z : Str} (hz : z.cps.toList.all (fun c => decide (c < 128)) = true) (hl : z.length ≤ 1000) {r : Int} (h0 : 0 ≤ r) (h1 : r < z.length) (S : Sto) : ∃ c : Nat, getI S (.p (.str z)) (.p (.int r)) = some (.p (.str ⟨#[c]⟩)) ∧ c < 128 := by
  have hl2 : z.length ≤ sizeLine := by rw [sizeLine_eq]; omega
  obtain ⟨c, e, hc⟩ := pick z.cps.toList h0 (by rw [Array.length_toList]; exact h1)
  refine ⟨c, ?_, of_decide_eq_true (List.all_eq_true.mp hz c hc)⟩
  show (if z.length ≤ sizeLine then (L2.atI z.cps.toList r).map fun c => D.p (.str ⟨#[c]⟩) else none) = _
  rw [if_pos hl2, e]
  rfl
def smallS : Str := "abcdefghijklmnopqrstuvwxyz"
def capS : Str := "ABCDEFGHIJKLMNOPQRSTUVWXYZ"
theorem small_low : smallS.cps.toList.all (fun c => decide (c < 128)) = true := by decide +kernel
theorem cap_low : capS.cps.toList.all (fun c => decide (c < 128)) = true := by decide +kernel
theorem small_len : smallS.length = 26 := by decide +kernel
theorem cap_len : capS.length = 26 := by decide +kernel
theorem small36 : (smallS ++ "0123456789").length = 36 := by decide +kernel
theorem small36_low : (smallS ++ "0123456789").cps.toList.all (fun c => decide (c < 128)) = true := by decide +kernel
/-- the signs behind the first one: draws -/
theorem signs_ok (k : Nat) (n : Nat) (a b c e f g : Option D) {R S : Sto} {N : Int} (hI : dInv N R S) (hN : N ≤ 4000000) (hn : n ≤ 11) :
    ∃ (zs : List Str) (S' : Sto), evL (calK fs (k + 1)) (.lc (.rng (.var 5)) [8] true (.idx (.bin .add (.var 3) (.cst (.p (.str "0123456789")))) (.call 8 (.cons (.var 0) (.cons (.cst (.p (.int 36))) .nil))))) [some (.ref 1), a, b, some (.p (.str smallS)), c, some (.p (.int (n : Int))), e, f, g] S = .val (zs.map fz) S' ∧
      zs.length = n ∧ (∀ z ∈ zs, z.length = 1 ∧ z.cps.toList.all (fun c => decide (c < 128)) = true) ∧ dInv (N + n) R S' := by
  have hrn := srcRng_nat n (by omega)
  have hb := bop_str smallS "0123456789" (by rw [small_len]; decide +kernel)
  obtain ⟨es, S', e1, e2, e3, e4⟩ := l_lc_inv (cal := calK fs (k + 1)) (it := .rng (.var 5)) (tg := [8]) (one := true) (elt := .idx (.bin .add (.var 3) (.cst (.p (.str "0123456789")))) (.call 8 (.cons (.var 0) (.cons (.cst (.p (.int 36))) .nil))))
    (ρ := [some (.ref 1), a, b, some (.p (.str smallS)), c, some (.p (.int (n : Int))), e, f, g]) (S0 := S) (S := S) (ds := (List.range n).map fun (i : Nat) => D.p (.int (i : Int))) (by simp -dsimp only [Ir.then_val, Ir.optA_some, Ir.boolA_t, Ir.boolA_f, Ir.seqA_next, Ir.seqA_ret, Ir.wp_val_, Ir.v_var, Ir.v_cst, Ir.v_bin, Ir.v_cmp, Ir.v_chain, Ir.v_and, Ir.v_or, Ir.v_not, Ir.v_ifx, Ir.v_neg, Ir.v_call, Ir.v_tup, Ir.v_lst, Ir.v_idx, Ir.v_idxL, Ir.v_slice, Ir.v_strOf, Ir.v_join, Ir.v_extend, Ir.v_append, Ir.v_len, Ir.v_isi, Ir.v_toInt, Ir.v_all, Ir.v_tupOf, Ir.v_dictOf, Ir.v_dlit, Ir.v_dget3, Ir.v_eqL, Ir.v_op1, Ir.v_op2, Ir.v_fstr, Ir.f_nil, Ir.f_cons, Ir.a_nil', Ir.a_cons', Ir.a_star', Ir.l_disp', Ir.l_of', Ir.l_cat', Ir.l_cut', Ir.b_no', Ir.b_at', Ir.i_tup', Ir.i_lst', Ir.i_str', Ir.i_rng', Ir.ss_nil', Ir.ss_asg, Ir.ss_expr, Ir.ss_ret, Ir.ss_unp, Ir.ss_ite, Ir.ss_setI, Ir.ss_for, Ir.finA_p, Ir.strD_str, Ir.ofD_tup, Ir.dicAt_eq, Ir.lstAt_eq, Ir.dget3_str, Ir.dixD_int, Ir.srcLst_eq, Ir.ofD_ref, Ir.tupD_ref, Ir.lenD_ref, Ir.lenD_tup, Ir.getI_ref, Ir.lsA_lst, Ir.ifA_t, Ir.appD_eq, Ir.extD_eq, Ir.catD_eq, Ir.rb_p, decide_true, decide_false, Bool.true_and, Bool.and_true, Ir.atA_no, Ir.atA_go, Ir.contA_next, Ir.contA_ret, Ir.size_fix, Ir.size_dyn, Ir.at_fix, Ir.at_dyn, Ir.turn_one, List.length_map, List.getElem?_nil, Ir.tgt, Ir.setAll, Bool.false_eq_true, List.set_nil, List.getElem?_cons_zero, List.getElem?_cons_succ, List.set_cons_zero, List.set_cons_succ, List.map_cons, List.map_nil, List.length_cons, List.length_nil, List.replicate_succ, List.replicate_zero, List.cons_append, List.nil_append, Option.map_some, Option.bind_some, Ir.app_get, Ir.app_get0, Ir.app_set, Ir.app_set0, Ir.app_take, Ir.app_one, Ir.len_app, Nat.reduceAdd, Nat.reduceSub, Nat.reduceLeDiff, if_true, if_false, hrn]) (by simp; omega)
    (fun i S => dInv (N + i) R S) (fun d => ∃ z : Str, d = .p (.str z) ∧ z.length = 1 ∧ z.cps.toList.all (fun c => decide (c < 128)) = true) (by simpa using hI) (fun i d S hd hS => by
      obtain ⟨hi, _⟩ := List.getElem?_eq_some_iff.mp hd
      rw [List.length_map, List.length_range] at hi
      obtain ⟨r, S1, d1, d2, d3, d4⟩ := draw_ok k hS (many := 36) (by omega) (by omega) (by omega)
      obtain ⟨q, q1, q2⟩ := sign_at small36_low (by rw [small36]; omega) d2 (by rw [small36]; exact d3) S1
      refine ⟨_, fz ⟨#[q]⟩, S1, rfl, ?_, ⟨_, rfl, rfl, by simp [q2]⟩, by
        have e : N + ((i + 1 : Nat) : Int) = N + i + 1 := by omega
        rw [e]; exact d4⟩
      simp -dsimp only [Ir.then_val, Ir.optA_some, Ir.boolA_t, Ir.boolA_f, Ir.seqA_next, Ir.seqA_ret, Ir.wp_val_, Ir.v_var, Ir.v_cst, Ir.v_bin, Ir.v_cmp, Ir.v_chain, Ir.v_and, Ir.v_or, Ir.v_not, Ir.v_ifx, Ir.v_neg, Ir.v_call, Ir.v_tup, Ir.v_lst, Ir.v_idx, Ir.v_idxL, Ir.v_slice, Ir.v_strOf, Ir.v_join, Ir.v_extend, Ir.v_append, Ir.v_len, Ir.v_isi, Ir.v_toInt, Ir.v_all, Ir.v_tupOf, Ir.v_dictOf, Ir.v_dlit, Ir.v_dget3, Ir.v_eqL, Ir.v_op1, Ir.v_op2, Ir.v_fstr, Ir.f_nil, Ir.f_cons, Ir.a_nil', Ir.a_cons', Ir.a_star', Ir.l_disp', Ir.l_of', Ir.l_cat', Ir.l_cut', Ir.b_no', Ir.b_at', Ir.i_tup', Ir.i_lst', Ir.i_str', Ir.i_rng', Ir.ss_nil', Ir.ss_asg, Ir.ss_expr, Ir.ss_ret, Ir.ss_unp, Ir.ss_ite, Ir.ss_setI, Ir.ss_for, Ir.finA_p, Ir.strD_str, Ir.ofD_tup, Ir.dicAt_eq, Ir.lstAt_eq, Ir.dget3_str, Ir.dixD_int, Ir.srcLst_eq, Ir.ofD_ref, Ir.tupD_ref, Ir.lenD_ref, Ir.lenD_tup, Ir.getI_ref, Ir.lsA_lst, Ir.ifA_t, Ir.appD_eq, Ir.extD_eq, Ir.catD_eq, Ir.rb_p, decide_true, decide_false, Bool.true_and, Bool.and_true, Ir.atA_no, Ir.atA_go, Ir.contA_next, Ir.contA_ret, Ir.size_fix, Ir.size_dyn, Ir.at_fix, Ir.at_dyn, Ir.turn_one, List.length_map, List.getElem?_nil, Ir.tgt, Ir.setAll, Bool.false_eq_true, List.set_nil, List.getElem?_cons_zero, List.getElem?_cons_succ, List.set_cons_zero, List.set_cons_succ, List.map_cons, List.map_nil, List.length_cons, List.length_nil, List.replicate_succ, List.replicate_zero, List.cons_append, List.nil_append, Option.map_some, Option.bind_some, Ir.app_get, Ir.app_get0, Ir.app_set, Ir.app_set0, Ir.app_take, Ir.app_one, Ir.len_app, Nat.reduceAdd, Nat.reduceSub, Nat.reduceLeDiff, if_true, if_false, wipeD, hb, d1, q1])
  obtain ⟨zs, rfl, h3⟩ := strs_of e3
  refine ⟨zs, S', e1, by simpa using e2, h3, by simpa using e4⟩
theorem sum_one : ∀ l : List Str, (∀ z ∈ l, z.length = 1) → (l.map (·.length)).sum = l.length
  | [], _ => rfl
  | x :: l, h => by
    rw [List.map_cons, List.sum_cons, sum_one l fun z hz => h z (List.mem_cons_of_mem _ hz), h x (List.mem_cons_self ..), List.length_cons]
    omega
theorem join_low : ∀ l : List Str, (∀ z ∈ l, z.cps.toList.all (fun c => decide (c < 128)) = true) → (Txt.join "" l).cps.toList.all (fun c => decide (c < 128)) = true
  | [], _ => by rw [join_nil]; rfl
  | [x], h => by rw [join_one]; exact h x (List.mem_cons_self ..)
  | x :: y :: l, h => by
    rw [join_cons]
    exact nm_app (nm_app (h x (List.mem_cons_self ..)) (by decide +kernel)) (join_low (y :: l) fun z hz => h z (List.mem_cons_of_mem _ hz))
end Ir.K04
set_option Elab.async false
set_option linter.all false
set_option maxRecDepth 100000
set_option maxHeartbeats 4000001
namespace Ir.K04
open PySem
def firstsS (cap : Bool) : Str := if cap then capS else smallS
theorem firsts_low (cap : Bool) : (firstsS cap).cps.toList.all (fun c => decide (c < 128)) = true := by cases cap; exact small_low; exact cap_low
theorem firsts_len (cap : Bool) : (firstsS cap).length = 26 := by cases cap; exact small_len; exact cap_len
def someS (cap : Bool) : List Str := if cap then ["Num", "A", "Cup", "A1"] else ["num", "gives", "ask", "at", "catch", "r1", "kind"]
theorem some_nm (cap : Bool) : ∀ z ∈ someS cap, Nm z := by
  intro z hz
  cases cap
  · simp only [someS, Bool.false_eq_true, if_false, List.mem_cons, List.not_mem_nil, or_false] at hz
    rcases hz with rfl | rfl | rfl | rfl | rfl | rfl | rfl <;> exact ⟨by decide +kernel, by decide +kernel⟩
  · simp only [someS, if_true, List.mem_cons, List.not_mem_nil, or_false] at hz
    rcases hz with rfl | rfl | rfl | rfl <;> exact ⟨by decide +kernel, by decide +kernel⟩
theorem nm_num {q : Nat} (hq : q < 128) {i : Nat} (hi : i ≤ 20) : Nm ((⟨#[q]⟩ : Str) ++ numS i) := by
  have : ∀ n : Fin 21, (numS (n.val : Int)).length ≤ 20 ∧ (numS (n.val : Int)).cps.toList.all (fun c => decide (c < 128)) = true := by decide +kernel
  obtain ⟨h1, h2⟩ := this ⟨i, by omega⟩
  refine ⟨?_, nm_app (by simp [hq]) h2⟩
  rw [str_len]
  show 1 + _ ≤ 30
  simp only at h1
  omega
def restW : Ss := match b9 with
  | .cons _ (.cons _ (.cons _ (.cons _ (.cons _ (.cons _ (.cons _ r)))))) => r
  | _ => .nil
def slotsW (cap : Bool) (j : Nat) (n : Int) (t : Str) (a : D) (x : Option D) : Sl := [some (.ref 1), some (.p (.bool cap)), some (.ref j), some (.p (.str smallS)), some (.p (.str (firstsS cap))), some (.p (.int n)), some (.p (.str t)), some a, x]
theorem loopW (cal : Nat → List D → M D) (cap : Bool) (j : Nat) (n : Int) {t : Str} (ht : Nm t) (a : D) {S : Sto} {zs : List Str} (hj : S[j]? = some (.lst (zs.map fz))) (hz : ∀ z ∈ zs, Nm z) (hl : zs.length ≤ 15) :
    wp (exSs cal restW (slotsW cap j n t a none) S) (fun c S' => ∃ z : Str, c.1 = .ret (.p (.str z)) ∧ Nm z ∧ S' = S) (fun _ _ => False) := by
  have rn : srcRng (.p (.int ((zs.length : Int) + 1))) = some (.fix ((List.range (zs.length + 1)).map fun (i : Nat) => .p (.int (i : Int)))) := srcRng_nat (zs.length + 1) (by omega)
  show wp (exSs cal (.cons (.for_ (.rng (.bin .add (.len (.var 2)) (.cst (.p (.int 1))))) [8] true (.cons (.ite (.cmp .in_ (.var 6) (.var 2)) (.cons (.asg 6 (.bin .add (.idx (.var 4) (.cst (.p (.int 25)))) (.strOf (.var 8)))) .nil) .nil) .nil)) (.cons (.ret (.var 6)) .nil)) _ _) _ _
  unfold slotsW
  rw [ss_for]
  simp -dsimp only [Ir.then_val, Ir.optA_some, Ir.boolA_t, Ir.boolA_f, Ir.seqA_next, Ir.seqA_ret, Ir.wp_val_, Ir.v_var, Ir.v_cst, Ir.v_bin, Ir.v_cmp, Ir.v_chain, Ir.v_and, Ir.v_or, Ir.v_not, Ir.v_ifx, Ir.v_neg, Ir.v_call, Ir.v_tup, Ir.v_lst, Ir.v_idx, Ir.v_idxL, Ir.v_slice, Ir.v_strOf, Ir.v_join, Ir.v_extend, Ir.v_append, Ir.v_len, Ir.v_isi, Ir.v_toInt, Ir.v_all, Ir.v_tupOf, Ir.v_dictOf, Ir.v_dlit, Ir.v_dget3, Ir.v_eqL, Ir.v_op1, Ir.v_op2, Ir.v_fstr, Ir.f_nil, Ir.f_cons, Ir.a_nil', Ir.a_cons', Ir.a_star', Ir.l_disp', Ir.l_of', Ir.l_cat', Ir.l_cut', Ir.b_no', Ir.b_at', Ir.i_tup', Ir.i_lst', Ir.i_str', Ir.i_rng', Ir.ss_nil', Ir.ss_asg, Ir.ss_expr, Ir.ss_ret, Ir.ss_unp, Ir.ss_ite, Ir.ss_setI, Ir.ss_for, Ir.finA_p, Ir.strD_str, Ir.ofD_tup, Ir.dicAt_eq, Ir.lstAt_eq, Ir.dget3_str, Ir.dixD_int, Ir.srcLst_eq, Ir.ofD_ref, Ir.tupD_ref, Ir.lenD_ref, Ir.lenD_tup, Ir.getI_ref, Ir.lsA_lst, Ir.ifA_t, Ir.appD_eq, Ir.extD_eq, Ir.catD_eq, Ir.rb_p, decide_true, decide_false, Bool.true_and, Bool.and_true, Ir.atA_no, Ir.atA_go, Ir.contA_next, Ir.contA_ret, Ir.size_fix, Ir.size_dyn, Ir.at_fix, Ir.at_dyn, Ir.turn_one, List.length_map, List.getElem?_nil, Ir.tgt, Ir.setAll, Bool.false_eq_true, List.set_nil, List.getElem?_cons_zero, List.getElem?_cons_succ, List.set_cons_zero, List.set_cons_succ, List.map_cons, List.map_nil, List.length_cons, List.length_nil, List.replicate_succ, List.replicate_zero, List.cons_append, List.nil_append, Option.map_some, Option.bind_some, Ir.app_get, Ir.app_get0, Ir.app_set, Ir.app_set0, Ir.app_take, Ir.app_one, Ir.len_app, Nat.reduceAdd, Nat.reduceSub, Nat.reduceLeDiff, if_true, if_false, hj, bop_add, rn, List.length_range]
  have F := for_inv (ds := (List.range (zs.length + 1)).map fun (i : Nat) => D.p (.int (i : Int))) (body := turn cal [8] true (.cons (.ite (.cmp .in_ (.var 6) (.var 2)) (.cons (.asg 6 (.bin .add (.idx (.var 4) (.cst (.p (.int 25)))) (.strOf (.var 8)))) .nil) .nil) .nil))
    (okS := fun c S' => ∃ z x, Nm z ∧ c = (.next, slotsW cap j n z a x) ∧ S' = S) (ex := fun _ _ => False)
    (fun _ ρ S' => ∃ z x, Nm z ∧ ρ = slotsW cap j n z a x ∧ S' = S) (fun ρ S' ⟨z, x, h1, h2, h3⟩ => ⟨z, x, h1, by rw [h2], h3⟩) (fun i d ρ S' hd ⟨z, x, h1, h2, h3⟩ => by
      subst h2
      subst h3
      obtain ⟨i', hi, rfl⟩ : ∃ m : Nat, m ≤ 20 ∧ D.p (.int (m : Int)) = d := by
        rw [List.getElem?_map] at hd
        obtain ⟨m, hm, rfl⟩ := Option.map_eq_some_iff.mp hd
        have := List.mem_range.mp (List.mem_of_getElem? hm)
        exact ⟨m, by omega, rfl⟩
      have hin := in_strs hj h1 hz
      obtain ⟨q, q1, q2⟩ := sign_at (firsts_low cap) (by rw [firsts_len]; omega) (r := 25) (by omega) (by rw [firsts_len]; omega) S'
      have sm := sm_nat i' (by omega)
      have hb := bop_str ⟨#[q]⟩ (numS i') (by have := sm.ln; show 1 + _ ≤ _; omega)
      rw [turn_one]
      show wp (exSs cal _ ((slotsW cap j n z a x).set 8 (some (D.p (.int (i' : Int))))) S') _ _
      unfold slotsW
      cases hA : zs.any fun y => decide (y = z) with
      | true =>
        simp -dsimp only [Ir.then_val, Ir.optA_some, Ir.boolA_t, Ir.boolA_f, Ir.seqA_next, Ir.seqA_ret, Ir.wp_val_, Ir.v_var, Ir.v_cst, Ir.v_bin, Ir.v_cmp, Ir.v_chain, Ir.v_and, Ir.v_or, Ir.v_not, Ir.v_ifx, Ir.v_neg, Ir.v_call, Ir.v_tup, Ir.v_lst, Ir.v_idx, Ir.v_idxL, Ir.v_slice, Ir.v_strOf, Ir.v_join, Ir.v_extend, Ir.v_append, Ir.v_len, Ir.v_isi, Ir.v_toInt, Ir.v_all, Ir.v_tupOf, Ir.v_dictOf, Ir.v_dlit, Ir.v_dget3, Ir.v_eqL, Ir.v_op1, Ir.v_op2, Ir.v_fstr, Ir.f_nil, Ir.f_cons, Ir.a_nil', Ir.a_cons', Ir.a_star', Ir.l_disp', Ir.l_of', Ir.l_cat', Ir.l_cut', Ir.b_no', Ir.b_at', Ir.i_tup', Ir.i_lst', Ir.i_str', Ir.i_rng', Ir.ss_nil', Ir.ss_asg, Ir.ss_expr, Ir.ss_ret, Ir.ss_unp, Ir.ss_ite, Ir.ss_setI, Ir.ss_for, Ir.finA_p, Ir.strD_str, Ir.ofD_tup, Ir.dicAt_eq, Ir.lstAt_eq, Ir.dget3_str, Ir.dixD_int, Ir.srcLst_eq, Ir.ofD_ref, Ir.tupD_ref, Ir.lenD_ref, Ir.lenD_tup, Ir.getI_ref, Ir.lsA_lst, Ir.ifA_t, Ir.appD_eq, Ir.extD_eq, Ir.catD_eq, Ir.rb_p, decide_true, decide_false, Bool.true_and, Bool.and_true, Ir.atA_no, Ir.atA_go, Ir.contA_next, Ir.contA_ret, Ir.size_fix, Ir.size_dyn, Ir.at_fix, Ir.at_dyn, Ir.turn_one, List.length_map, List.getElem?_nil, Ir.tgt, Ir.setAll, Bool.false_eq_true, List.set_nil, List.getElem?_cons_zero, List.getElem?_cons_succ, List.set_cons_zero, List.set_cons_succ, List.map_cons, List.map_nil, List.length_cons, List.length_nil, List.replicate_succ, List.replicate_zero, List.cons_append, List.nil_append, Option.map_some, Option.bind_some, Ir.app_get, Ir.app_get0, Ir.app_set, Ir.app_set0, Ir.app_take, Ir.app_one, Ir.len_app, Nat.reduceAdd, Nat.reduceSub, Nat.reduceLeDiff, if_true, if_false, cop_in, hin, hA, q1, strOf_int sm, hb]
        exact ⟨_, _, nm_num q2 hi, by first | rfl | exact True.intro, by first | rfl | exact True.intro⟩
      | false =>
        simp -dsimp only [Ir.then_val, Ir.optA_some, Ir.boolA_t, Ir.boolA_f, Ir.seqA_next, Ir.seqA_ret, Ir.wp_val_, Ir.v_var, Ir.v_cst, Ir.v_bin, Ir.v_cmp, Ir.v_chain, Ir.v_and, Ir.v_or, Ir.v_not, Ir.v_ifx, Ir.v_neg, Ir.v_call, Ir.v_tup, Ir.v_lst, Ir.v_idx, Ir.v_idxL, Ir.v_slice, Ir.v_strOf, Ir.v_join, Ir.v_extend, Ir.v_append, Ir.v_len, Ir.v_isi, Ir.v_toInt, Ir.v_all, Ir.v_tupOf, Ir.v_dictOf, Ir.v_dlit, Ir.v_dget3, Ir.v_eqL, Ir.v_op1, Ir.v_op2, Ir.v_fstr, Ir.f_nil, Ir.f_cons, Ir.a_nil', Ir.a_cons', Ir.a_star', Ir.l_disp', Ir.l_of', Ir.l_cat', Ir.l_cut', Ir.b_no', Ir.b_at', Ir.i_tup', Ir.i_lst', Ir.i_str', Ir.i_rng', Ir.ss_nil', Ir.ss_asg, Ir.ss_expr, Ir.ss_ret, Ir.ss_unp, Ir.ss_ite, Ir.ss_setI, Ir.ss_for, Ir.finA_p, Ir.strD_str, Ir.ofD_tup, Ir.dicAt_eq, Ir.lstAt_eq, Ir.dget3_str, Ir.dixD_int, Ir.srcLst_eq, Ir.ofD_ref, Ir.tupD_ref, Ir.lenD_ref, Ir.lenD_tup, Ir.getI_ref, Ir.lsA_lst, Ir.ifA_t, Ir.appD_eq, Ir.extD_eq, Ir.catD_eq, Ir.rb_p, decide_true, decide_false, Bool.true_and, Bool.and_true, Ir.atA_no, Ir.atA_go, Ir.contA_next, Ir.contA_ret, Ir.size_fix, Ir.size_dyn, Ir.at_fix, Ir.at_dyn, Ir.turn_one, List.length_map, List.getElem?_nil, Ir.tgt, Ir.setAll, Bool.false_eq_true, List.set_nil, List.getElem?_cons_zero, List.getElem?_cons_succ, List.set_cons_zero, List.set_cons_succ, List.map_cons, List.map_nil, List.length_cons, List.length_nil, List.replicate_succ, List.replicate_zero, List.cons_append, List.nil_append, Option.map_some, Option.bind_some, Ir.app_get, Ir.app_get0, Ir.app_set, Ir.app_set0, Ir.app_take, Ir.app_one, Ir.len_app, Nat.reduceAdd, Nat.reduceSub, Nat.reduceLeDiff, if_true, if_false, cop_in, hin, hA]
        exact ⟨_, _, h1, by first | rfl | exact True.intro, by first | rfl | exact True.intro⟩) (zs.length + 1) 0 (slotsW cap j n t a none) S (by simp) ⟨t, none, ht, rfl, rfl⟩
  obtain ⟨c, S', e, z, x, h1, rfl, rfl⟩ := wp_ex F
  unfold slotsW at e
  rw [e]
  simp -dsimp only [Ir.then_val, Ir.optA_some, Ir.boolA_t, Ir.boolA_f, Ir.seqA_next, Ir.seqA_ret, Ir.wp_val_, Ir.v_var, Ir.v_cst, Ir.v_bin, Ir.v_cmp, Ir.v_chain, Ir.v_and, Ir.v_or, Ir.v_not, Ir.v_ifx, Ir.v_neg, Ir.v_call, Ir.v_tup, Ir.v_lst, Ir.v_idx, Ir.v_idxL, Ir.v_slice, Ir.v_strOf, Ir.v_join, Ir.v_extend, Ir.v_append, Ir.v_len, Ir.v_isi, Ir.v_toInt, Ir.v_all, Ir.v_tupOf, Ir.v_dictOf, Ir.v_dlit, Ir.v_dget3, Ir.v_eqL, Ir.v_op1, Ir.v_op2, Ir.v_fstr, Ir.f_nil, Ir.f_cons, Ir.a_nil', Ir.a_cons', Ir.a_star', Ir.l_disp', Ir.l_of', Ir.l_cat', Ir.l_cut', Ir.b_no', Ir.b_at', Ir.i_tup', Ir.i_lst', Ir.i_str', Ir.i_rng', Ir.ss_nil', Ir.ss_asg, Ir.ss_expr, Ir.ss_ret, Ir.ss_unp, Ir.ss_ite, Ir.ss_setI, Ir.ss_for, Ir.finA_p, Ir.strD_str, Ir.ofD_tup, Ir.dicAt_eq, Ir.lstAt_eq, Ir.dget3_str, Ir.dixD_int, Ir.srcLst_eq, Ir.ofD_ref, Ir.tupD_ref, Ir.lenD_ref, Ir.lenD_tup, Ir.getI_ref, Ir.lsA_lst, Ir.ifA_t, Ir.appD_eq, Ir.extD_eq, Ir.catD_eq, Ir.rb_p, decide_true, decide_false, Bool.true_and, Bool.and_true, Ir.atA_no, Ir.atA_go, Ir.contA_next, Ir.contA_ret, Ir.size_fix, Ir.size_dyn, Ir.at_fix, Ir.at_dyn, Ir.turn_one, List.length_map, List.getElem?_nil, Ir.tgt, Ir.setAll, Bool.false_eq_true, List.set_nil, List.getElem?_cons_zero, List.getElem?_cons_succ, List.set_cons_zero, List.set_cons_succ, List.map_cons, List.map_nil, List.length_cons, List.length_nil, List.replicate_succ, List.replicate_zero, List.cons_append, List.nil_append, Option.map_some, Option.bind_some, Ir.app_get, Ir.app_get0, Ir.app_set, Ir.app_set0, Ir.app_take, Ir.app_one, Ir.len_app, Nat.reduceAdd, Nat.reduceSub, Nat.reduceLeDiff, if_true, if_false, seqA_next]
  exact ⟨z, by first | rfl | exact True.intro, h1, by first | rfl | exact True.intro⟩
theorem word_ok (k : Nat) (cap : Bool) {R S : Sto} {N : Int} (hI : dInv N R S) (hN : N ≤ 3000000) {j : Nat} {zs : List Str} (hj : R[j]? = some (.lst (zs.map fz))) (hz : ∀ z ∈ zs, Nm z) (hl : zs.length ≤ 15) :
    ∃ (z : Str) (S' : Sto), calK fs (k + 2) 9 [.ref 1, .p (.bool cap), .ref (j + 2)] S = .val (.p (.str z)) S' ∧ Nm z ∧ dInv (N + 20) R S' := by
  have W : wp (calK fs (k + 2) 9 [.ref 1, .p (.bool cap), .ref (j + 2)] S) (fun d S' => ∃ z : Str, d = .p (.str z) ∧ Nm z ∧ dInv (N + 20) R S') (fun _ _ => False) := by
    rw [c9, callA S rfl]
    have hlen := dInv_len hI
    rw [hlen]
    show wp (finA _ (exSs _ (.cons (.asg 3 _) (.cons (.asg 4 _) (.cons (.asg 5 _) (.cons (.asg 6 _) (.cons (.asg 6 _) (.cons (.asg 7 _) (.cons (.ite _ _ _) restW))))))) _ _)) _ _
    have o2 : (2 : Nat) ≤ 100000 := by omega
    have o4 : (4 : Nat) ≤ 100000 := by omega
    have o7 : (7 : Nat) ≤ 100000 := by omega
    have x1 : intOf (.p (.bool cap)) = some (if cap then 1 else 0) := rfl
    have x2 : L2.atI [D.p (.str "abcdefghijklmnopqrstuvwxyz"), .p (.str "ABCDEFGHIJKLMNOPQRSTUVWXYZ")] (if cap then 1 else 0) = some (.p (.str (firstsS cap))) := by cases cap <;> rfl
    obtain ⟨r1, S1, d1, d2, d3, I1⟩ := draw_ok k hI (many := 4) (by omega) (by omega) (by omega)
    obtain ⟨n, hn, hn2⟩ : ∃ n : Nat, L2.atI [D.p (.int 0), .p (.int 0), .p (.int 2), .p (.int 11)] r1 = some (.p (.int (n : Int))) ∧ n ≤ 11 := by
      rcases (by omega : r1 = 0 ∨ r1 = 1 ∨ r1 = 2 ∨ r1 = 3) with rfl | rfl | rfl | rfl
      · exact ⟨0, rfl, by omega⟩
      · exact ⟨0, rfl, by omega⟩
      · exact ⟨2, rfl, by omega⟩
      · exact ⟨11, rfl, by omega⟩
    obtain ⟨r2, S2, f1, f2, f3, I2⟩ := draw_ok k I1 (many := 26) (by omega) (by omega) (by omega)
    obtain ⟨q, q1, q2⟩ := sign_at (firsts_low cap) (by rw [firsts_len]; omega) f2 (by rw [firsts_len]; exact f3) S2
    obtain ⟨ys, S3, g1, g2, g3, I3⟩ := signs_ok k n (some (.p (.bool cap))) (some (.ref (j + 2))) (some (.p (.str (firstsS cap)))) (some (.p (.str ⟨#[q]⟩))) none none I2 (by omega) hn2
    have a1 := allocL S3 (ys.map fz) (all_fz _ _)
    have I4 := dInv_app I3 [.lst (ys.map fz)]
    have j1 := joinD_lst (S3 ++ [.lst (ys.map fz)]) S3.length "" ys (app_get0 ..) (by rw [sum_one ys fun z hz => (g3 z hz).1, g2]; rw [show ("" : Str).length = 0 by decide +kernel]; omega)
    have jl := join_len "" ys
    have l0 : ("" : Str).length = 0 := by decide +kernel
    rw [sum_one ys (fun z hz => (g3 z hz).1), g2, l0] at jl
    have b1 := bop_str ⟨#[q]⟩ (Txt.join "" ys) (by show 1 + _ ≤ _; omega)
    have T1 : Nm ((⟨#[q]⟩ : Str) ++ Txt.join "" ys) := ⟨by rw [str_len]; show 1 + _ ≤ 30; omega, nm_app (by simp [q2]) (join_low ys fun z hz => (g3 z hz).2)⟩
    generalize hT : (⟨#[q]⟩ : Str) ++ Txt.join "" ys = t1 at b1 T1
    -- the two lists of words
    have a2 := allocL (S3 ++ [.lst (ys.map fz)]) (["num", "gives", "ask", "at", "catch", "r1", "kind"].map fun z : String => fz z) (by rfl)
    have a3 := allocL (S3 ++ [.lst (ys.map fz), .lst (["num", "gives", "ask", "at", "catch", "r1", "kind"].map fun z : String => fz z)]) (["Num", "A", "Cup", "A1"].map fun z : String => fz z) (by rfl)
    simp only [List.map_cons, List.map_nil] at a2 a3
    unfold smallS at g1
    have x3 : ∀ a b : Nat, L2.atI [D.ref a, .ref b] (if cap then 1 else 0) = some (.ref (if cap then b else a)) := fun a b => by cases cap <;> rfl
    have hS3 := dInv_len I3
    have I5 := dInv_app I3 [.lst (ys.map fz), .lst ([(Str.ofString "num"), "gives", "ask", "at", "catch", "r1", "kind"].map fz), .lst ([(Str.ofString "Num"), "A", "Cup", "A1"].map fz)]
    obtain ⟨r4, S4, h1, h2, h3, I6⟩ := draw_ok k I5 (many := 3) (by omega) (by omega) (by omega)
    simp only [List.map_cons, List.map_nil] at h1
    have hs : S4[if cap then S3.length + 2 else S3.length + 1]? = some (.lst ((someS cap).map fz)) := by
      rw [hS3]
      cases cap
      · exact (dInv_get I6 (R.length + 1)).trans (app_get R _ 1)
      · exact (dInv_get I6 (R.length + 2)).trans (app_get R _ 2)
    have hj4 : S4[j + 2]? = some (.lst (zs.map fz)) := by
      rw [dInv_get I6, List.getElem?_append_left (List.getElem?_eq_some_iff.mp hj).1, hj]
    simp -dsimp only [Ir.then_val, Ir.optA_some, Ir.boolA_t, Ir.boolA_f, Ir.seqA_next, Ir.seqA_ret, Ir.wp_val_, Ir.v_var, Ir.v_cst, Ir.v_bin, Ir.v_cmp, Ir.v_chain, Ir.v_and, Ir.v_or, Ir.v_not, Ir.v_ifx, Ir.v_neg, Ir.v_call, Ir.v_tup, Ir.v_lst, Ir.v_idx, Ir.v_idxL, Ir.v_slice, Ir.v_strOf, Ir.v_join, Ir.v_extend, Ir.v_append, Ir.v_len, Ir.v_isi, Ir.v_toInt, Ir.v_all, Ir.v_tupOf, Ir.v_dictOf, Ir.v_dlit, Ir.v_dget3, Ir.v_eqL, Ir.v_op1, Ir.v_op2, Ir.v_fstr, Ir.f_nil, Ir.f_cons, Ir.a_nil', Ir.a_cons', Ir.a_star', Ir.l_disp', Ir.l_of', Ir.l_cat', Ir.l_cut', Ir.b_no', Ir.b_at', Ir.i_tup', Ir.i_lst', Ir.i_str', Ir.i_rng', Ir.ss_nil', Ir.ss_asg, Ir.ss_expr, Ir.ss_ret, Ir.ss_unp, Ir.ss_ite, Ir.ss_setI, Ir.ss_for, Ir.finA_p, Ir.strD_str, Ir.ofD_tup, Ir.dicAt_eq, Ir.lstAt_eq, Ir.dget3_str, Ir.dixD_int, Ir.srcLst_eq, Ir.ofD_ref, Ir.tupD_ref, Ir.lenD_ref, Ir.lenD_tup, Ir.getI_ref, Ir.lsA_lst, Ir.ifA_t, Ir.appD_eq, Ir.extD_eq, Ir.catD_eq, Ir.rb_p, decide_true, decide_false, Bool.true_and, Bool.and_true, Ir.atA_no, Ir.atA_go, Ir.contA_next, Ir.contA_ret, Ir.size_fix, Ir.size_dyn, Ir.at_fix, Ir.at_dyn, Ir.turn_one, List.length_map, List.getElem?_nil, Ir.tgt, Ir.setAll, Bool.false_eq_true, List.set_nil, List.getElem?_cons_zero, List.getElem?_cons_succ, List.set_cons_zero, List.set_cons_succ, List.map_cons, List.map_nil, List.length_cons, List.length_nil, List.replicate_succ, List.replicate_zero, List.cons_append, List.nil_append, Option.map_some, Option.bind_some, Ir.app_get, Ir.app_get0, Ir.app_set, Ir.app_set0, Ir.app_take, Ir.app_one, Ir.len_app, Nat.reduceAdd, Nat.reduceSub, Nat.reduceLeDiff, if_true, if_false, x1, x2, asInt, o2, o4, o7, d1, hn, f1, q1, g1, a1, j1, b1, a2, a3, x3, h1, cop_eq_int]
    have fin : ∀ (t : Str), Nm t → ∀ S5, dInv (N + 19) (R ++ [.lst (ys.map fz), .lst ([(Str.ofString "num"), "gives", "ask", "at", "catch", "r1", "kind"].map fz), .lst ([(Str.ofString "Num"), "A", "Cup", "A1"].map fz)]) S5 → S5[j + 2]? = some (.lst (zs.map fz)) → ∀ a,
        wp (finA (R.length + 2) (exSs (calK fs (k + 1)) restW (slotsW cap (j + 2) n t a none) S5)) (fun d S' => ∃ z : Str, d = .p (.str z) ∧ Nm z ∧ dInv (N + 20) R S') (fun _ _ => False) := fun t ht S5 hS5 hj5 a => by
      obtain ⟨c, S6, e, z, e1, e2, e3⟩ := wp_ex (loopW (calK fs (k + 1)) cap (j + 2) n ht a hj5 hz hl)
      rw [e]
      obtain ⟨c, ρ⟩ := c
      have e1 : c = .ret (.p (.str z)) := e1
      subst e1
      subst e3
      exact ⟨z, rfl, e2, dInv_mono (dInv_take hS5) (by omega)⟩
    by_cases h0 : r4 = 0
    · have e0 : decide (r4 = 0) = true := decide_eq_true h0
      have hsl : (someS cap).length ≤ 7 ∧ 0 < (someS cap).length := by cases cap <;> exact ⟨by decide, by decide⟩
      obtain ⟨r5, S5, p1, p2, p3, I7⟩ := draw_ok k I6 (many := (someS cap).length) (by omega) (by omega) (by omega)
      obtain ⟨q5, v1, v2⟩ := pick ((someS cap).map fz) p2 (by rw [List.length_map]; exact p3)
      obtain ⟨z5, hz5, rfl⟩ := List.mem_map.mp v2
      have hs5 : S5[if cap then S3.length + 2 else S3.length + 1]? = some (.lst ((someS cap).map fz)) := by
        rw [hS3]
        cases cap
        · exact (dInv_get I7 (R.length + 1)).trans (app_get R _ 1)
        · exact (dInv_get I7 (R.length + 2)).trans (app_get R _ 2)
      have hj5 : S5[j + 2]? = some (.lst (zs.map fz)) := by
        rw [dInv_get I7, List.getElem?_append_left (List.getElem?_eq_some_iff.mp hj).1, hj]
      have F := fin z5 (some_nm cap z5 hz5) S5 (dInv_mono I7 (by omega)) hj5 (.ref (if cap then S3.length + 2 else S3.length + 1))
      unfold slotsW smallS at F
      simp -dsimp only [Ir.then_val, Ir.optA_some, Ir.boolA_t, Ir.boolA_f, Ir.seqA_next, Ir.seqA_ret, Ir.wp_val_, Ir.v_var, Ir.v_cst, Ir.v_bin, Ir.v_cmp, Ir.v_chain, Ir.v_and, Ir.v_or, Ir.v_not, Ir.v_ifx, Ir.v_neg, Ir.v_call, Ir.v_tup, Ir.v_lst, Ir.v_idx, Ir.v_idxL, Ir.v_slice, Ir.v_strOf, Ir.v_join, Ir.v_extend, Ir.v_append, Ir.v_len, Ir.v_isi, Ir.v_toInt, Ir.v_all, Ir.v_tupOf, Ir.v_dictOf, Ir.v_dlit, Ir.v_dget3, Ir.v_eqL, Ir.v_op1, Ir.v_op2, Ir.v_fstr, Ir.f_nil, Ir.f_cons, Ir.a_nil', Ir.a_cons', Ir.a_star', Ir.l_disp', Ir.l_of', Ir.l_cat', Ir.l_cut', Ir.b_no', Ir.b_at', Ir.i_tup', Ir.i_lst', Ir.i_str', Ir.i_rng', Ir.ss_nil', Ir.ss_asg, Ir.ss_expr, Ir.ss_ret, Ir.ss_unp, Ir.ss_ite, Ir.ss_setI, Ir.ss_for, Ir.finA_p, Ir.strD_str, Ir.ofD_tup, Ir.dicAt_eq, Ir.lstAt_eq, Ir.dget3_str, Ir.dixD_int, Ir.srcLst_eq, Ir.ofD_ref, Ir.tupD_ref, Ir.lenD_ref, Ir.lenD_tup, Ir.getI_ref, Ir.lsA_lst, Ir.ifA_t, Ir.appD_eq, Ir.extD_eq, Ir.catD_eq, Ir.rb_p, decide_true, decide_false, Bool.true_and, Bool.and_true, Ir.atA_no, Ir.atA_go, Ir.contA_next, Ir.contA_ret, Ir.size_fix, Ir.size_dyn, Ir.at_fix, Ir.at_dyn, Ir.turn_one, List.length_map, List.getElem?_nil, Ir.tgt, Ir.setAll, Bool.false_eq_true, List.set_nil, List.getElem?_cons_zero, List.getElem?_cons_succ, List.set_cons_zero, List.set_cons_succ, List.map_cons, List.map_nil, List.length_cons, List.length_nil, List.replicate_succ, List.replicate_zero, List.cons_append, List.nil_append, Option.map_some, Option.bind_some, Ir.app_get, Ir.app_get0, Ir.app_set, Ir.app_set0, Ir.app_take, Ir.app_one, Ir.len_app, Nat.reduceAdd, Nat.reduceSub, Nat.reduceLeDiff, if_true, if_false, e0, hs, p1, hs5, v1]
      exact F
    · have e0 : decide (r4 = 0) = false := decide_eq_false h0
      have F := fin t1 T1 S4 (dInv_mono I6 (by omega)) hj4 (.ref (if cap then S3.length + 2 else S3.length + 1))
      unfold slotsW smallS at F
      simp -dsimp only [Ir.then_val, Ir.optA_some, Ir.boolA_t, Ir.boolA_f, Ir.seqA_next, Ir.seqA_ret, Ir.wp_val_, Ir.v_var, Ir.v_cst, Ir.v_bin, Ir.v_cmp, Ir.v_chain, Ir.v_and, Ir.v_or, Ir.v_not, Ir.v_ifx, Ir.v_neg, Ir.v_call, Ir.v_tup, Ir.v_lst, Ir.v_idx, Ir.v_idxL, Ir.v_slice, Ir.v_strOf, Ir.v_join, Ir.v_extend, Ir.v_append, Ir.v_len, Ir.v_isi, Ir.v_toInt, Ir.v_all, Ir.v_tupOf, Ir.v_dictOf, Ir.v_dlit, Ir.v_dget3, Ir.v_eqL, Ir.v_op1, Ir.v_op2, Ir.v_fstr, Ir.f_nil, Ir.f_cons, Ir.a_nil', Ir.a_cons', Ir.a_star', Ir.l_disp', Ir.l_of', Ir.l_cat', Ir.l_cut', Ir.b_no', Ir.b_at', Ir.i_tup', Ir.i_lst', Ir.i_str', Ir.i_rng', Ir.ss_nil', Ir.ss_asg, Ir.ss_expr, Ir.ss_ret, Ir.ss_unp, Ir.ss_ite, Ir.ss_setI, Ir.ss_for, Ir.finA_p, Ir.strD_str, Ir.ofD_tup, Ir.dicAt_eq, Ir.lstAt_eq, Ir.dget3_str, Ir.dixD_int, Ir.srcLst_eq, Ir.ofD_ref, Ir.tupD_ref, Ir.lenD_ref, Ir.lenD_tup, Ir.getI_ref, Ir.lsA_lst, Ir.ifA_t, Ir.appD_eq, Ir.extD_eq, Ir.catD_eq, Ir.rb_p, decide_true, decide_false, Bool.true_and, Bool.and_true, Ir.atA_no, Ir.atA_go, Ir.contA_next, Ir.contA_ret, Ir.size_fix, Ir.size_dyn, Ir.at_fix, Ir.at_dyn, Ir.turn_one, List.length_map, List.getElem?_nil, Ir.tgt, Ir.setAll, Bool.false_eq_true, List.set_nil, List.getElem?_cons_zero, List.getElem?_cons_succ, List.set_cons_zero, List.set_cons_succ, List.map_cons, List.map_nil, List.length_cons, List.length_nil, List.replicate_succ, List.replicate_zero, List.cons_append, List.nil_append, Option.map_some, Option.bind_some, Ir.app_get, Ir.app_get0, Ir.app_set, Ir.app_set0, Ir.app_take, Ir.app_one, Ir.len_app, Nat.reduceAdd, Nat.reduceSub, Nat.reduceLeDiff, if_true, if_false, e0]
      exact F
  obtain ⟨d, S', e, z, rfl, h1, h2⟩ := wp_ex W
  exact ⟨z, S', e, h1, h2⟩
end Ir.K04
set_option Elab.async false
set_option linter.all false
set_option maxRecDepth 100000
set_option maxHeartbeats 4000001
namespace Ir.K04
open PySem
theorem c12 (k : Nat) : calK fs (k + 1) 12 = callF (calK fs k) ⟨1, 2, b12⟩ := rfl
theorem c13 (k : Nat) : calK fs (k + 1) 13 = callF (calK fs k) ⟨0, 1, b13⟩ := rfl
theorem sm_of {i : Int} (h1 : -10000000000000 ≤ i) (h2 : i ≤ 10000000000000) : Sm i := by
  refine ⟨?_, ?_⟩
  · have : i.natAbs.log2 < 44 := by
      by_cases h0 : i.natAbs = 0
      · rw [h0]; decide
      · refine (Nat.log2_lt h0).mpr ?_
        have : (2 : Nat) ^ 44 = 17592186044416 := by decide
        omega
    omega
  · unfold numS
    by_cases h0 : 0 ≤ i
    · have := PyProof.Rows.toString_length_le h0 (k := 14) (by decide) (by omega)
      omega
    · have e := PyProof.Rows.len_text_neg (n := i) (by omega)
      have := PyProof.Rows.toString_length_le (v := 0 - i) (by omega) (k := 14) (by decide) (by omega)
      omega
theorem fin_list {M : Int} {R T S6 : Sto} {zs : List D} {ρ : Sl} (h : dInv M (R ++ .lst zs :: T) S6) (hz : ∀ n, zs.all (rb n) = true) : ∃ S', finA (R.length + 2) (.val (.ret (.ref (R.length + 2)), ρ) S6) = .val (.ref (R.length + 2)) S' ∧ dInv M (R ++ [.lst zs]) S' := by
  obtain ⟨ms, b, c, e, rfl, h1⟩ := h
  refine ⟨dInts ms :: st4 b c e :: (R ++ [.lst zs]), ?_, ms, b, c, e, rfl, h1⟩
  have e1 : dInts ms :: st4 b c e :: (R ++ .lst zs :: T) = (dInts ms :: st4 b c e :: R) ++ .lst zs :: T := rfl
  rw [e1]
  show fix (R.length + 2) (.ref (R.length + 2)) _ = _
  rw [fix_new (n := R.length + 2) (by simp) (show rbO _ (.lst zs) = true from hz _)]
  rfl
theorem words_ok (k : Nat) (cap : Bool) (n : Nat) (hn : n ≤ 10) {R S : Sto} {N : Int} (hI : dInv N R S) (hN : N ≤ 2000000) :
    ∃ (zs : List Str) (S' : Sto), calK fs (k + 3) 10 [.ref 1, .p (.bool cap), .p (.int (n : Int))] S = .val (.ref (R.length + 2)) S' ∧ zs.length = n ∧ (∀ z ∈ zs, Nm z) ∧ dInv (N + 200) (R ++ [.lst (zs.map fz)]) S' := by
  have hlen := dInv_len hI
  have rn := srcRng_nat n (by omega)
  have a1 := allocL S [] rfl
  rw [hlen] at a1
  have o0 : (0 : Nat) ≤ 100000 := by omega
  have F := for_inv (ds := (List.range n).map fun (i : Nat) => D.p (.int (i : Int))) (body := turn (calK fs (k + 2)) [4] true (.cons (.expr (.append (.var 3) (.call 9 (.cons (.var 0) (.cons (.var 1) (.cons (.var 3) .nil)))))) .nil))
    (okS := fun c S' => ∃ zs x, c = (.next, [some (.ref 1), some (.p (.bool cap)), some (.p (.int (n : Int))), some (.ref (R.length + 2)), x]) ∧ zs.length = n ∧ (∀ z ∈ zs, Nm z) ∧ dInv (N + 200) (R ++ [.lst (zs.map fz)]) S') (ex := fun _ _ => False)
    (fun i ρ S' => ∃ zs x, ρ = [some (.ref 1), some (.p (.bool cap)), some (.p (.int (n : Int))), some (.ref (R.length + 2)), x] ∧ zs.length = i ∧ (∀ z ∈ zs, Nm z) ∧ dInv (N + 20 * i) (R ++ [.lst (zs.map fz)]) S')
    (fun ρ S' ⟨zs, x, h1, h2, h3, h4⟩ => ⟨zs, x, by rw [h1], by simpa using h2, h3, dInv_mono h4 (by simp; omega)⟩) (fun i d ρ S' hd ⟨zs, x, h1, h2, h3, h4⟩ => by
      subst h1
      have hi : i < n := by
        have := (List.getElem?_eq_some_iff.mp hd).1
        simpa using this
      obtain ⟨z, S2, w1, w2, w3⟩ := word_ok k cap h4 (by omega) (j := R.length) (zs := zs) (app_get0 ..) h3 (by omega)
      have g1 : S'[R.length + 2]? = some (.lst (zs.map fz)) := (dInv_get h4 R.length).trans (app_get0 ..)
      have g2 : S2[R.length + 2]? = some (.lst (zs.map fz)) := (dInv_get w3 R.length).trans (app_get0 ..)
      have hz2 : decide (zs.length < 100000) = true := decide_eq_true (by omega)
      have mz : zs.map fz ++ [D.p (.str z)] = (zs ++ [z]).map fz := by rw [List.map_append]; rfl
      have w4 := dInv_set w3 R.length (.lst ((zs ++ [z]).map fz))
      rw [app_set0] at w4
      rw [turn_one]
      simp -dsimp only [Ir.then_val, Ir.optA_some, Ir.boolA_t, Ir.boolA_f, Ir.seqA_next, Ir.seqA_ret, Ir.wp_val_, Ir.v_var, Ir.v_cst, Ir.v_bin, Ir.v_cmp, Ir.v_chain, Ir.v_and, Ir.v_or, Ir.v_not, Ir.v_ifx, Ir.v_neg, Ir.v_call, Ir.v_tup, Ir.v_lst, Ir.v_idx, Ir.v_idxL, Ir.v_slice, Ir.v_strOf, Ir.v_join, Ir.v_extend, Ir.v_append, Ir.v_len, Ir.v_isi, Ir.v_toInt, Ir.v_all, Ir.v_tupOf, Ir.v_dictOf, Ir.v_dlit, Ir.v_dget3, Ir.v_eqL, Ir.v_op1, Ir.v_op2, Ir.v_fstr, Ir.f_nil, Ir.f_cons, Ir.a_nil', Ir.a_cons', Ir.a_star', Ir.l_disp', Ir.l_of', Ir.l_cat', Ir.l_cut', Ir.b_no', Ir.b_at', Ir.i_tup', Ir.i_lst', Ir.i_str', Ir.i_rng', Ir.ss_nil', Ir.ss_asg, Ir.ss_expr, Ir.ss_ret, Ir.ss_unp, Ir.ss_ite, Ir.ss_setI, Ir.ss_for, Ir.finA_p, Ir.strD_str, Ir.ofD_tup, Ir.dicAt_eq, Ir.lstAt_eq, Ir.dget3_str, Ir.dixD_int, Ir.srcLst_eq, Ir.ofD_ref, Ir.tupD_ref, Ir.lenD_ref, Ir.lenD_tup, Ir.getI_ref, Ir.lsA_lst, Ir.ifA_t, Ir.appD_eq, Ir.extD_eq, Ir.catD_eq, Ir.rb_p, decide_true, decide_false, Bool.true_and, Bool.and_true, Ir.atA_no, Ir.atA_go, Ir.contA_next, Ir.contA_ret, Ir.size_fix, Ir.size_dyn, Ir.at_fix, Ir.at_dyn, Ir.turn_one, List.length_map, List.getElem?_nil, Ir.tgt, Ir.setAll, Bool.false_eq_true, List.set_nil, List.getElem?_cons_zero, List.getElem?_cons_succ, List.set_cons_zero, List.set_cons_succ, List.map_cons, List.map_nil, List.length_cons, List.length_nil, List.replicate_succ, List.replicate_zero, List.cons_append, List.nil_append, Option.map_some, Option.bind_some, Ir.app_get, Ir.app_get0, Ir.app_set, Ir.app_set0, Ir.app_take, Ir.app_one, Ir.len_app, Nat.reduceAdd, Nat.reduceSub, Nat.reduceLeDiff, if_true, if_false, g1, w1, g2, hz2, mz]
      refine ⟨zs ++ [z], some d, by first | rfl | exact True.intro, by simp [h2], fun q hq => ?_, dInv_mono w4 (by omega)⟩
      rcases List.mem_append.mp hq with hq | hq
      · exact h3 q hq
      · rw [List.mem_singleton] at hq; subst hq; exact w2) n 0 [some (.ref 1), some (.p (.bool cap)), some (.p (.int (n : Int))), some (.ref (R.length + 2)), none] (S ++ [.lst []]) (by simp)
    ⟨[], none, rfl, rfl, (fun z hz => nomatch hz), by simpa using dInv_app hI [.lst []]⟩
  obtain ⟨c, S6, e, zs, x, rfl, h2, h3, h4⟩ := wp_ex F
  obtain ⟨S7, f1, f2⟩ := fin_list (T := []) h4 (fun n => all_fz n zs) (ρ := [some (.ref 1), some (.p (.bool cap)), some (.p (.int (n : Int))), some (.ref (R.length + 2)), x])
  refine ⟨zs, S7, ?_, h2, h3, f2⟩
  rw [c10, callA S rfl, hlen]
  unfold b10
  simp -dsimp only [Ir.then_val, Ir.optA_some, Ir.boolA_t, Ir.boolA_f, Ir.seqA_next, Ir.seqA_ret, Ir.wp_val_, Ir.v_var, Ir.v_cst, Ir.v_bin, Ir.v_cmp, Ir.v_chain, Ir.v_and, Ir.v_or, Ir.v_not, Ir.v_ifx, Ir.v_neg, Ir.v_call, Ir.v_tup, Ir.v_lst, Ir.v_idx, Ir.v_idxL, Ir.v_slice, Ir.v_strOf, Ir.v_join, Ir.v_extend, Ir.v_append, Ir.v_len, Ir.v_isi, Ir.v_toInt, Ir.v_all, Ir.v_tupOf, Ir.v_dictOf, Ir.v_dlit, Ir.v_dget3, Ir.v_eqL, Ir.v_op1, Ir.v_op2, Ir.v_fstr, Ir.f_nil, Ir.f_cons, Ir.a_nil', Ir.a_cons', Ir.a_star', Ir.l_disp', Ir.l_of', Ir.l_cat', Ir.l_cut', Ir.b_no', Ir.b_at', Ir.i_tup', Ir.i_lst', Ir.i_str', Ir.i_rng', Ir.ss_nil', Ir.ss_asg, Ir.ss_expr, Ir.ss_ret, Ir.ss_unp, Ir.ss_ite, Ir.ss_setI, Ir.ss_for, Ir.finA_p, Ir.strD_str, Ir.ofD_tup, Ir.dicAt_eq, Ir.lstAt_eq, Ir.dget3_str, Ir.dixD_int, Ir.srcLst_eq, Ir.ofD_ref, Ir.tupD_ref, Ir.lenD_ref, Ir.lenD_tup, Ir.getI_ref, Ir.lsA_lst, Ir.ifA_t, Ir.appD_eq, Ir.extD_eq, Ir.catD_eq, Ir.rb_p, decide_true, decide_false, Bool.true_and, Bool.and_true, Ir.atA_no, Ir.atA_go, Ir.contA_next, Ir.contA_ret, Ir.size_fix, Ir.size_dyn, Ir.at_fix, Ir.at_dyn, Ir.turn_one, List.length_map, List.getElem?_nil, Ir.tgt, Ir.setAll, Bool.false_eq_true, List.set_nil, List.getElem?_cons_zero, List.getElem?_cons_succ, List.set_cons_zero, List.set_cons_succ, List.map_cons, List.map_nil, List.length_cons, List.length_nil, List.replicate_succ, List.replicate_zero, List.cons_append, List.nil_append, Option.map_some, Option.bind_some, Ir.app_get, Ir.app_get0, Ir.app_set, Ir.app_set0, Ir.app_take, Ir.app_one, Ir.len_app, Nat.reduceAdd, Nat.reduceSub, Nat.reduceLeDiff, if_true, if_false, o0, a1, rn, List.length_range, e]
  exact f1
theorem number_ok (k : Nat) {R S : Sto} {N : Int} (hI : dInv N R S) (hN : N ≤ 4000000) : ∃ (i : Int) (S' : Sto), calK fs (k + 2) 12 [.ref 1] S = .val (.p (.int i)) S' ∧ Sm i ∧ dInv (N + 3) R S' := by
  have hlen := dInv_len hI
  have p6 : bop .pow (.p (.int 10)) (.p (.int 6)) = some (.p (.int 1000000)) := by kernel_rfl
  have p12 : bop .pow (.p (.int 10)) (.p (.int 12)) = some (.p (.int 1000000000000)) := by kernel_rfl
  obtain ⟨r1, S1, d1, d2, d3, I1⟩ := draw_ok k hI (many := 1000000) (by omega) (by omega) (by omega)
  obtain ⟨r2, S2, e1, e2, e3, I2⟩ := draw_ok k I1 (many := 1000000) (by omega) (by omega) (by omega)
  obtain ⟨r3, S3, f1, f2, f3, I3⟩ := draw_ok k I2 (many := 7) (by omega) (by omega) (by omega)
  have m1 : bop .mul (.p (.int 1000000)) (.p (.int r1)) = some (.p (.int (1000000 * r1))) := bop_mulL (by decide)
  have o7 : (7 : Nat) ≤ 100000 := by omega
  obtain ⟨qd, q3, qm⟩ := pick ([-(1000000000000 : Int), 1000000000000 - 1, -1, 0, 7, 1000000 * r1 + r2, 0 - (1000000 * r1 + r2)].map fi) f2 f3
  obtain ⟨q, q2, rfl⟩ := List.mem_map.mp qm
  simp only [List.map_cons, List.map_nil] at q3
  refine ⟨q, S3, ?_, ?_, dInv_mono I3 (by omega)⟩
  · rw [c12, callA S rfl, hlen]
    unfold b12
    simp -dsimp only [Ir.then_val, Ir.optA_some, Ir.boolA_t, Ir.boolA_f, Ir.seqA_next, Ir.seqA_ret, Ir.wp_val_, Ir.v_var, Ir.v_cst, Ir.v_bin, Ir.v_cmp, Ir.v_chain, Ir.v_and, Ir.v_or, Ir.v_not, Ir.v_ifx, Ir.v_neg, Ir.v_call, Ir.v_tup, Ir.v_lst, Ir.v_idx, Ir.v_idxL, Ir.v_slice, Ir.v_strOf, Ir.v_join, Ir.v_extend, Ir.v_append, Ir.v_len, Ir.v_isi, Ir.v_toInt, Ir.v_all, Ir.v_tupOf, Ir.v_dictOf, Ir.v_dlit, Ir.v_dget3, Ir.v_eqL, Ir.v_op1, Ir.v_op2, Ir.v_fstr, Ir.f_nil, Ir.f_cons, Ir.a_nil', Ir.a_cons', Ir.a_star', Ir.l_disp', Ir.l_of', Ir.l_cat', Ir.l_cut', Ir.b_no', Ir.b_at', Ir.i_tup', Ir.i_lst', Ir.i_str', Ir.i_rng', Ir.ss_nil', Ir.ss_asg, Ir.ss_expr, Ir.ss_ret, Ir.ss_unp, Ir.ss_ite, Ir.ss_setI, Ir.ss_for, Ir.finA_p, Ir.strD_str, Ir.ofD_tup, Ir.dicAt_eq, Ir.lstAt_eq, Ir.dget3_str, Ir.dixD_int, Ir.srcLst_eq, Ir.ofD_ref, Ir.tupD_ref, Ir.lenD_ref, Ir.lenD_tup, Ir.getI_ref, Ir.lsA_lst, Ir.ifA_t, Ir.appD_eq, Ir.extD_eq, Ir.catD_eq, Ir.rb_p, decide_true, decide_false, Bool.true_and, Bool.and_true, Ir.atA_no, Ir.atA_go, Ir.contA_next, Ir.contA_ret, Ir.size_fix, Ir.size_dyn, Ir.at_fix, Ir.at_dyn, Ir.turn_one, List.length_map, List.getElem?_nil, Ir.tgt, Ir.setAll, Bool.false_eq_true, List.set_nil, List.getElem?_cons_zero, List.getElem?_cons_succ, List.set_cons_zero, List.set_cons_succ, List.map_cons, List.map_nil, List.length_cons, List.length_nil, List.replicate_succ, List.replicate_zero, List.cons_append, List.nil_append, Option.map_some, Option.bind_some, Ir.app_get, Ir.app_get0, Ir.app_set, Ir.app_set0, Ir.app_take, Ir.app_one, Ir.len_app, Nat.reduceAdd, Nat.reduceSub, Nat.reduceLeDiff, if_true, if_false, p6, p12, d1, m1, e1, bop_add, bop_sub, asInt, o7, f1, q3, dInv_take' I3]
  · simp only [List.mem_cons, List.not_mem_nil, or_false] at q2
    have : -10000000000000 ≤ q ∧ q ≤ 10000000000000 := by
      rcases q2 with rfl | rfl | rfl | rfl | rfl | rfl | rfl <;> omega
    exact sm_of this.1 this.2
end Ir.K04
set_option Elab.async false
set_option linter.all false
set_option maxRecDepth 100000
set_option maxHeartbeats 4000001
namespace Ir.K04
open PySem
theorem c14 (k : Nat) : calK fs (k + 1) 14 = callF (calK fs k) ⟨3, 8, b14⟩ := rfl
def wordsR : List Str := ["ask", "say", "drop", "twin", "turn", "plus", "minus", "times", "part", "same", "give", "throw", "num", "get", "put", "fits", "new", "read", "write", "call", "hail", "jump", "nought"]
theorem rowwords_ok (k : Nat) (S : Sto) : calK fs (k + 1) 13 [] S = .val (.ref S.length) (S ++ [.lst (wordsR.map fz)]) := by
  rw [c13, callA S rfl]
  unfold b13
  have o1 : (12 : Nat) ≤ 100000 := by omega
  have o2 : (11 : Nat) ≤ 100000 := by omega
  have a1 := allocL S ((wordsR.take 12).map fz) (all_fz _ _)
  have a2 := allocL (S ++ [.lst ((wordsR.take 12).map fz)]) ((wordsR.drop 12).map fz) (all_fz _ _)
  have a3 := allocL (S ++ [.lst ((wordsR.take 12).map fz), .lst ((wordsR.drop 12).map fz)]) (wordsR.map fz) (all_fz _ _)
  simp only [wordsR, List.take_succ_cons, List.take_zero, List.drop_succ_cons, List.drop_zero, List.map_cons, List.map_nil] at a1 a2 a3
  simp -dsimp only [Ir.then_val, Ir.optA_some, Ir.boolA_t, Ir.boolA_f, Ir.seqA_next, Ir.seqA_ret, Ir.wp_val_, Ir.v_var, Ir.v_cst, Ir.v_bin, Ir.v_cmp, Ir.v_chain, Ir.v_and, Ir.v_or, Ir.v_not, Ir.v_ifx, Ir.v_neg, Ir.v_call, Ir.v_tup, Ir.v_lst, Ir.v_idx, Ir.v_idxL, Ir.v_slice, Ir.v_strOf, Ir.v_join, Ir.v_extend, Ir.v_append, Ir.v_len, Ir.v_isi, Ir.v_toInt, Ir.v_all, Ir.v_tupOf, Ir.v_dictOf, Ir.v_dlit, Ir.v_dget3, Ir.v_eqL, Ir.v_op1, Ir.v_op2, Ir.v_fstr, Ir.f_nil, Ir.f_cons, Ir.a_nil', Ir.a_cons', Ir.a_star', Ir.l_disp', Ir.l_of', Ir.l_cat', Ir.l_cut', Ir.b_no', Ir.b_at', Ir.i_tup', Ir.i_lst', Ir.i_str', Ir.i_rng', Ir.ss_nil', Ir.ss_asg, Ir.ss_expr, Ir.ss_ret, Ir.ss_unp, Ir.ss_ite, Ir.ss_setI, Ir.ss_for, Ir.finA_p, Ir.strD_str, Ir.ofD_tup, Ir.dicAt_eq, Ir.lstAt_eq, Ir.dget3_str, Ir.dixD_int, Ir.srcLst_eq, Ir.ofD_ref, Ir.tupD_ref, Ir.lenD_ref, Ir.lenD_tup, Ir.getI_ref, Ir.lsA_lst, Ir.ifA_t, Ir.appD_eq, Ir.extD_eq, Ir.catD_eq, Ir.rb_p, decide_true, decide_false, Bool.true_and, Bool.and_true, Ir.atA_no, Ir.atA_go, Ir.contA_next, Ir.contA_ret, Ir.size_fix, Ir.size_dyn, Ir.at_fix, Ir.at_dyn, Ir.turn_one, List.length_map, List.getElem?_nil, Ir.tgt, Ir.setAll, Bool.false_eq_true, List.set_nil, List.getElem?_cons_zero, List.getElem?_cons_succ, List.set_cons_zero, List.set_cons_succ, List.map_cons, List.map_nil, List.length_cons, List.length_nil, List.replicate_succ, List.replicate_zero, List.cons_append, List.nil_append, Option.map_some, Option.bind_some, Ir.app_get, Ir.app_get0, Ir.app_set, Ir.app_set0, Ir.app_take, Ir.app_one, Ir.len_app, Nat.reduceAdd, Nat.reduceSub, Nat.reduceLeDiff, if_true, if_false, o1, o2, a1, a2, a3]
  exact finA_ref0 (zs := wordsR) (j := 2) rfl rfl
def wxy (a b c d : D) : List (Sum Int Str × D) := [(.inr "u", a), (.inr "w", b), (.inr "r", c), (.inr "b", d)]
theorem dlit_ok (a b c d : D) : dlitD ["u", "w", "r", "b"] [a, b, c, d] = some (wxy a b c d) := by kernel_rfl
theorem v_u (a b c d : D) : valD (wxy a b c d) (.inr "u") = some a := by kernel_rfl
theorem v_w (a b c d : D) : valD (wxy a b c d) (.inr "w") = some b := by kernel_rfl
theorem v_r (a b c d : D) : valD (wxy a b c d) (.inr "r") = some c := by kernel_rfl
theorem v_b (a b c d : D) : valD (wxy a b c d) (.inr "b") = some d := by kernel_rfl
theorem v_n (a b c d : D) : valD (wxy a b c d) (.inr "n") = none := by kernel_rfl
def eights : List Int := [0, 1, 2, 3, 4, 5, 6, 7]
def bodyR : Ss := (.cons (.asg 6 (.dget3 (.dlit ["u", "w", "r", "b"] (.cons (.idx (.var 2) (.cst (.p (.int 0)))) (.cons (.idx (.var 2) (.cst (.p (.int 1)))) (.cons (.var 1) (.cons (.lst (.disp (.cons (.cst (.p (.int 0))) (.cons (.cst (.p (.int 1))) (.cons (.cst (.p (.int 2))) (.cons (.cst (.p (.int 3))) (.cons (.cst (.p (.int 4))) (.cons (.cst (.p (.int 5))) (.cons (.cst (.p (.int 6))) (.cons (.cst (.p (.int 7))) .nil)))))))))) .nil))))) (.var 5) (.lst (.disp (.cons (.cst (.p (.int 0))) .nil)))))
    (.cons (.asg 7 (.idx (.var 6) (.call 8 (.cons (.var 0) (.cons (.len (.var 6)) .nil)))))
    (.cons (.expr (.append (.var 4) (.ifx (.cmp .eq (.var 5) (.cst (.p (.str "n")))) (.call 12 (.cons (.var 0) .nil)) (.var 7))))
    .nil)))
/-- what the generator's row is drawn from -/
structure Pool (R : Sto) (jk ju jw je : Nat) (us ws : List Str) (ns : List Int) : Prop where
  k : R[jk]? = some (.lst [.ref (ju + 2), .ref (jw + 2)])
  u : R[ju]? = some (.lst (us.map fz))
  w : R[jw]? = some (.lst (ws.map fz))
  e : R[je]? = some (.lst (ns.map fi))
  hus : ∀ z ∈ us, Nm z
  hws : ∀ z ∈ ws, Nm z
  hns : ∀ n ∈ ns, Sm n
  ul : 0 < us.length ∧ us.length ≤ 20
  wl : 0 < ws.length ∧ ws.length ≤ 20
  nl : ns.length ≤ 100
theorem Pool.app {R : Sto} {jk ju jw je : Nat} {us ws : List Str} {ns : List Int} (h : Pool R jk ju jw je us ws ns) (T : Sto) : Pool (R ++ T) jk ju jw je us ws ns := by
  have f : ∀ {j : Nat} {o : MO}, R[j]? = some o → (R ++ T)[j]? = some o := fun q => by rw [List.getElem?_append_left (List.getElem?_eq_some_iff.mp q).1, q]
  exact { h with k := f h.k, u := f h.u, w := f h.w, e := f h.e }
theorem eqD_n (S : Sto) (x y : Str) : cop S .eq (.p (.str x)) (.p (.str y)) = some (decide (x = y)) := by rw [cop_eq, eqD_str]
/-- one letter of a row's sort -/
theorem pool_turn (k : Nat) {R T S : Sto} {N : Int} {acc : List D} (hI : dInv N (R ++ .lst acc :: T) S) (hN : N ≤ 3000000) {jk ju jw je : Nat} {us ws : List Str} {ns : List Int} (P : Pool R jk ju jw je us ws ns)
    (L : Str) (hL : L = "n" ∨ L = "b" ∨ L = "u" ∨ L = "w" ∨ (L = "r" ∧ ns ≠ [])) (ha : acc.length ≤ 5) (w b5 b6 b7 : Option D) :
    ∃ x S' T' y5 y6 y7, turn (calK fs (k + 2)) [5] true bodyR (.p (.str L)) [some (.ref 1), some (.ref (je + 2)), some (.ref (jk + 2)), w, some (.ref (R.length + 2)), b5, b6, b7] S = .val (.next, [some (.ref 1), some (.ref (je + 2)), some (.ref (jk + 2)), w, some (.ref (R.length + 2)), y5, y6, y7]) S' ∧
      PartOk x ∧ (L = "r" → ∃ i, x = .int i ∧ Sm i) ∧ dInv (N + 4) (R ++ .lst (acc ++ [.p x]) :: T') S' := by
  have hl := dInv_len hI
  have f : ∀ {j : Nat} {o : MO}, R[j]? = some o → S[j + 2]? = some o := fun q => by rw [dInv_get hI, List.getElem?_append_left (List.getElem?_eq_some_iff.mp q).1, q]
  have hs : ∀ {j : Nat} {o : MO}, S[j]? = some o → j < S.length := fun q => (List.getElem?_eq_some_iff.mp q).1
  have g1 := f P.k
  have gu := f P.u
  have gw := f P.w
  have ge := f P.e
  have o8 : (8 : Nat) ≤ 100000 := by omega
  have o1 : (1 : Nat) ≤ 100000 := by omega
  have a1 := allocL S (eights.map fi) rfl
  have a2 := allocD (S ++ [.lst (eights.map fi)]) (wxy (.ref (ju + 2)) (.ref (jw + 2)) (.ref (je + 2)) (.ref S.length)) (by
    have h1 := hs gu
    have h2 := hs gw
    have h3 := hs ge
    simp only [wxy, List.all_cons, List.all_nil, rb, Bool.and_true, Bool.and_eq_true, decide_eq_true_eq, List.length_append, List.length_cons, List.length_nil]
    omega)
  have a3 := allocL (S ++ [.lst (eights.map fi), .dic (wxy (.ref (ju + 2)) (.ref (jw + 2)) (.ref (je + 2)) (.ref S.length))]) [.p (.int 0)] rfl
  have I1 := dInv_app hI [.lst (eights.map fi), .dic (wxy (.ref (ju + 2)) (.ref (jw + 2)) (.ref (je + 2)) (.ref S.length)), .lst [.p (.int 0)]]
  have at0 : ∀ a b : D, L2.atI [a, b] 0 = some a := fun _ _ => rfl
  have at1 : ∀ a b : D, L2.atI [a, b] 1 = some b := fun _ _ => rfl
  generalize hS3 : S ++ [.lst (eights.map fi), .dic (wxy (.ref (ju + 2)) (.ref (jw + 2)) (.ref (je + 2)) (.ref S.length)), .lst [.p (.int 0)]] = S3 at I1
  have m3 : ∀ {j : Nat} {o : MO}, S[j]? = some o → S3[j]? = some o := fun q => by rw [← hS3, List.getElem?_append_left (hs q), q]
  have a3' : alloc (.lst [.p (.int 0)]) (S ++ [.lst (eights.map fi), .dic (wxy (.ref (ju + 2)) (.ref (jw + 2)) (.ref (je + 2)) (.ref S.length))]) = .val (.ref (S.length + 2)) S3 := by
    rw [a3, ← hS3, List.length_append, List.append_assoc]; rfl
  have e1 : S3[S.length + 1]? = some (.dic (wxy (.ref (ju + 2)) (.ref (jw + 2)) (.ref (je + 2)) (.ref S.length))) := by rw [← hS3]; exact app_get _ _ 1
  have e0 : S3[S.length]? = some (.lst (eights.map fi)) := by rw [← hS3]; exact app_get _ _ 0
  have e2 : S3[S.length + 2]? = some (.lst ([0].map fi)) := by rw [← hS3]; exact app_get _ _ 2
  -- the pool of the letter
  obtain ⟨q, es, hq, hes, h0, h100, hP⟩ : ∃ (q : Nat) (es : List PyData), (valD (wxy (.ref (ju + 2)) (.ref (jw + 2)) (.ref (je + 2)) (.ref S.length)) (.inr L)).getD (.ref (S.length + 2)) = .ref q ∧ S3[q]? = some (.lst (es.map D.p)) ∧ 0 < es.length ∧ es.length ≤ 100 ∧ ∀ x ∈ es, PartOk x ∧ (L = "r" → ∃ i, x = .int i ∧ Sm i) := by
    have nums : ∀ ms : List Int, (∀ m ∈ ms, Sm m) → ∀ x ∈ ms.map PyData.int, PartOk x ∧ (L = "r" → ∃ i, x = .int i ∧ Sm i) := fun ms hm x hx => by
      obtain ⟨i, hi, rfl⟩ := List.mem_map.mp hx
      exact ⟨.int i (hm i hi), fun _ => ⟨i, rfl, hm i hi⟩⟩
    have texts : L ≠ "r" → ∀ zs : List Str, (∀ z ∈ zs, Nm z) → ∀ x ∈ zs.map PyData.str, PartOk x ∧ (L = "r" → ∃ i, x = .int i ∧ Sm i) := fun hr zs hz x hx => by
      obtain ⟨z, hz', rfl⟩ := List.mem_map.mp hx
      exact ⟨.str z (by have := (hz z hz').len; omega), fun q => (hr q).elim⟩
    have smz : Sm 0 := sm_nat 0 (by omega)
    rcases hL with rfl | rfl | rfl | rfl | ⟨rfl, hne⟩
    · exact ⟨S.length + 2, [0].map .int, by rw [v_n]; rfl, e2, by decide, by decide, nums _ fun m hm => by rw [List.mem_singleton] at hm; subst hm; exact smz⟩
    · refine ⟨S.length, eights.map .int, by rw [v_b]; rfl, e0, by decide, by decide, nums _ fun m hm => ?_⟩
      have : ∀ m ∈ eights, 0 ≤ m ∧ m ≤ 7 := by decide
      have := this m hm
      exact sm_of (by omega) (by omega)
    · exact ⟨ju + 2, us.map .str, by rw [v_u]; rfl, by rw [m3 gu, List.map_map]; rfl, by rw [List.length_map]; exact P.ul.1, by have := P.ul.2; rw [List.length_map]; omega, texts (by decide +kernel) us P.hus⟩
    · exact ⟨jw + 2, ws.map .str, by rw [v_w]; rfl, by rw [m3 gw, List.map_map]; rfl, by rw [List.length_map]; exact P.wl.1, by have := P.wl.2; rw [List.length_map]; omega, texts (by decide +kernel) ws P.hws⟩
    · exact ⟨je + 2, ns.map .int, by rw [v_r]; rfl, by rw [m3 ge, List.map_map]; rfl, by rw [List.length_map]; exact List.length_pos_iff.mpr hne, by have := P.nl; rw [List.length_map]; omega, nums ns P.hns⟩
  obtain ⟨r, S4, d1, d2, d3, I4⟩ := draw_ok (k + 1) I1 (many := (es.length : Int)) (by omega) (by omega) (by omega)
  obtain ⟨xd, x1, xm⟩ := pick (es.map D.p) d2 (by rw [List.length_map]; exact d3)
  obtain ⟨x, hx, rfl⟩ := List.mem_map.mp xm
  have q2 : 2 ≤ q := by
    rcases hL with rfl | rfl | rfl | rfl | ⟨rfl, hne⟩
    · rw [v_n] at hq; have := D.ref.inj hq; omega
    · rw [v_b] at hq; have := D.ref.inj hq; omega
    · rw [v_u] at hq; have := D.ref.inj hq; omega
    · rw [v_w] at hq; have := D.ref.inj hq; omega
    · rw [v_r] at hq; have := D.ref.inj hq; omega
  obtain ⟨q', rfl⟩ : ∃ q', q = q' + 2 := ⟨q - 2, by omega⟩
  have hes4 : S4[q' + 2]? = some (.lst (es.map D.p)) := by rw [dInv_get I4, ← dInv_get I1, hes]
  have hacc : ∀ {X S5 : Sto} {M : Int}, dInv M ((R ++ .lst acc :: T) ++ X) S5 → S5[R.length + 2]? = some (.lst acc) := fun {X S5 M} q => by
    rw [dInv_get q, List.append_assoc]; exact app_get0 ..
  have hz : decide (acc.length < 100000) = true := decide_eq_true (by omega)
  have fin : ∀ {X S5 : Sto} {M : Int} (d : D), dInv M ((R ++ .lst acc :: T) ++ X) S5 → dInv M (R ++ .lst (acc ++ [d]) :: (T ++ X)) (S5.set (R.length + 2) (.lst (acc ++ [d]))) := fun {X S5 M} d q => by
    have := dInv_set q R.length (.lst (acc ++ [d]))
    rw [List.append_assoc, app_set0] at this
    exact this
  by_cases hn : L = "n"
  · subst hn
    obtain ⟨i, S5, n1, n2, I5⟩ := number_ok k I4 (by omega)
    have hn : decide (("n" : Str) = "n") = true := decide_eq_true rfl
    refine ⟨.int i, _, _, some (.p (.str "n")), some (.ref (q' + 2)), some (.p x), ?_, .int i n2, fun h => ((by decide +kernel : ("n" : Str) ≠ "r") h).elim, dInv_mono (fin (.p (.int i)) I5) (by omega)⟩
    unfold bodyR
    simp only [eights, List.map_cons, List.map_nil] at a1 a2 a3' 
    simp -dsimp only [Ir.then_val, Ir.optA_some, Ir.boolA_t, Ir.boolA_f, Ir.seqA_next, Ir.seqA_ret, Ir.wp_val_, Ir.v_var, Ir.v_cst, Ir.v_bin, Ir.v_cmp, Ir.v_chain, Ir.v_and, Ir.v_or, Ir.v_not, Ir.v_ifx, Ir.v_neg, Ir.v_call, Ir.v_tup, Ir.v_lst, Ir.v_idx, Ir.v_idxL, Ir.v_slice, Ir.v_strOf, Ir.v_join, Ir.v_extend, Ir.v_append, Ir.v_len, Ir.v_isi, Ir.v_toInt, Ir.v_all, Ir.v_tupOf, Ir.v_dictOf, Ir.v_dlit, Ir.v_dget3, Ir.v_eqL, Ir.v_op1, Ir.v_op2, Ir.v_fstr, Ir.f_nil, Ir.f_cons, Ir.a_nil', Ir.a_cons', Ir.a_star', Ir.l_disp', Ir.l_of', Ir.l_cat', Ir.l_cut', Ir.b_no', Ir.b_at', Ir.i_tup', Ir.i_lst', Ir.i_str', Ir.i_rng', Ir.ss_nil', Ir.ss_asg, Ir.ss_expr, Ir.ss_ret, Ir.ss_unp, Ir.ss_ite, Ir.ss_setI, Ir.ss_for, Ir.finA_p, Ir.strD_str, Ir.ofD_tup, Ir.dicAt_eq, Ir.lstAt_eq, Ir.dget3_str, Ir.dixD_int, Ir.srcLst_eq, Ir.ofD_ref, Ir.tupD_ref, Ir.lenD_ref, Ir.lenD_tup, Ir.getI_ref, Ir.lsA_lst, Ir.ifA_t, Ir.appD_eq, Ir.extD_eq, Ir.catD_eq, Ir.rb_p, decide_true, decide_false, Bool.true_and, Bool.and_true, Ir.atA_no, Ir.atA_go, Ir.contA_next, Ir.contA_ret, Ir.size_fix, Ir.size_dyn, Ir.at_fix, Ir.at_dyn, Ir.turn_one, List.length_map, List.getElem?_nil, Ir.tgt, Ir.setAll, Bool.false_eq_true, List.set_nil, List.getElem?_cons_zero, List.getElem?_cons_succ, List.set_cons_zero, List.set_cons_succ, List.map_cons, List.map_nil, List.length_cons, List.length_nil, List.replicate_succ, List.replicate_zero, List.cons_append, List.nil_append, Option.map_some, Option.bind_some, Ir.app_get, Ir.app_get0, Ir.app_set, Ir.app_set0, Ir.app_take, Ir.app_one, Ir.len_app, Nat.reduceAdd, Nat.reduceSub, Nat.reduceLeDiff, if_true, if_false, o8, o1, g1, at0, at1, a1, dlit_ok, a2, a3', e1, hq, hes, d1, hes4, x1, eqD_n, hn, n1, hacc I4, hacc I5, hz]
  · have hn : decide (L = "n") = false := decide_eq_false hn
    refine ⟨x, _, _, some (.p (.str L)), some (.ref (q' + 2)), some (.p x), ?_, (hP x hx).1, (hP x hx).2, dInv_mono (fin (.p x) I4) (by omega)⟩
    unfold bodyR
    simp only [eights, List.map_cons, List.map_nil] at a1 a2 a3' 
    simp -dsimp only [Ir.then_val, Ir.optA_some, Ir.boolA_t, Ir.boolA_f, Ir.seqA_next, Ir.seqA_ret, Ir.wp_val_, Ir.v_var, Ir.v_cst, Ir.v_bin, Ir.v_cmp, Ir.v_chain, Ir.v_and, Ir.v_or, Ir.v_not, Ir.v_ifx, Ir.v_neg, Ir.v_call, Ir.v_tup, Ir.v_lst, Ir.v_idx, Ir.v_idxL, Ir.v_slice, Ir.v_strOf, Ir.v_join, Ir.v_extend, Ir.v_append, Ir.v_len, Ir.v_isi, Ir.v_toInt, Ir.v_all, Ir.v_tupOf, Ir.v_dictOf, Ir.v_dlit, Ir.v_dget3, Ir.v_eqL, Ir.v_op1, Ir.v_op2, Ir.v_fstr, Ir.f_nil, Ir.f_cons, Ir.a_nil', Ir.a_cons', Ir.a_star', Ir.l_disp', Ir.l_of', Ir.l_cat', Ir.l_cut', Ir.b_no', Ir.b_at', Ir.i_tup', Ir.i_lst', Ir.i_str', Ir.i_rng', Ir.ss_nil', Ir.ss_asg, Ir.ss_expr, Ir.ss_ret, Ir.ss_unp, Ir.ss_ite, Ir.ss_setI, Ir.ss_for, Ir.finA_p, Ir.strD_str, Ir.ofD_tup, Ir.dicAt_eq, Ir.lstAt_eq, Ir.dget3_str, Ir.dixD_int, Ir.srcLst_eq, Ir.ofD_ref, Ir.tupD_ref, Ir.lenD_ref, Ir.lenD_tup, Ir.getI_ref, Ir.lsA_lst, Ir.ifA_t, Ir.appD_eq, Ir.extD_eq, Ir.catD_eq, Ir.rb_p, decide_true, decide_false, Bool.true_and, Bool.and_true, Ir.atA_no, Ir.atA_go, Ir.contA_next, Ir.contA_ret, Ir.size_fix, Ir.size_dyn, Ir.at_fix, Ir.at_dyn, Ir.turn_one, List.length_map, List.getElem?_nil, Ir.tgt, Ir.setAll, Bool.false_eq_true, List.set_nil, List.getElem?_cons_zero, List.getElem?_cons_succ, List.set_cons_zero, List.set_cons_succ, List.map_cons, List.map_nil, List.length_cons, List.length_nil, List.replicate_succ, List.replicate_zero, List.cons_append, List.nil_append, Option.map_some, Option.bind_some, Ir.app_get, Ir.app_get0, Ir.app_set, Ir.app_set0, Ir.app_take, Ir.app_one, Ir.len_app, Nat.reduceAdd, Nat.reduceSub, Nat.reduceLeDiff, if_true, if_false, o8, o1, g1, at0, at1, a1, dlit_ok, a2, a3', e1, hq, hes, d1, hes4, x1, eqD_n, hn, hacc I4, hz]
end Ir.K04
set_option Elab.async false
set_option linter.all false
set_option maxRecDepth 100000
set_option maxHeartbeats 4000001
namespace Ir.K04
open PySem
theorem valD_mem {kvs : List (Sum Int Str × D)} {k : Sum Int Str} {d : D} (h : valD kvs k = some d) : d ∈ kvs.map (·.2) := by
  unfold valD at h
  obtain ⟨a, h1, h2⟩ := Option.map_eq_some_iff.mp h
  exact h2 ▸ List.mem_map_of_mem (List.mem_of_find?_eq_some h1)
theorem sorts_in (w : Str) : ∃ z : Str, sortsF w = .p (.str z) ∧ (z = "" ∨ z = "n" ∨ z = "b" ∨ z = "u" ∨ z = "r" ∨ z = "uw") ∧ (z = "r" ↔ (w = "jump" ∨ w = "nought")) := by
  have h : ∃ z : Str, sortsF w = .p (.str z) ∧ (z = "" ∨ z = "n" ∨ z = "b" ∨ z = "u" ∨ z = "r" ∨ z = "uw") := by
    unfold sortsF
    cases q : valD sortsKv (.inr w) with
    | none => exact ⟨"", rfl, .inl rfl⟩
    | some d =>
      have := valD_mem q
      simp only [sortsKv, List.map_cons, List.map_nil, List.mem_cons, List.not_mem_nil, or_false] at this
      rcases this with rfl | rfl | rfl | rfl | rfl | rfl | rfl | rfl | rfl | rfl | rfl
      · exact ⟨"n", rfl, .inr (.inl rfl)⟩
      · exact ⟨"b", rfl, .inr (.inr (.inl rfl))⟩
      · exact ⟨"b", rfl, .inr (.inr (.inl rfl))⟩
      · exact ⟨"u", rfl, .inr (.inr (.inr (.inl rfl)))⟩
      · exact ⟨"u", rfl, .inr (.inr (.inr (.inl rfl)))⟩
      · exact ⟨"r", rfl, .inr (.inr (.inr (.inr (.inl rfl))))⟩
      · exact ⟨"r", rfl, .inr (.inr (.inr (.inr (.inl rfl))))⟩
      all_goals exact ⟨"uw", rfl, .inr (.inr (.inr (.inr (.inr rfl))))⟩
  obtain ⟨z, h1, h2⟩ := h
  refine ⟨z, h1, h2, ?_⟩
  have := sorts_r w
  rw [h1, eqD_n] at this
  have := Option.some.inj this
  constructor
  · intro hz
    rw [decide_eq_true hz] at this
    simpa using this.symm
  · intro hw
    have e : (decide (w = "jump") || decide (w = "nought")) = true := by simpa using hw
    rw [e] at this
    exact of_decide_eq_true this
def restC : Ss := (.cons (.asg 4 (.lst (.disp .nil)))
    (.cons (.for_ (.str (.call 11 (.cons (.var 3) .nil))) [5] true bodyR)
    (.cons (.ret (.bin .add (.tup (.cons (.var 3) .nil)) (.tupOf (.var 4))))
    .nil)))
def restBR : Ss := (.cons (.ite (.and (.eqL false (.var 1) (.disp .nil)) (.cmp .eq (.call 11 (.cons (.var 3) .nil)) (.cst (.p (.str "r"))))) (.cons (.asg 3 (.cst (.p (.str "drop"))))
    .nil) .nil) restC)
theorem bop_tup (x y : List PyData) (h : x.length + y.length ≤ 16777216) : bop .add (.p (.tuple x)) (.p (.tuple y)) = some (.p (.tuple (x ++ y))) := by
  show (if x.length + y.length ≤ sizeLine then some (D.p (.tuple (x ++ y))) else none) = _
  rw [if_pos (by rw [sizeLine_eq]; exact h)]
theorem for1 {body : D → Sl → M (Ctl × Sl)} {d : D} {ρ ρ1 : Sl} {S S1 : Sto} (h : body d ρ S = .val (.next, ρ1) S1) : forGo (.fix [d]) body 1 0 ρ S = .val (.next, ρ1) S1 := by
  rw [for_more (d := d) rfl, h]
  exact for_no rfl
theorem for2 {body : D → Sl → M (Ctl × Sl)} {d e : D} {ρ ρ1 ρ2 : Sl} {S S1 S2 : Sto} (h : body d ρ S = .val (.next, ρ1) S1) (h2 : body e ρ1 S1 = .val (.next, ρ2) S2) : forGo (.fix [d, e]) body 2 0 ρ S = .val (.next, ρ2) S2 := by
  rw [for_more (d := d) rfl, h]
  show forGo (.fix [d, e]) body 1 1 ρ1 S1 = _
  rw [for_more (d := e) rfl, h2]
  exact for_no rfl
theorem row_end (k : Nat) {R S : Sto} {N : Int} (hI : dInv N R S) (hN : N ≤ 2900000) {jk ju jw je : Nat} {us ws : List Str} {ns : List Int} (P : Pool R jk ju jw je us ws ns) (w : Str) (hw : w.length ≤ 50) (hne : w = "jump" ∨ w = "nought" → ns ≠ []) :
    ∃ row S' T' ρ', exSs (calK fs (k + 2)) restC [some (.ref 1), some (.ref (je + 2)), some (.ref (jk + 2)), some (.p (.str w)), none, none, none, none] S = .val (.ret (.p row), ρ') S' ∧ RowOk row ∧ dInv (N + 8) (R ++ T') S' := by
  have hl := dInv_len hI
  have a1 := allocL S [] rfl
  rw [hl] at a1
  have I1 := dInv_app hI [.lst []]
  have hs := sort_ok (k + 1) w (S ++ [.lst []])
  obtain ⟨z, hz, hcase, hlead⟩ := sorts_in w
  rw [hz] at hs
  have o0 : (0 : Nat) ≤ 100000 := by omega
  have z1 : (1 : Nat) ≤ sizeLine := by rw [sizeLine_eq]; omega
  unfold restC
  have A : ∀ {X S2 : Sto} {M : Int} {acc : List D}, dInv M (R ++ .lst acc :: X) S2 → S2[R.length + 2]? = some (.lst acc) := fun {X S2 M acc} q => by rw [dInv_get q]; exact app_get0 ..
  have one : ∀ L : Str, (L = "n" ∨ L = "b" ∨ L = "u" ∨ L = "w" ∨ (L = "r" ∧ ns ≠ [])) → ∃ x S' T' y5 y6 y7, forGo (.fix [.p (.str L)]) (turn (calK fs (k + 2)) [5] true bodyR) 1 0 [some (.ref 1), some (.ref (je + 2)), some (.ref (jk + 2)), some (.p (.str w)), some (.ref (R.length + 2)), none, none, none] (S ++ [.lst []]) = .val (.next, [some (.ref 1), some (.ref (je + 2)), some (.ref (jk + 2)), some (.p (.str w)), some (.ref (R.length + 2)), y5, y6, y7]) S' ∧
      PartOk x ∧ (L = "r" → ∃ i, x = .int i ∧ Sm i) ∧ dInv (N + 4) (R ++ .lst [.p x] :: T') S' := fun L hL => by
    obtain ⟨x, S', T', y5, y6, y7, e1, e2, e3, e4⟩ := pool_turn k I1 (by omega) P L hL (by simp) (some (.p (.str w))) none none none
    exact ⟨x, S', T', y5, y6, y7, for1 e1, e2, e3, e4⟩
  have single : ∀ L : Str, z = L → srcStr (.p (.str L)) = some (.fix [.p (.str L)]) → (L = "n" ∨ L = "b" ∨ L = "u" ∨ L = "w" ∨ (L = "r" ∧ ns ≠ [])) → ∃ row S' T' ρ', exSs (calK fs (k + 2)) restC [some (.ref 1), some (.ref (je + 2)), some (.ref (jk + 2)), some (.p (.str w)), none, none, none, none] S = .val (.ret (.p row), ρ') S' ∧ RowOk row ∧ dInv (N + 8) (R ++ T') S' := fun L hL hsrc hc => by
    subst hL
    obtain ⟨x, S', T', y5, y6, y7, e1, e2, e3, e4⟩ := one z hc
    have b1 := bop_tup [.str w] [x] (by simp)
    have p1 : plainOf [D.p x] = some [x] := rfl
    have p2 : plainOf [D.p (.str w)] = some [.str w] := rfl
    refine ⟨.tuple [.str w, x], S', .lst [.p x] :: T', [some (.ref 1), some (.ref (je + 2)), some (.ref (jk + 2)), some (.p (.str w)), some (.ref (R.length + 2)), y5, y6, y7], ?_, ?_, dInv_mono e4 (by omega)⟩
    · unfold restC
      simp -dsimp only [Ir.then_val, Ir.optA_some, Ir.boolA_t, Ir.boolA_f, Ir.seqA_next, Ir.seqA_ret, Ir.wp_val_, Ir.v_var, Ir.v_cst, Ir.v_bin, Ir.v_cmp, Ir.v_chain, Ir.v_and, Ir.v_or, Ir.v_not, Ir.v_ifx, Ir.v_neg, Ir.v_call, Ir.v_tup, Ir.v_lst, Ir.v_idx, Ir.v_idxL, Ir.v_slice, Ir.v_strOf, Ir.v_join, Ir.v_extend, Ir.v_append, Ir.v_len, Ir.v_isi, Ir.v_toInt, Ir.v_all, Ir.v_tupOf, Ir.v_dictOf, Ir.v_dlit, Ir.v_dget3, Ir.v_eqL, Ir.v_op1, Ir.v_op2, Ir.v_fstr, Ir.f_nil, Ir.f_cons, Ir.a_nil', Ir.a_cons', Ir.a_star', Ir.l_disp', Ir.l_of', Ir.l_cat', Ir.l_cut', Ir.b_no', Ir.b_at', Ir.i_tup', Ir.i_lst', Ir.i_str', Ir.i_rng', Ir.ss_nil', Ir.ss_asg, Ir.ss_expr, Ir.ss_ret, Ir.ss_unp, Ir.ss_ite, Ir.ss_setI, Ir.ss_for, Ir.finA_p, Ir.strD_str, Ir.ofD_tup, Ir.dicAt_eq, Ir.lstAt_eq, Ir.dget3_str, Ir.dixD_int, Ir.srcLst_eq, Ir.ofD_ref, Ir.tupD_ref, Ir.lenD_ref, Ir.lenD_tup, Ir.getI_ref, Ir.lsA_lst, Ir.ifA_t, Ir.appD_eq, Ir.extD_eq, Ir.catD_eq, Ir.rb_p, decide_true, decide_false, Bool.true_and, Bool.and_true, Ir.atA_no, Ir.atA_go, Ir.contA_next, Ir.contA_ret, Ir.size_fix, Ir.size_dyn, Ir.at_fix, Ir.at_dyn, Ir.turn_one, List.length_map, List.getElem?_nil, Ir.tgt, Ir.setAll, Bool.false_eq_true, List.set_nil, List.getElem?_cons_zero, List.getElem?_cons_succ, List.set_cons_zero, List.set_cons_succ, List.map_cons, List.map_nil, List.length_cons, List.length_nil, List.replicate_succ, List.replicate_zero, List.cons_append, List.nil_append, Option.map_some, Option.bind_some, Ir.app_get, Ir.app_get0, Ir.app_set, Ir.app_set0, Ir.app_take, Ir.app_one, Ir.len_app, Nat.reduceAdd, Nat.reduceSub, Nat.reduceLeDiff, if_true, if_false, o0, a1, hs, hsrc, e1, A e4, p1, p2, b1, z1]
      try simp
    · by_cases hr : z = "r"
      · obtain ⟨i, rfl, hi⟩ := e3 hr
        exact .lead w i (hlead.mp hr) hi
      · refine .plain w [x] (fun q => hr (hlead.mpr (.inl q))) (fun q => hr (hlead.mpr (.inr q))) hw (fun p hp => ?_) (by simp)
        rw [List.mem_singleton] at hp; subst hp; exact e2
  unfold restC at single
  rcases hcase with h | h | h | h | h | h
  · have hsrc : srcStr (.p (.str z)) = some (.fix []) := by rw [h]; kernel_rfl
    have b1 := bop_tup [.str w] [] (by simp)
    have p1 : plainOf [] = some [] := rfl
    have p2 : plainOf [D.p (.str w)] = some [.str w] := rfl
    have hr : ¬ z = "r" := by rw [h]; decide +kernel
    refine ⟨.tuple [.str w], S ++ [.lst []], [.lst []], [some (.ref 1), some (.ref (je + 2)), some (.ref (jk + 2)), some (.p (.str w)), some (.ref (R.length + 2)), none, none, none], ?_, .plain w [] (fun q => hr (hlead.mpr (.inl q))) (fun q => hr (hlead.mpr (.inr q))) hw (fun p hp => nomatch hp) (by simp), dInv_mono I1 (by omega)⟩
    have f0 : ∀ ρ S, forGo (.fix []) (turn (calK fs (k + 2)) [5] true bodyR) 0 0 ρ S = .val (.next, ρ) S := fun ρ S => for_no rfl
    simp -dsimp only [Ir.then_val, Ir.optA_some, Ir.boolA_t, Ir.boolA_f, Ir.seqA_next, Ir.seqA_ret, Ir.wp_val_, Ir.v_var, Ir.v_cst, Ir.v_bin, Ir.v_cmp, Ir.v_chain, Ir.v_and, Ir.v_or, Ir.v_not, Ir.v_ifx, Ir.v_neg, Ir.v_call, Ir.v_tup, Ir.v_lst, Ir.v_idx, Ir.v_idxL, Ir.v_slice, Ir.v_strOf, Ir.v_join, Ir.v_extend, Ir.v_append, Ir.v_len, Ir.v_isi, Ir.v_toInt, Ir.v_all, Ir.v_tupOf, Ir.v_dictOf, Ir.v_dlit, Ir.v_dget3, Ir.v_eqL, Ir.v_op1, Ir.v_op2, Ir.v_fstr, Ir.f_nil, Ir.f_cons, Ir.a_nil', Ir.a_cons', Ir.a_star', Ir.l_disp', Ir.l_of', Ir.l_cat', Ir.l_cut', Ir.b_no', Ir.b_at', Ir.i_tup', Ir.i_lst', Ir.i_str', Ir.i_rng', Ir.ss_nil', Ir.ss_asg, Ir.ss_expr, Ir.ss_ret, Ir.ss_unp, Ir.ss_ite, Ir.ss_setI, Ir.ss_for, Ir.finA_p, Ir.strD_str, Ir.ofD_tup, Ir.dicAt_eq, Ir.lstAt_eq, Ir.dget3_str, Ir.dixD_int, Ir.srcLst_eq, Ir.ofD_ref, Ir.tupD_ref, Ir.lenD_ref, Ir.lenD_tup, Ir.getI_ref, Ir.lsA_lst, Ir.ifA_t, Ir.appD_eq, Ir.extD_eq, Ir.catD_eq, Ir.rb_p, decide_true, decide_false, Bool.true_and, Bool.and_true, Ir.atA_no, Ir.atA_go, Ir.contA_next, Ir.contA_ret, Ir.size_fix, Ir.size_dyn, Ir.at_fix, Ir.at_dyn, Ir.turn_one, List.length_map, List.getElem?_nil, Ir.tgt, Ir.setAll, Bool.false_eq_true, List.set_nil, List.getElem?_cons_zero, List.getElem?_cons_succ, List.set_cons_zero, List.set_cons_succ, List.map_cons, List.map_nil, List.length_cons, List.length_nil, List.replicate_succ, List.replicate_zero, List.cons_append, List.nil_append, Option.map_some, Option.bind_some, Ir.app_get, Ir.app_get0, Ir.app_set, Ir.app_set0, Ir.app_take, Ir.app_one, Ir.len_app, Nat.reduceAdd, Nat.reduceSub, Nat.reduceLeDiff, if_true, if_false, o0, a1, hs, hsrc, f0, A I1, p1, p2, b1, z1]
    try simp
  · exact single "n" h (by kernel_rfl) (.inl rfl)
  · exact single "b" h (by kernel_rfl) (.inr (.inl rfl))
  · exact single "u" h (by kernel_rfl) (.inr (.inr (.inl rfl)))
  · exact single "r" h (by kernel_rfl) (.inr (.inr (.inr (.inr ⟨rfl, hne (hlead.mp h)⟩))))
  · have hsrc : srcStr (.p (.str z)) = some (.fix [.p (.str "u"), .p (.str "w")]) := by rw [h]; kernel_rfl
    have hr : ¬ z = "r" := by rw [h]; decide +kernel
    obtain ⟨x, S1, T1, y5, y6, y7, e1, e2, e3, e4⟩ := pool_turn k I1 (by omega) P "u" (.inr (.inr (.inl rfl))) (by simp) (some (.p (.str w))) none none none
    obtain ⟨y, S2, T2, v5, v6, v7, f1, f2, f3, f4⟩ := pool_turn k e4 (by omega) P "w" (.inr (.inr (.inr (.inl rfl)))) (by simp) (some (.p (.str w))) y5 y6 y7
    have F := for2 e1 f1
    have b1 := bop_tup [.str w] [x, y] (by simp)
    have p1 : plainOf [D.p x, .p y] = some [x, y] := rfl
    have p2 : plainOf [D.p (.str w)] = some [.str w] := rfl
    refine ⟨.tuple [.str w, x, y], S2, .lst [.p x, .p y] :: T2, [some (.ref 1), some (.ref (je + 2)), some (.ref (jk + 2)), some (.p (.str w)), some (.ref (R.length + 2)), v5, v6, v7], ?_, ?_, dInv_mono f4 (by omega)⟩
    · simp -dsimp only [Ir.then_val, Ir.optA_some, Ir.boolA_t, Ir.boolA_f, Ir.seqA_next, Ir.seqA_ret, Ir.wp_val_, Ir.v_var, Ir.v_cst, Ir.v_bin, Ir.v_cmp, Ir.v_chain, Ir.v_and, Ir.v_or, Ir.v_not, Ir.v_ifx, Ir.v_neg, Ir.v_call, Ir.v_tup, Ir.v_lst, Ir.v_idx, Ir.v_idxL, Ir.v_slice, Ir.v_strOf, Ir.v_join, Ir.v_extend, Ir.v_append, Ir.v_len, Ir.v_isi, Ir.v_toInt, Ir.v_all, Ir.v_tupOf, Ir.v_dictOf, Ir.v_dlit, Ir.v_dget3, Ir.v_eqL, Ir.v_op1, Ir.v_op2, Ir.v_fstr, Ir.f_nil, Ir.f_cons, Ir.a_nil', Ir.a_cons', Ir.a_star', Ir.l_disp', Ir.l_of', Ir.l_cat', Ir.l_cut', Ir.b_no', Ir.b_at', Ir.i_tup', Ir.i_lst', Ir.i_str', Ir.i_rng', Ir.ss_nil', Ir.ss_asg, Ir.ss_expr, Ir.ss_ret, Ir.ss_unp, Ir.ss_ite, Ir.ss_setI, Ir.ss_for, Ir.finA_p, Ir.strD_str, Ir.ofD_tup, Ir.dicAt_eq, Ir.lstAt_eq, Ir.dget3_str, Ir.dixD_int, Ir.srcLst_eq, Ir.ofD_ref, Ir.tupD_ref, Ir.lenD_ref, Ir.lenD_tup, Ir.getI_ref, Ir.lsA_lst, Ir.ifA_t, Ir.appD_eq, Ir.extD_eq, Ir.catD_eq, Ir.rb_p, decide_true, decide_false, Bool.true_and, Bool.and_true, Ir.atA_no, Ir.atA_go, Ir.contA_next, Ir.contA_ret, Ir.size_fix, Ir.size_dyn, Ir.at_fix, Ir.at_dyn, Ir.turn_one, List.length_map, List.getElem?_nil, Ir.tgt, Ir.setAll, Bool.false_eq_true, List.set_nil, List.getElem?_cons_zero, List.getElem?_cons_succ, List.set_cons_zero, List.set_cons_succ, List.map_cons, List.map_nil, List.length_cons, List.length_nil, List.replicate_succ, List.replicate_zero, List.cons_append, List.nil_append, Option.map_some, Option.bind_some, Ir.app_get, Ir.app_get0, Ir.app_set, Ir.app_set0, Ir.app_take, Ir.app_one, Ir.len_app, Nat.reduceAdd, Nat.reduceSub, Nat.reduceLeDiff, if_true, if_false, o0, a1, hs, hsrc, F, A f4, p1, p2, b1, z1]
      try simp
    · refine .plain w [x, y] (fun q => hr (hlead.mpr (.inl q))) (fun q => hr (hlead.mpr (.inr q))) hw (fun p hp => ?_) (by simp)
      simp only [List.mem_cons, List.not_mem_nil, or_false] at hp
      rcases hp with rfl | rfl
      · exact e2
      · exact f2
end Ir.K04
set_option Elab.async false
set_option linter.all false
set_option maxRecDepth 100000
set_option maxHeartbeats 4000001
namespace Ir.K04
open PySem
theorem row_mid (k : Nat) {R X S : Sto} {N : Int} (hI : dInv N (R ++ X) S) (hN : N ≤ 2900000) {jk ju jw je : Nat} {us ws : List Str} {ns : List Int} (P : Pool R jk ju jw je us ws ns) (w : Str) (hw : w.length ≤ 50) :
    ∃ row S', finA (R.length + 2) (exSs (calK fs (k + 2)) restBR [some (.ref 1), some (.ref (je + 2)), some (.ref (jk + 2)), some (.p (.str w)), none, none, none, none] S) = .val (.p row) S' ∧ RowOk row ∧ dInv (N + 8) R S' := by
  have P1 := P.app X
  have ge : S[je + 2]? = some (.lst (ns.map fi)) := by rw [dInv_get hI]; exact P1.e
  have hs := sort_ok (k + 1) w S
  obtain ⟨z, hz, hcase, hlead⟩ := sorts_in w
  rw [hz] at hs
  have o0 : (0 : Nat) ≤ 100000 := by omega
  have e0 := eqL_ints false ns
  simp only [Bool.false_eq_true, if_false] at e0
  have T : ∀ w : Str, w.length ≤ 50 → (w = "jump" ∨ w = "nought" → ns ≠ []) → ∃ row S', finA (R.length + 2) (exSs (calK fs (k + 2)) restC [some (.ref 1), some (.ref (je + 2)), some (.ref (jk + 2)), some (.p (.str w)), none, none, none, none] S) = .val (.p row) S' ∧ RowOk row ∧ dInv (N + 8) R S' := fun w hw hne => by
    obtain ⟨row, S', T', ρ', e1, e2, e3⟩ := row_end k hI hN P1 w hw hne
    refine ⟨row, S'.take (R.length + 2), by rw [e1, finA_p], e2, ?_⟩
    rw [List.append_assoc] at e3
    exact dInv_take e3
  unfold restBR
  cases hn : ns.isEmpty with
  | true =>
    rw [hn] at e0
    by_cases hr : z = "r"
    · have hd : decide (z = "r") = true := decide_eq_true hr
      simp -dsimp only [Ir.then_val, Ir.optA_some, Ir.boolA_t, Ir.boolA_f, Ir.seqA_next, Ir.seqA_ret, Ir.wp_val_, Ir.v_var, Ir.v_cst, Ir.v_bin, Ir.v_cmp, Ir.v_chain, Ir.v_and, Ir.v_or, Ir.v_not, Ir.v_ifx, Ir.v_neg, Ir.v_call, Ir.v_tup, Ir.v_lst, Ir.v_idx, Ir.v_idxL, Ir.v_slice, Ir.v_strOf, Ir.v_join, Ir.v_extend, Ir.v_append, Ir.v_len, Ir.v_isi, Ir.v_toInt, Ir.v_all, Ir.v_tupOf, Ir.v_dictOf, Ir.v_dlit, Ir.v_dget3, Ir.v_eqL, Ir.v_op1, Ir.v_op2, Ir.v_fstr, Ir.f_nil, Ir.f_cons, Ir.a_nil', Ir.a_cons', Ir.a_star', Ir.l_disp', Ir.l_of', Ir.l_cat', Ir.l_cut', Ir.b_no', Ir.b_at', Ir.i_tup', Ir.i_lst', Ir.i_str', Ir.i_rng', Ir.ss_nil', Ir.ss_asg, Ir.ss_expr, Ir.ss_ret, Ir.ss_unp, Ir.ss_ite, Ir.ss_setI, Ir.ss_for, Ir.finA_p, Ir.strD_str, Ir.ofD_tup, Ir.dicAt_eq, Ir.lstAt_eq, Ir.dget3_str, Ir.dixD_int, Ir.srcLst_eq, Ir.ofD_ref, Ir.tupD_ref, Ir.lenD_ref, Ir.lenD_tup, Ir.getI_ref, Ir.lsA_lst, Ir.ifA_t, Ir.appD_eq, Ir.extD_eq, Ir.catD_eq, Ir.rb_p, decide_true, decide_false, Bool.true_and, Bool.and_true, Ir.atA_no, Ir.atA_go, Ir.contA_next, Ir.contA_ret, Ir.size_fix, Ir.size_dyn, Ir.at_fix, Ir.at_dyn, Ir.turn_one, List.length_map, List.getElem?_nil, Ir.tgt, Ir.setAll, Bool.false_eq_true, List.set_nil, List.getElem?_cons_zero, List.getElem?_cons_succ, List.set_cons_zero, List.set_cons_succ, List.map_cons, List.map_nil, List.length_cons, List.length_nil, List.replicate_succ, List.replicate_zero, List.cons_append, List.nil_append, Option.map_some, Option.bind_some, Ir.app_get, Ir.app_get0, Ir.app_set, Ir.app_set0, Ir.app_take, Ir.app_one, Ir.len_app, Nat.reduceAdd, Nat.reduceSub, Nat.reduceLeDiff, if_true, if_false, ge, o0, e0, hs, eqD_n, hd]
      exact T "drop" (by decide +kernel) (fun q => by rcases q with q | q <;> exact ((by decide +kernel : ¬ _) q).elim)
    · have hd : decide (z = "r") = false := decide_eq_false hr
      simp -dsimp only [Ir.then_val, Ir.optA_some, Ir.boolA_t, Ir.boolA_f, Ir.seqA_next, Ir.seqA_ret, Ir.wp_val_, Ir.v_var, Ir.v_cst, Ir.v_bin, Ir.v_cmp, Ir.v_chain, Ir.v_and, Ir.v_or, Ir.v_not, Ir.v_ifx, Ir.v_neg, Ir.v_call, Ir.v_tup, Ir.v_lst, Ir.v_idx, Ir.v_idxL, Ir.v_slice, Ir.v_strOf, Ir.v_join, Ir.v_extend, Ir.v_append, Ir.v_len, Ir.v_isi, Ir.v_toInt, Ir.v_all, Ir.v_tupOf, Ir.v_dictOf, Ir.v_dlit, Ir.v_dget3, Ir.v_eqL, Ir.v_op1, Ir.v_op2, Ir.v_fstr, Ir.f_nil, Ir.f_cons, Ir.a_nil', Ir.a_cons', Ir.a_star', Ir.l_disp', Ir.l_of', Ir.l_cat', Ir.l_cut', Ir.b_no', Ir.b_at', Ir.i_tup', Ir.i_lst', Ir.i_str', Ir.i_rng', Ir.ss_nil', Ir.ss_asg, Ir.ss_expr, Ir.ss_ret, Ir.ss_unp, Ir.ss_ite, Ir.ss_setI, Ir.ss_for, Ir.finA_p, Ir.strD_str, Ir.ofD_tup, Ir.dicAt_eq, Ir.lstAt_eq, Ir.dget3_str, Ir.dixD_int, Ir.srcLst_eq, Ir.ofD_ref, Ir.tupD_ref, Ir.lenD_ref, Ir.lenD_tup, Ir.getI_ref, Ir.lsA_lst, Ir.ifA_t, Ir.appD_eq, Ir.extD_eq, Ir.catD_eq, Ir.rb_p, decide_true, decide_false, Bool.true_and, Bool.and_true, Ir.atA_no, Ir.atA_go, Ir.contA_next, Ir.contA_ret, Ir.size_fix, Ir.size_dyn, Ir.at_fix, Ir.at_dyn, Ir.turn_one, List.length_map, List.getElem?_nil, Ir.tgt, Ir.setAll, Bool.false_eq_true, List.set_nil, List.getElem?_cons_zero, List.getElem?_cons_succ, List.set_cons_zero, List.set_cons_succ, List.map_cons, List.map_nil, List.length_cons, List.length_nil, List.replicate_succ, List.replicate_zero, List.cons_append, List.nil_append, Option.map_some, Option.bind_some, Ir.app_get, Ir.app_get0, Ir.app_set, Ir.app_set0, Ir.app_take, Ir.app_one, Ir.len_app, Nat.reduceAdd, Nat.reduceSub, Nat.reduceLeDiff, if_true, if_false, ge, o0, e0, hs, eqD_n, hd]
      exact T w hw (fun q => (hr (hlead.mpr q)).elim)
  | false =>
    rw [hn] at e0
    simp -dsimp only [Ir.then_val, Ir.optA_some, Ir.boolA_t, Ir.boolA_f, Ir.seqA_next, Ir.seqA_ret, Ir.wp_val_, Ir.v_var, Ir.v_cst, Ir.v_bin, Ir.v_cmp, Ir.v_chain, Ir.v_and, Ir.v_or, Ir.v_not, Ir.v_ifx, Ir.v_neg, Ir.v_call, Ir.v_tup, Ir.v_lst, Ir.v_idx, Ir.v_idxL, Ir.v_slice, Ir.v_strOf, Ir.v_join, Ir.v_extend, Ir.v_append, Ir.v_len, Ir.v_isi, Ir.v_toInt, Ir.v_all, Ir.v_tupOf, Ir.v_dictOf, Ir.v_dlit, Ir.v_dget3, Ir.v_eqL, Ir.v_op1, Ir.v_op2, Ir.v_fstr, Ir.f_nil, Ir.f_cons, Ir.a_nil', Ir.a_cons', Ir.a_star', Ir.l_disp', Ir.l_of', Ir.l_cat', Ir.l_cut', Ir.b_no', Ir.b_at', Ir.i_tup', Ir.i_lst', Ir.i_str', Ir.i_rng', Ir.ss_nil', Ir.ss_asg, Ir.ss_expr, Ir.ss_ret, Ir.ss_unp, Ir.ss_ite, Ir.ss_setI, Ir.ss_for, Ir.finA_p, Ir.strD_str, Ir.ofD_tup, Ir.dicAt_eq, Ir.lstAt_eq, Ir.dget3_str, Ir.dixD_int, Ir.srcLst_eq, Ir.ofD_ref, Ir.tupD_ref, Ir.lenD_ref, Ir.lenD_tup, Ir.getI_ref, Ir.lsA_lst, Ir.ifA_t, Ir.appD_eq, Ir.extD_eq, Ir.catD_eq, Ir.rb_p, decide_true, decide_false, Bool.true_and, Bool.and_true, Ir.atA_no, Ir.atA_go, Ir.contA_next, Ir.contA_ret, Ir.size_fix, Ir.size_dyn, Ir.at_fix, Ir.at_dyn, Ir.turn_one, List.length_map, List.getElem?_nil, Ir.tgt, Ir.setAll, Bool.false_eq_true, List.set_nil, List.getElem?_cons_zero, List.getElem?_cons_succ, List.set_cons_zero, List.set_cons_succ, List.map_cons, List.map_nil, List.length_cons, List.length_nil, List.replicate_succ, List.replicate_zero, List.cons_append, List.nil_append, Option.map_some, Option.bind_some, Ir.app_get, Ir.app_get0, Ir.app_set, Ir.app_set0, Ir.app_take, Ir.app_one, Ir.len_app, Nat.reduceAdd, Nat.reduceSub, Nat.reduceLeDiff, if_true, if_false, ge, o0, e0]
    exact T w hw (fun _ q => by rw [q] at hn; exact Bool.noConfusion hn)
theorem words_le : ∀ z ∈ wordsR, z.length ≤ 50 := by
  have : wordsR.all (fun z => decide (z.length ≤ 50)) = true := by decide +kernel
  exact fun z hz => of_decide_eq_true (List.all_eq_true.mp this z hz)
theorem newrow_ok (k : Nat) {R S : Sto} {N : Int} (hI : dInv N R S) (hN : N ≤ 2800000) {jk ju jw je : Nat} {us ws : List Str} {ns : List Int} (P : Pool R jk ju jw je us ws ns) :
    ∃ row S', calK fs (k + 3) 14 [.ref 1, .ref (je + 2), .ref (jk + 2)] S = .val (.p row) S' ∧ RowOk row ∧ dInv (N + 20) R S' := by
  have hl := dInv_len hI
  have e1 := rowwords_ok (k + 1) S
  have I1 := dInv_app hI [.lst (wordsR.map fz)]
  obtain ⟨r1, S1, d1, d2, d3, I2⟩ := draw_ok (k + 1) I1 (many := 23) (by omega) (by omega) (by omega)
  have g1 : S1[S.length]? = some (.lst (wordsR.map fz)) := by rw [hl, dInv_get I2]; exact app_get0 ..
  obtain ⟨wd, p1, pm⟩ := pick (wordsR.map fz) d2 (by rw [List.length_map]; exact d3)
  obtain ⟨w, hw, rfl⟩ := List.mem_map.mp pm
  obtain ⟨r2, S2, f1, f2, f3, I3⟩ := draw_ok (k + 1) I2 (many := 4) (by omega) (by omega) (by omega)
  have o2 : (2 : Nat) ≤ 100000 := by omega
  rw [c14, callA S rfl, hl]
  show ∃ row S', finA _ (exSs _ (.cons (.asg 3 _) (.cons (.ite _ _ _) restBR)) _ _) = _ ∧ _
  by_cases h0 : r2 = 0
  · have hd : decide (r2 = 0) = true := decide_eq_true h0
    obtain ⟨r3, S3, v1, v2, v3, I4⟩ := draw_ok (k + 1) I3 (many := 2) (by omega) (by omega) (by omega)
    obtain ⟨xd, q1, qm⟩ := pick ([("jump" : Str), "nought"].map fz) v2 v3
    obtain ⟨x, hx, rfl⟩ := List.mem_map.mp qm
    simp only [List.map_cons, List.map_nil] at q1
    have hx50 : x.length ≤ 50 := by
      simp only [List.mem_cons, List.not_mem_nil, or_false] at hx
      rcases hx with rfl | rfl <;> decide +kernel
    obtain ⟨row, S', m1, m2, m3⟩ := row_mid k I4 (by omega) P x hx50
    simp -dsimp only [Ir.then_val, Ir.optA_some, Ir.boolA_t, Ir.boolA_f, Ir.seqA_next, Ir.seqA_ret, Ir.wp_val_, Ir.v_var, Ir.v_cst, Ir.v_bin, Ir.v_cmp, Ir.v_chain, Ir.v_and, Ir.v_or, Ir.v_not, Ir.v_ifx, Ir.v_neg, Ir.v_call, Ir.v_tup, Ir.v_lst, Ir.v_idx, Ir.v_idxL, Ir.v_slice, Ir.v_strOf, Ir.v_join, Ir.v_extend, Ir.v_append, Ir.v_len, Ir.v_isi, Ir.v_toInt, Ir.v_all, Ir.v_tupOf, Ir.v_dictOf, Ir.v_dlit, Ir.v_dget3, Ir.v_eqL, Ir.v_op1, Ir.v_op2, Ir.v_fstr, Ir.f_nil, Ir.f_cons, Ir.a_nil', Ir.a_cons', Ir.a_star', Ir.l_disp', Ir.l_of', Ir.l_cat', Ir.l_cut', Ir.b_no', Ir.b_at', Ir.i_tup', Ir.i_lst', Ir.i_str', Ir.i_rng', Ir.ss_nil', Ir.ss_asg, Ir.ss_expr, Ir.ss_ret, Ir.ss_unp, Ir.ss_ite, Ir.ss_setI, Ir.ss_for, Ir.finA_p, Ir.strD_str, Ir.ofD_tup, Ir.dicAt_eq, Ir.lstAt_eq, Ir.dget3_str, Ir.dixD_int, Ir.srcLst_eq, Ir.ofD_ref, Ir.tupD_ref, Ir.lenD_ref, Ir.lenD_tup, Ir.getI_ref, Ir.lsA_lst, Ir.ifA_t, Ir.appD_eq, Ir.extD_eq, Ir.catD_eq, Ir.rb_p, decide_true, decide_false, Bool.true_and, Bool.and_true, Ir.atA_no, Ir.atA_go, Ir.contA_next, Ir.contA_ret, Ir.size_fix, Ir.size_dyn, Ir.at_fix, Ir.at_dyn, Ir.turn_one, List.length_map, List.getElem?_nil, Ir.tgt, Ir.setAll, Bool.false_eq_true, List.set_nil, List.getElem?_cons_zero, List.getElem?_cons_succ, List.set_cons_zero, List.set_cons_succ, List.map_cons, List.map_nil, List.length_cons, List.length_nil, List.replicate_succ, List.replicate_zero, List.cons_append, List.nil_append, Option.map_some, Option.bind_some, Ir.app_get, Ir.app_get0, Ir.app_set, Ir.app_set0, Ir.app_take, Ir.app_one, Ir.len_app, Nat.reduceAdd, Nat.reduceSub, Nat.reduceLeDiff, if_true, if_false, e1, d1, g1, p1, f1, cop_eq_int, hd, v1, asInt, q1, o2]
    exact ⟨row, S', m1, m2, dInv_mono m3 (by omega)⟩
  · have hd : decide (r2 = 0) = false := decide_eq_false h0
    obtain ⟨row, S', m1, m2, m3⟩ := row_mid k I3 (by omega) P w (words_le w hw)
    simp -dsimp only [Ir.then_val, Ir.optA_some, Ir.boolA_t, Ir.boolA_f, Ir.seqA_next, Ir.seqA_ret, Ir.wp_val_, Ir.v_var, Ir.v_cst, Ir.v_bin, Ir.v_cmp, Ir.v_chain, Ir.v_and, Ir.v_or, Ir.v_not, Ir.v_ifx, Ir.v_neg, Ir.v_call, Ir.v_tup, Ir.v_lst, Ir.v_idx, Ir.v_idxL, Ir.v_slice, Ir.v_strOf, Ir.v_join, Ir.v_extend, Ir.v_append, Ir.v_len, Ir.v_isi, Ir.v_toInt, Ir.v_all, Ir.v_tupOf, Ir.v_dictOf, Ir.v_dlit, Ir.v_dget3, Ir.v_eqL, Ir.v_op1, Ir.v_op2, Ir.v_fstr, Ir.f_nil, Ir.f_cons, Ir.a_nil', Ir.a_cons', Ir.a_star', Ir.l_disp', Ir.l_of', Ir.l_cat', Ir.l_cut', Ir.b_no', Ir.b_at', Ir.i_tup', Ir.i_lst', Ir.i_str', Ir.i_rng', Ir.ss_nil', Ir.ss_asg, Ir.ss_expr, Ir.ss_ret, Ir.ss_unp, Ir.ss_ite, Ir.ss_setI, Ir.ss_for, Ir.finA_p, Ir.strD_str, Ir.ofD_tup, Ir.dicAt_eq, Ir.lstAt_eq, Ir.dget3_str, Ir.dixD_int, Ir.srcLst_eq, Ir.ofD_ref, Ir.tupD_ref, Ir.lenD_ref, Ir.lenD_tup, Ir.getI_ref, Ir.lsA_lst, Ir.ifA_t, Ir.appD_eq, Ir.extD_eq, Ir.catD_eq, Ir.rb_p, decide_true, decide_false, Bool.true_and, Bool.and_true, Ir.atA_no, Ir.atA_go, Ir.contA_next, Ir.contA_ret, Ir.size_fix, Ir.size_dyn, Ir.at_fix, Ir.at_dyn, Ir.turn_one, List.length_map, List.getElem?_nil, Ir.tgt, Ir.setAll, Bool.false_eq_true, List.set_nil, List.getElem?_cons_zero, List.getElem?_cons_succ, List.set_cons_zero, List.set_cons_succ, List.map_cons, List.map_nil, List.length_cons, List.length_nil, List.replicate_succ, List.replicate_zero, List.cons_append, List.nil_append, Option.map_some, Option.bind_some, Ir.app_get, Ir.app_get0, Ir.app_set, Ir.app_set0, Ir.app_take, Ir.app_one, Ir.len_app, Nat.reduceAdd, Nat.reduceSub, Nat.reduceLeDiff, if_true, if_false, e1, d1, g1, p1, f1, cop_eq_int, hd]
    exact ⟨row, S', m1, m2, dInv_mono m3 (by omega)⟩
end Ir.K04
set_option Elab.async false
set_option linter.all false
set_option maxRecDepth 100000
set_option maxHeartbeats 4000001
namespace Ir.K04
open PySem
theorem c15 (k : Nat) : calK fs (k + 1) 15 = callF (calK fs k) ⟨4, 6, b15⟩ := rfl
structure Kit (R : Sto) (jk ju jw : Nat) (us ws : List Str) : Prop where
  k : R[jk]? = some (.lst [.ref (ju + 2), .ref (jw + 2)])
  u : R[ju]? = some (.lst (us.map fz))
  w : R[jw]? = some (.lst (ws.map fz))
  hus : ∀ z ∈ us, Nm z
  hws : ∀ z ∈ ws, Nm z
  ul : 0 < us.length ∧ us.length ≤ 20
  wl : 0 < ws.length ∧ ws.length ≤ 20
theorem get_app {R : Sto} {j : Nat} {o : MO} (T : Sto) (q : R[j]? = some o) : (R ++ T)[j]? = some o := by
  rw [List.getElem?_append_left (List.getElem?_eq_some_iff.mp q).1, q]
theorem Kit.app {R : Sto} {jk ju jw : Nat} {us ws : List Str} (h : Kit R jk ju jw us ws) (T : Sto) : Kit (R ++ T) jk ju jw us ws :=
  { h with k := get_app T h.k, u := get_app T h.u, w := get_app T h.w }
theorem Kit.pool {R : Sto} {jk ju jw je : Nat} {us ws : List Str} {ns : List Int} (h : Kit R jk ju jw us ws) (e : R[je]? = some (.lst (ns.map fi))) (hn : ∀ n ∈ ns, Sm n) (nl : ns.length ≤ 100) : Pool R jk ju jw je us ws ns :=
  { h with e := e, hns := hn, nl := nl }
/-- a type, drawn -/
def tyE : E := (.idxL (.cat (.lst (.disp (.cons (.cst (.p (.str "num"))) .nil))) (.idx (.var 2) (.cst (.p (.int 0))))) (.call 8 (.cons (.var 0) (.cons (.bin .add (.len (.idx (.var 2) (.cst (.p (.int 0))))) (.cst (.p (.int 1)))) .nil))))
theorem var_at {cal : Nat → List D → M D} {i : Nat} {ρ : Sl} {S : Sto} {d : D} (h : ρ[i]? = some (some d)) : evE cal (.var i) ρ S = .val d S := by
  unfold evE
  rw [h]; rfl
theorem ty_ok (k : Nat) {R S : Sto} {N : Int} (hI : dInv N R S) (hN : N ≤ 4000000) {jk ju jw : Nat} {us ws : List Str} (P : Kit R jk ju jw us ws) {ρ : Sl} (h0 : ρ[0]? = some (some (.ref 1))) (h2 : ρ[2]? = some (some (.ref (jk + 2)))) :
    ∃ (z : Str) (S' : Sto), evE (calK fs (k + 1)) tyE ρ S = .val (.p (.str z)) S' ∧ z.length ≤ 50 ∧ dInv (N + 1) (R ++ [.lst [.p (.str "num")]]) S' := by
  have hl := dInv_len hI
  have a1 := allocL S [.p (.str "num")] rfl
  have I1 := dInv_app hI [.lst [.p (.str "num")]]
  have P1 := P.app [.lst [.p (.str "num")]]
  generalize hS1 : S ++ [.lst [.p (.str "num")]] = S1 at a1 I1
  have gk : S1[jk + 2]? = some (.lst [.ref (ju + 2), .ref (jw + 2)]) := by rw [dInv_get I1]; exact P1.k
  have gu : S1[ju + 2]? = some (.lst (us.map fz)) := by rw [dInv_get I1]; exact P1.u
  have g0 : S1[S.length]? = some (.lst [.p (.str "num")]) := by rw [← hS1]; exact app_get0 ..
  have o1 : (1 : Nat) ≤ 100000 := by omega
  have at0 : ∀ a b : D, L2.atI [a, b] 0 = some a := fun _ _ => rfl
  have ul := P.ul
  have hc : (1 : Nat) + us.length ≤ 100000 := by omega
  obtain ⟨r, S2, d1, d2, d3, I2⟩ := draw_ok k I1 (many := (us.length : Int) + 1) (by omega) (by omega) (by omega)
  obtain ⟨zd, p1, pm⟩ := pick ((("num" : Str) :: us).map fz) d2 (by simp only [List.length_map, List.length_cons]; omega)
  obtain ⟨z, hz, rfl⟩ := List.mem_map.mp pm
  rw [List.map_cons] at p1
  refine ⟨z, S2, ?_, ?_, I2⟩
  · unfold tyE
    have w0 := fun S => var_at (cal := calK fs (k + 1)) (S := S) h0
    have w2 := fun S => var_at (cal := calK fs (k + 1)) (S := S) h2
    simp -dsimp only [v_idxL, l_cat', v_lst, l_disp', a_cons', a_nil', v_cst, v_idx, v_len, v_bin, v_call, w0, w2, then_val, optA_some, o1, if_true, a1, getI_ref, gk, at0, catD_eq, lstAt_eq, g0, gu, Option.bind_some, List.length_cons, List.length_nil, List.length_map, hc, lenD_ref, Option.map_some, bop_add, d1, asInt, p1, List.cons_append, List.nil_append, Nat.reduceAdd]
  · rcases List.mem_cons.mp hz with rfl | hz
    · decide +kernel
    · have := (P.hus z hz).len; omega
theorem newsign_ok (k : Nat) {R S : Sto} {N : Int} (hI : dInv N R S) (hN : N ≤ 3900000) {jk ju jw : Nat} {us ws : List Str} (P : Kit R jk ju jw us ws) (n : Str) (hn : n.length ≤ 50) (m : Nat) (hm : m ≤ 6) :
    ∃ (s : Sig) (S' : Sto), calK fs (k + 2) 15 [.ref 1, .p (.str n), .ref (jk + 2), .p (.int (m : Int))] S = .val (.p s.py) S' ∧ s.Ok ∧ s.n = n ∧ dInv (N + 10) R S' := by
  have hl := dInv_len hI
  obtain ⟨r, S1, d1, d2, d3, I1⟩ := draw_ok k hI (many := (m : Int) + 1) (by omega) (by omega) (by omega)
  obtain ⟨t, rfl⟩ : ∃ t : Nat, r = t := ⟨r.toNat, by omega⟩
  have rn := srcRng_nat t (by omega)
  obtain ⟨es, S2, e1, e2, e3, T, I2⟩ := l_lc_inv (cal := calK fs (k + 1)) (it := .rng (.call 8 (.cons (.var 0) (.cons (.bin .add (.var 3) (.cst (.p (.int 1)))) .nil)))) (tg := [5]) (one := true) (elt := tyE)
    (ρ := [some (.ref 1), some (.p (.str n)), some (.ref (jk + 2)), some (.p (.int (m : Int))), none, none]) (S0 := S) (S := S1) (ds := (List.range t).map fun (i : Nat) => D.p (.int (i : Int))) (by simp -dsimp only [Ir.then_val, Ir.optA_some, Ir.boolA_t, Ir.boolA_f, Ir.seqA_next, Ir.seqA_ret, Ir.wp_val_, Ir.v_var, Ir.v_cst, Ir.v_bin, Ir.v_cmp, Ir.v_chain, Ir.v_and, Ir.v_or, Ir.v_not, Ir.v_ifx, Ir.v_neg, Ir.v_call, Ir.v_tup, Ir.v_lst, Ir.v_idx, Ir.v_idxL, Ir.v_slice, Ir.v_strOf, Ir.v_join, Ir.v_extend, Ir.v_append, Ir.v_len, Ir.v_isi, Ir.v_toInt, Ir.v_all, Ir.v_tupOf, Ir.v_dictOf, Ir.v_dlit, Ir.v_dget3, Ir.v_eqL, Ir.v_op1, Ir.v_op2, Ir.v_fstr, Ir.f_nil, Ir.f_cons, Ir.a_nil', Ir.a_cons', Ir.a_star', Ir.l_disp', Ir.l_of', Ir.l_cat', Ir.l_cut', Ir.b_no', Ir.b_at', Ir.i_tup', Ir.i_lst', Ir.i_str', Ir.i_rng', Ir.ss_nil', Ir.ss_asg, Ir.ss_expr, Ir.ss_ret, Ir.ss_unp, Ir.ss_ite, Ir.ss_setI, Ir.ss_for, Ir.finA_p, Ir.strD_str, Ir.ofD_tup, Ir.dicAt_eq, Ir.lstAt_eq, Ir.dget3_str, Ir.dixD_int, Ir.srcLst_eq, Ir.ofD_ref, Ir.tupD_ref, Ir.lenD_ref, Ir.lenD_tup, Ir.getI_ref, Ir.lsA_lst, Ir.ifA_t, Ir.appD_eq, Ir.extD_eq, Ir.catD_eq, Ir.rb_p, decide_true, decide_false, Bool.true_and, Bool.and_true, Ir.atA_no, Ir.atA_go, Ir.contA_next, Ir.contA_ret, Ir.size_fix, Ir.size_dyn, Ir.at_fix, Ir.at_dyn, Ir.turn_one, List.length_map, List.getElem?_nil, Ir.tgt, Ir.setAll, Bool.false_eq_true, List.set_nil, List.getElem?_cons_zero, List.getElem?_cons_succ, List.set_cons_zero, List.set_cons_succ, List.map_cons, List.map_nil, List.length_cons, List.length_nil, List.replicate_succ, List.replicate_zero, List.cons_append, List.nil_append, Option.map_some, Option.bind_some, Ir.app_get, Ir.app_get0, Ir.app_set, Ir.app_set0, Ir.app_take, Ir.app_one, Ir.len_app, Nat.reduceAdd, Nat.reduceSub, Nat.reduceLeDiff, if_true, if_false, bop_add, d1, rn]) (by simp; omega)
    (fun i S => ∃ T, dInv (N + 1 + i) (R ++ T) S) (fun d => ∃ z : Str, d = .p (.str z) ∧ z.length ≤ 50) ⟨[], by simpa using I1⟩ (fun i d S hd ⟨T, hS⟩ => by
      obtain ⟨hi, _⟩ := List.getElem?_eq_some_iff.mp hd
      rw [List.length_map, List.length_range] at hi
      obtain ⟨z, S', f1, f2, f3⟩ := ty_ok k hS (by omega) (P.app T) (ρ := [some (.ref 1), some (.p (.str n)), some (.ref (jk + 2)), some (.p (.int (m : Int))), none, some d]) rfl rfl
      refine ⟨_, _, S', rfl, f1, ⟨z, rfl, f2⟩, T ++ [.lst [.p (.str "num")]], ?_⟩
      rw [← List.append_assoc]
      exact dInv_mono f3 (by omega))
  obtain ⟨zs, rfl, h3⟩ := strs_of e3
  have hz : zs.length = t := by simpa using e2
  have a1 := allocL S2 (zs.map fz) (all_fz _ _)
  have I3 := dInv_app I2 [.lst (zs.map fz)]
  rw [List.append_assoc] at I3
  have g0 : (S2 ++ [MO.lst (zs.map fz)])[S2.length]? = some (.lst (zs.map fz)) := app_get0 ..
  obtain ⟨z, S4, f1, f2, I4⟩ := ty_ok k I3 (by simp; omega) (P.app _) (ρ := [some (.ref 1), some (.p (.str n)), some (.ref (jk + 2)), some (.p (.int (m : Int))), some (.ref S2.length), none]) rfl rfl
  have pb : plainOf (zs.map fz) = some (zs.map .str) := (strs_back zs).1
  have z3 : (3 : Nat) ≤ sizeLine := by rw [sizeLine_eq]; omega
  refine ⟨⟨n, zs, z⟩, S4.take (R.length + 2), ?_, ⟨hn, h3, by simp only; omega, f2⟩, rfl, ?_⟩
  · rw [c15, callA S rfl, hl]
    show finA _ (exSs _ (.cons (.asg 4 (.lst (.lc (.rng (.call 8 (.cons (.var 0) (.cons (.bin .add (.var 3) (.cst (.p (.int 1)))) .nil)))) [5] true tyE))) (.cons (.ret (.tup (.cons (.var 1) (.cons (.tupOf (.var 4)) (.cons tyE .nil))))) .nil)) [some (.ref 1), some (.p (.str n)), some (.ref (jk + 2)), some (.p (.int (m : Int))), none, none] S) = _
    have p3 : plainOf [D.p (.str n), .p (.tuple (zs.map .str)), .p (.str z)] = some [.str n, .tuple (zs.map .str), .str z] := rfl
    simp -dsimp only [Ir.then_val, Ir.optA_some, Ir.boolA_t, Ir.boolA_f, Ir.seqA_next, Ir.seqA_ret, Ir.wp_val_, Ir.v_var, Ir.v_cst, Ir.v_bin, Ir.v_cmp, Ir.v_chain, Ir.v_and, Ir.v_or, Ir.v_not, Ir.v_ifx, Ir.v_neg, Ir.v_call, Ir.v_tup, Ir.v_lst, Ir.v_idx, Ir.v_idxL, Ir.v_slice, Ir.v_strOf, Ir.v_join, Ir.v_extend, Ir.v_append, Ir.v_len, Ir.v_isi, Ir.v_toInt, Ir.v_all, Ir.v_tupOf, Ir.v_dictOf, Ir.v_dlit, Ir.v_dget3, Ir.v_eqL, Ir.v_op1, Ir.v_op2, Ir.v_fstr, Ir.f_nil, Ir.f_cons, Ir.a_nil', Ir.a_cons', Ir.a_star', Ir.l_disp', Ir.l_of', Ir.l_cat', Ir.l_cut', Ir.b_no', Ir.b_at', Ir.i_tup', Ir.i_lst', Ir.i_str', Ir.i_rng', Ir.ss_nil', Ir.ss_asg, Ir.ss_expr, Ir.ss_ret, Ir.ss_unp, Ir.ss_ite, Ir.ss_setI, Ir.ss_for, Ir.finA_p, Ir.strD_str, Ir.ofD_tup, Ir.dicAt_eq, Ir.lstAt_eq, Ir.dget3_str, Ir.dixD_int, Ir.srcLst_eq, Ir.ofD_ref, Ir.tupD_ref, Ir.lenD_ref, Ir.lenD_tup, Ir.getI_ref, Ir.lsA_lst, Ir.ifA_t, Ir.appD_eq, Ir.extD_eq, Ir.catD_eq, Ir.rb_p, decide_true, decide_false, Bool.true_and, Bool.and_true, Ir.atA_no, Ir.atA_go, Ir.contA_next, Ir.contA_ret, Ir.size_fix, Ir.size_dyn, Ir.at_fix, Ir.at_dyn, Ir.turn_one, List.length_map, List.getElem?_nil, Ir.tgt, Ir.setAll, Bool.false_eq_true, List.set_nil, List.getElem?_cons_zero, List.getElem?_cons_succ, List.set_cons_zero, List.set_cons_succ, List.map_cons, List.map_nil, List.length_cons, List.length_nil, List.replicate_succ, List.replicate_zero, List.cons_append, List.nil_append, Option.map_some, Option.bind_some, Ir.app_get, Ir.app_get0, Ir.app_set, Ir.app_set0, Ir.app_take, Ir.app_one, Ir.len_app, Nat.reduceAdd, Nat.reduceSub, Nat.reduceLeDiff, if_true, if_false, e1, a1, g0, pb, f1, z3, p3]
  · rw [List.append_assoc] at I4
    exact dInv_mono (dInv_take I4) (by simp; omega)
end Ir.K04
set_option Elab.async false
set_option linter.all false
set_option maxRecDepth 100000
set_option maxHeartbeats 4000001
namespace Ir
open PySem
theorem dyn_at {S : Sto} {j : Nat} {ds : List D} (h : S[j]? = some (.lst ds)) (i : Nat) : (Src.dyn j).at i S = some ds[i]? := by
  rw [at_dyn, h]
theorem lc_dyn {ds : List D} {body : D → M D} {f : D → D} {S : Sto} {j : Nat} (hj : S[j]? = some (.lst ds)) (h : ∀ d ∈ ds, body d S = .val (f d) S) : ∀ (n i : Nat) (acc : List D), i + n = ds.length → lcGo (.dyn j) body n i acc S = .val (acc ++ (ds.drop i).map f) S
  | 0, i, acc, e => by
    have e : i = ds.length := by omega
    subst e
    show (match (Src.dyn j).at ds.length S with | some none => Out.val acc S | _ => .bad) = _
    rw [dyn_at hj]
    simp
  | n + 1, i, acc, e => by
    have hi : i < ds.length := by omega
    have ea : (Src.dyn j).at i S = some (some ds[i]) := by rw [dyn_at hj, List.getElem?_eq_getElem hi]
    show (match (Src.dyn j).at i S with
      | some none => Out.val acc S
      | some (some d) => M.bind (body d) (fun e => lcGo (.dyn j) body n (i + 1) (acc ++ [e])) S
      | none => .bad) = _
    rw [ea]
    show M.bind (body ds[i]) _ S = _
    rw [bind_at, h _ (List.getElem_mem hi)]
    show lcGo (.dyn j) body n (i + 1) (acc ++ [f ds[i]]) S = _
    rw [lc_dyn hj h n (i + 1) _ (by omega), List.drop_eq_getElem_cons hi, List.append_assoc]
    rfl
theorem l_lc_dyn {cal : Nat → List D → M D} {it : Wi} {tg : List Nat} {one : Bool} {elt : E} {ρ : Sl} {S S1 : Sto} {ds : List D} {f : D → D} {j : Nat} (hi : evI cal it ρ S = .val (.dyn j) S1) (hj : S1[j]? = some (.lst ds)) (hl : ds.length ≤ 100000)
    (h : ∀ d ∈ ds, ∃ ρ', tgt tg one d (wipeD ρ tg) = some ρ' ∧ evE cal elt ρ' S1 = .val (f d) S1) : evL cal (.lc it tg one elt) ρ S = .val (ds.map f) S1 := by
  refine (show _ = (evI cal it ρ S).then (fun src S1 => match src.size S1 with
    | some n => if n ≤ 100000 then lcGo src (fun d => M.calm (match tgt tg one d (wipeD ρ tg) with
        | some ρ' => evE cal elt ρ'
        | none => M.bad)) n 0 [] S1 else .bad
    | none => .bad) from rfl).trans ?_
  rw [hi]
  show (match (Src.dyn j).size S1 with
    | some n => if n ≤ 100000 then lcGo (.dyn j) _ n 0 [] S1 else .bad
    | none => .bad) = _
  rw [size_dyn, hj]
  show (if ds.length ≤ 100000 then lcGo (.dyn j) _ ds.length 0 [] S1 else .bad) = _
  rw [if_pos hl, lc_dyn (f := f) hj (fun d hd => calm_val (by
    obtain ⟨ρ', e1, e2⟩ := h d hd
    rw [e1]; exact e2)) _ 0 [] (by omega)]
  simp
theorem lcf_dyn {ds : List D} {body : D → M (Option D)} {g : D → Option D} {S : Sto} {j : Nat} (hj : S[j]? = some (.lst ds)) (h : ∀ d ∈ ds, body d S = .val (g d) S) : ∀ (n i : Nat) (acc : List D), i + n = ds.length → lcGoF (.dyn j) body n i acc S = .val (acc ++ (ds.drop i).filterMap g) S
  | 0, i, acc, e => by
    have e : i = ds.length := by omega
    subst e
    show (match (Src.dyn j).at ds.length S with | some none => Out.val acc S | _ => .bad) = _
    rw [dyn_at hj]
    simp
  | n + 1, i, acc, e => by
    have hi : i < ds.length := by omega
    have ea : (Src.dyn j).at i S = some (some ds[i]) := by rw [dyn_at hj, List.getElem?_eq_getElem hi]
    show (match (Src.dyn j).at i S with
      | some none => Out.val acc S
      | some (some d) => M.bind (body d) (fun e => lcGoF (.dyn j) body n (i + 1) (match e with | some e => acc ++ [e] | none => acc)) S
      | none => .bad) = _
    rw [ea]
    show M.bind (body ds[i]) _ S = _
    rw [bind_at, h _ (List.getElem_mem hi)]
    show lcGoF (.dyn j) body n (i + 1) (match g ds[i] with | some e => acc ++ [e] | none => acc) S = _
    rw [lcf_dyn hj h n (i + 1) _ (by omega), List.drop_eq_getElem_cons hi, List.filterMap_cons]
    cases q : g ds[i] with
    | none => rfl
    | some e => exact congrArg (Out.val · S) (List.append_assoc ..)
theorem l_lcf_dyn {cal : Nat → List D → M D} {it : Wi} {tg : List Nat} {one : Bool} {c elt : E} {ρ : Sl} {S S1 : Sto} {ds : List D} {g : D → Option D} {j : Nat} (hi : evI cal it ρ S = .val (.dyn j) S1) (hj : S1[j]? = some (.lst ds)) (hl : ds.length ≤ 100000)
    (h : ∀ d ∈ ds, ∃ ρ' b, tgt tg one d (wipeD ρ tg) = some ρ' ∧ evE cal c ρ' S1 = .val (.p (.bool b)) S1 ∧ (if b = true then ∃ z, g d = some z ∧ evE cal elt ρ' S1 = .val z S1 else g d = none)) : evL cal (.lcf it tg one c elt) ρ S = .val (ds.filterMap g) S1 := by
  refine (show _ = (evI cal it ρ S).then (fun src S1 => match src.size S1 with
    | some n => if n ≤ 100000 then lcGoF src (fun d => M.calm (match tgt tg one d (wipeD ρ tg) with
        | some ρ' => M.bind (evE cal c ρ') fun x => M.bind (M.opt (asBool x)) fun k => if k = true then M.bind (evE cal elt ρ') fun z => M.pure (some z) else M.pure none
        | none => M.bad)) n 0 [] S1 else .bad
    | none => .bad) from rfl).trans ?_
  rw [hi]
  show (match (Src.dyn j).size S1 with
    | some n => if n ≤ 100000 then lcGoF (.dyn j) _ n 0 [] S1 else .bad
    | none => .bad) = _
  rw [size_dyn, hj]
  show (if ds.length ≤ 100000 then lcGoF (.dyn j) _ ds.length 0 [] S1 else .bad) = _
  rw [if_pos hl, lcf_dyn (g := g) hj (fun d hd => calm_val (by
    obtain ⟨ρ', b, e1, e2, e3⟩ := h d hd
    rw [e1]
    show M.bind (evE cal c ρ') _ S1 = _
    rw [bind_at, e2]
    cases b with
    | true =>
      obtain ⟨z, e4, e5⟩ := e3
      rw [e4]
      show M.bind (evE cal elt ρ') _ S1 = _
      rw [bind_at, e5]
      rfl
    | false =>
      have e3 : g d = none := e3
      rw [e3]
      rfl)) _ 0 [] (by omega)]
  simp
/-- a loop over a list of the store, whose turns leave that list as it is -/
theorem for_dyn {okS : Ctl × Sl → Sto → Prop} {ds : List D} {j : Nat} {body : D → Sl → M (Ctl × Sl)} (I : Nat → Sl → Sto → Prop) (hj : ∀ i ρ S, I i ρ S → S[j]? = some (.lst ds)) (done : ∀ ρ S, I ds.length ρ S → okS (.next, ρ) S)
    (step : ∀ i d ρ S, ds[i]? = some d → I i ρ S → ∃ ρ' S', body d ρ S = .val (.next, ρ') S' ∧ I (i + 1) ρ' S') : ∀ (n i : Nat) (ρ : Sl) (S : Sto), i + n = ds.length → I i ρ S → ∃ ρ' S', forGo (.dyn j) body n i ρ S = .val (.next, ρ') S' ∧ okS (.next, ρ') S'
  | 0, i, ρ, S, h, hI => by
    have e : i = ds.length := by omega
    subst e
    exact ⟨ρ, S, for_no (by rw [dyn_at (hj _ _ _ hI)]; simp), done _ _ hI⟩
  | n + 1, i, ρ, S, h, hI => by
    have hi : i < ds.length := by omega
    obtain ⟨ρ1, S1, e1, I1⟩ := step i ds[i] ρ S (List.getElem?_eq_getElem hi) hI
    obtain ⟨ρ2, S2, e2, o2⟩ := for_dyn I hj done step n (i + 1) ρ1 S1 (by omega) I1
    refine ⟨ρ2, S2, ?_, o2⟩
    rw [for_more (d := ds[i]) (by rw [dyn_at (hj _ _ _ hI), List.getElem?_eq_getElem hi]), e1]
    exact e2
theorem for_fixI {okS : Ctl × Sl → Sto → Prop} {ds : List D} {body : D → Sl → M (Ctl × Sl)} (I : Nat → Sl → Sto → Prop) (done : ∀ ρ S, I ds.length ρ S → okS (.next, ρ) S)
    (step : ∀ i d ρ S, ds[i]? = some d → I i ρ S → ∃ ρ' S', body d ρ S = .val (.next, ρ') S' ∧ I (i + 1) ρ' S') : ∀ (n i : Nat) (ρ : Sl) (S : Sto), i + n = ds.length → I i ρ S → ∃ ρ' S', forGo (.fix ds) body n i ρ S = .val (.next, ρ') S' ∧ okS (.next, ρ') S'
  | 0, i, ρ, S, h, hI => by
    have e : i = ds.length := by omega
    subst e
    exact ⟨ρ, S, for_no (by simp [Src.at]), done _ _ hI⟩
  | n + 1, i, ρ, S, h, hI => by
    have hi : i < ds.length := by omega
    obtain ⟨ρ1, S1, e1, I1⟩ := step i ds[i] ρ S (List.getElem?_eq_getElem hi) hI
    obtain ⟨ρ2, S2, e2, o2⟩ := for_fixI I done step n (i + 1) ρ1 S1 (by omega) I1
    refine ⟨ρ2, S2, ?_, o2⟩
    rw [for_more (d := ds[i]) (by simp [Src.at, List.getElem?_eq_getElem hi]), e1]
    exact e2
end Ir
set_option Elab.async false
set_option linter.all false
set_option maxRecDepth 100000
set_option maxHeartbeats 4000001
namespace Ir.K04
open PySem
theorem c16 (k : Nat) : calK fs (k + 1) 16 = callF (calK fs k) ⟨4, 16, b16⟩ := rfl
abbrev enD : Int × Int → D := fun e => .p (enPy e)
abbrev ctD : Ct → D := fun c => .p c.py
/-- a way's slots -/
def slY (nm : Str) (jk : Nat) (s many five : Int) (e6 x7 k8 r9 o10 c11 x12 x13 x14 x15 : Option D) : Sl :=
  [some (.ref 1), some (.p (.str nm)), some (.ref (jk + 2)), some (.p (.int s)), some (.p (.int many)), some (.p (.int five)), e6, x7, k8, r9, o10, c11, x12, x13, x14, x15]
def bodyE : Ss := (.cons (.ite (.cmp .eq (.call 8 (.cons (.var 0) (.cons (.var 5) .nil))) (.cst (.p (.int 0)))) (.cons (.expr (.append (.var 6) (.tup (.cons (.var 7) (.cons (.idxL (.disp (.cons (.cst (.p (.int 0))) (.cons (.cst (.p (.int 1))) (.cons (.cst (.p (.int 1))) (.cons (.cst (.p (.int 8))) (.cons (.call 8 (.cons (.var 0) (.cons (.cst (.p (.int 9))) .nil))) .nil)))))) (.call 8 (.cons (.var 0) (.cons (.cst (.p (.int 5))) .nil)))) .nil)))))
    .nil) .nil)
    .nil)
theorem ents_ok (k : Nat) {R S : Sto} {N : Int} (hI : dInv N (R ++ [.lst []]) S) (hN : N ≤ 4000000) (nm : Str) (jk : Nat) (s : Int) (many : Nat) (hm : many ≤ 40) (five : Int) (h5 : 0 < five ∧ five ≤ 10) :
    ∃ (ens : List (Int × Int)) (x7 : Option D) (S' : Sto), forGo (.fix ((List.range many).map fun (i : Nat) => D.p (.int (i : Int)))) (turn (calK fs (k + 1)) [7] true bodyE) many 0 (slY nm jk s many five (some (.ref (R.length + 2))) none none none none none none none none none) S =
        .val (.next, slY nm jk s many five (some (.ref (R.length + 2))) x7 none none none none none none none none) S' ∧
      ens.length ≤ many ∧ (∀ e ∈ ens, 0 ≤ e.1 ∧ e.1 ≤ 40 ∧ 0 ≤ e.2 ∧ e.2 ≤ 9) ∧ dInv (N + 200) (R ++ [.lst (ens.map enD)]) S' := by
  obtain ⟨ρ', S', e1, ens, x7, e2, e3, e4, e5⟩ := for_fixI (ds := (List.range many).map fun (i : Nat) => D.p (.int (i : Int))) (body := turn (calK fs (k + 1)) [7] true bodyE)
    (okS := fun c S' => ∃ ens x7, c.2 = slY nm jk s many five (some (.ref (R.length + 2))) x7 none none none none none none none none ∧ ens.length ≤ many ∧ (∀ e ∈ ens, 0 ≤ e.1 ∧ e.1 ≤ 40 ∧ 0 ≤ e.2 ∧ e.2 ≤ 9) ∧ dInv (N + 200) (R ++ [.lst (ens.map enD)]) S')
    (fun i ρ S' => ∃ ens x7, ρ = slY nm jk s many five (some (.ref (R.length + 2))) x7 none none none none none none none none ∧ ens.length ≤ i ∧ (∀ e ∈ ens, 0 ≤ e.1 ∧ e.1 ≤ 40 ∧ 0 ≤ e.2 ∧ e.2 ≤ 9) ∧ dInv (N + 3 * i) (R ++ [.lst (ens.map enD)]) S')
    (fun ρ S' ⟨ens, x7, h1, h2, h3, h4⟩ => ⟨ens, x7, h1, by simpa using h2, h3, dInv_mono h4 (by simp; omega)⟩)
    (fun i d ρ S hd ⟨ens, x7, h1, h2, h3, h4⟩ => by
      subst h1
      obtain ⟨hi, hd⟩ := List.getElem?_eq_some_iff.mp hd
      rw [List.length_map, List.length_range] at hi
      rw [List.getElem_map, List.getElem_range] at hd
      subst hd
      obtain ⟨r1, S1, d1, d2, d3, I1⟩ := draw_ok k h4 (many := five) (by omega) h5.1 (by omega)
      by_cases h0 : r1 = 0
      · have hz : decide (r1 = 0) = true := decide_eq_true h0
        obtain ⟨r2, S2, f1, f2, f3, I2⟩ := draw_ok k I1 (many := 9) (by omega) (by omega) (by omega)
        obtain ⟨r3, S3, g1, g2, g3, I3⟩ := draw_ok k I2 (many := 5) (by omega) (by omega) (by omega)
        obtain ⟨hd', p1, pm⟩ := pick ([0, 1, 1, 8, r2].map fi) g2 g3
        obtain ⟨h, hh, rfl⟩ := List.mem_map.mp pm
        simp only [List.map_cons, List.map_nil] at p1
        have hb : 0 ≤ h ∧ h ≤ 9 := by
          simp only [List.mem_cons, List.not_mem_nil, or_false] at hh
          rcases hh with rfl | rfl | rfl | rfl | rfl <;> omega
        have o5 : (5 : Nat) ≤ 100000 := by omega
        have z2 : (2 : Nat) ≤ sizeLine := by rw [sizeLine_eq]; omega
        have pl : plainOf [D.p (.int (i : Int)), .p (.int h)] = some [.int (i : Int), .int h] := rfl
        have ge : S3[R.length + 2]? = some (.lst (ens.map enD)) := by rw [dInv_get I3]; exact app_get0 ..
        have gd1 : S1[R.length + 2]? = some (.lst (ens.map enD)) := by rw [dInv_get I1]; exact app_get0 ..
        have hl : decide (ens.length < 100000) = true := decide_eq_true (by omega)
        have I4 := dInv_set I3 R.length (.lst ((ens ++ [((i : Int), h)]).map enD))
        rw [app_set0] at I4
        refine ⟨_, _, ?_, ens ++ [((i : Int), h)], some (.p (.int (i : Int))), rfl, by simp; omega, fun e he => ?_, dInv_mono I4 (by omega)⟩
        · unfold bodyE slY
          rw [List.map_append]
          simp -dsimp only [Ir.then_val, Ir.optA_some, Ir.boolA_t, Ir.boolA_f, Ir.seqA_next, Ir.seqA_ret, Ir.wp_val_, Ir.v_var, Ir.v_cst, Ir.v_bin, Ir.v_cmp, Ir.v_chain, Ir.v_and, Ir.v_or, Ir.v_not, Ir.v_ifx, Ir.v_neg, Ir.v_call, Ir.v_tup, Ir.v_lst, Ir.v_idx, Ir.v_idxL, Ir.v_slice, Ir.v_strOf, Ir.v_join, Ir.v_extend, Ir.v_append, Ir.v_len, Ir.v_isi, Ir.v_toInt, Ir.v_all, Ir.v_tupOf, Ir.v_dictOf, Ir.v_dlit, Ir.v_dget3, Ir.v_eqL, Ir.v_op1, Ir.v_op2, Ir.v_fstr, Ir.f_nil, Ir.f_cons, Ir.a_nil', Ir.a_cons', Ir.a_star', Ir.l_disp', Ir.l_of', Ir.l_cat', Ir.l_cut', Ir.b_no', Ir.b_at', Ir.i_tup', Ir.i_lst', Ir.i_str', Ir.i_rng', Ir.ss_nil', Ir.ss_asg, Ir.ss_expr, Ir.ss_ret, Ir.ss_unp, Ir.ss_ite, Ir.ss_setI, Ir.ss_for, Ir.finA_p, Ir.strD_str, Ir.ofD_tup, Ir.dicAt_eq, Ir.lstAt_eq, Ir.dget3_str, Ir.dixD_int, Ir.srcLst_eq, Ir.ofD_ref, Ir.tupD_ref, Ir.lenD_ref, Ir.lenD_tup, Ir.getI_ref, Ir.lsA_lst, Ir.ifA_t, Ir.appD_eq, Ir.extD_eq, Ir.catD_eq, Ir.rb_p, decide_true, decide_false, Bool.true_and, Bool.and_true, Ir.atA_no, Ir.atA_go, Ir.contA_next, Ir.contA_ret, Ir.size_fix, Ir.size_dyn, Ir.at_fix, Ir.at_dyn, Ir.turn_one, List.length_map, List.getElem?_nil, Ir.tgt, Ir.setAll, Bool.false_eq_true, List.set_nil, List.getElem?_cons_zero, List.getElem?_cons_succ, List.set_cons_zero, List.set_cons_succ, List.map_cons, List.map_nil, List.length_cons, List.length_nil, List.replicate_succ, List.replicate_zero, List.cons_append, List.nil_append, Option.map_some, Option.bind_some, Ir.app_get, Ir.app_get0, Ir.app_set, Ir.app_set0, Ir.app_take, Ir.app_one, Ir.len_app, Nat.reduceAdd, Nat.reduceSub, Nat.reduceLeDiff, if_true, if_false, d1, cop_eq_int, hz, f1, o5, g1, asInt, p1, z2, pl, ge, gd1, hl]
          try simp
        · rcases List.mem_append.mp he with he | he
          · exact h3 e he
          · rw [List.mem_singleton] at he; subst he; simp only; omega
      · have hz : decide (r1 = 0) = false := decide_eq_false h0
        refine ⟨_, _, ?_, ens, some (.p (.int (i : Int))), rfl, by omega, h3, dInv_mono I1 (by omega)⟩
        unfold bodyE slY
        simp -dsimp only [Ir.then_val, Ir.optA_some, Ir.boolA_t, Ir.boolA_f, Ir.seqA_next, Ir.seqA_ret, Ir.wp_val_, Ir.v_var, Ir.v_cst, Ir.v_bin, Ir.v_cmp, Ir.v_chain, Ir.v_and, Ir.v_or, Ir.v_not, Ir.v_ifx, Ir.v_neg, Ir.v_call, Ir.v_tup, Ir.v_lst, Ir.v_idx, Ir.v_idxL, Ir.v_slice, Ir.v_strOf, Ir.v_join, Ir.v_extend, Ir.v_append, Ir.v_len, Ir.v_isi, Ir.v_toInt, Ir.v_all, Ir.v_tupOf, Ir.v_dictOf, Ir.v_dlit, Ir.v_dget3, Ir.v_eqL, Ir.v_op1, Ir.v_op2, Ir.v_fstr, Ir.f_nil, Ir.f_cons, Ir.a_nil', Ir.a_cons', Ir.a_star', Ir.l_disp', Ir.l_of', Ir.l_cat', Ir.l_cut', Ir.b_no', Ir.b_at', Ir.i_tup', Ir.i_lst', Ir.i_str', Ir.i_rng', Ir.ss_nil', Ir.ss_asg, Ir.ss_expr, Ir.ss_ret, Ir.ss_unp, Ir.ss_ite, Ir.ss_setI, Ir.ss_for, Ir.finA_p, Ir.strD_str, Ir.ofD_tup, Ir.dicAt_eq, Ir.lstAt_eq, Ir.dget3_str, Ir.dixD_int, Ir.srcLst_eq, Ir.ofD_ref, Ir.tupD_ref, Ir.lenD_ref, Ir.lenD_tup, Ir.getI_ref, Ir.lsA_lst, Ir.ifA_t, Ir.appD_eq, Ir.extD_eq, Ir.catD_eq, Ir.rb_p, decide_true, decide_false, Bool.true_and, Bool.and_true, Ir.atA_no, Ir.atA_go, Ir.contA_next, Ir.contA_ret, Ir.size_fix, Ir.size_dyn, Ir.at_fix, Ir.at_dyn, Ir.turn_one, List.length_map, List.getElem?_nil, Ir.tgt, Ir.setAll, Bool.false_eq_true, List.set_nil, List.getElem?_cons_zero, List.getElem?_cons_succ, List.set_cons_zero, List.set_cons_succ, List.map_cons, List.map_nil, List.length_cons, List.length_nil, List.replicate_succ, List.replicate_zero, List.cons_append, List.nil_append, Option.map_some, Option.bind_some, Ir.app_get, Ir.app_get0, Ir.app_set, Ir.app_set0, Ir.app_take, Ir.app_one, Ir.len_app, Nat.reduceAdd, Nat.reduceSub, Nat.reduceLeDiff, if_true, if_false, d1, cop_eq_int, hz]
        try simp) many 0 _ S (by simp) ⟨[], none, rfl, by simp, (fun e he => nomatch he), by simpa using hI⟩
  exact ⟨ens, x7, S', e1.trans (congrArg (fun r => Out.val (Ctl.next, r) S') e2), e3, e4, e5⟩
end Ir.K04
set_option Elab.async false
set_option linter.all false
set_option maxRecDepth 100000
set_option maxHeartbeats 4000001
namespace Ir.K04
open PySem
def bodyC : Ss := (.cons (.asg 13 (.call 8 (.cons (.var 0) (.cons (.var 4) .nil))))
    (.cons (.asg 14 (.bin .add (.bin .add (.var 13) (.cst (.p (.int 1)))) (.call 8 (.cons (.var 0) (.cons (.bin .sub (.var 4) (.var 13)) .nil)))))
    (.cons (.expr (.append (.var 11) (.tup (.cons (.var 13) (.cons (.var 14) (.cons (.idx (.var 10) (.call 8 (.cons (.var 0) (.cons (.len (.var 10)) .nil)))) .nil))))))
    .nil)))
theorem cats_ok (k : Nat) {R S : Sto} {N : Int} {jo : Nat} {os : List Int} (ho : R[jo]? = some (.lst (os.map fi))) (hn : 0 < os.length ∧ os.length ≤ 40) (hos : ∀ o ∈ os, 0 ≤ o ∧ o ≤ 40) (hI : dInv N (R ++ [.lst []]) S) (hN : N ≤ 4000000) (nm : Str) (jk : Nat) (s : Int) (many : Nat) (hm : 0 < many ∧ many ≤ 40) (five : Int) (e6 x7 k8 r9 : Option D) (t : Nat) (ht : t ≤ 4) :
    ∃ (cs : List Ct) (ρ' : Sl) (S' : Sto), forGo (.fix ((List.range t).map fun (i : Nat) => D.p (.int (i : Int)))) (turn (calK fs (k + 1)) [12] true bodyC) t 0 (slY nm jk s many five e6 x7 k8 r9 (some (.ref (jo + 2))) (some (.ref (R.length + 2))) none none none none) S =
        .val (.next, ρ') S' ∧ (∃ x12 x13 x14, ρ' = slY nm jk s many five e6 x7 k8 r9 (some (.ref (jo + 2))) (some (.ref (R.length + 2))) x12 x13 x14 none) ∧
      cs.length ≤ t ∧ (∀ c ∈ cs, Sm c.f ∧ Sm c.t ∧ Sm c.a) ∧ dInv (N + 12) (R ++ [.lst (cs.map ctD)]) S' := by
  obtain ⟨ρ', S', e1, cs, e2, e3, e4, e5⟩ := for_fixI (ds := (List.range t).map fun (i : Nat) => D.p (.int (i : Int))) (body := turn (calK fs (k + 1)) [12] true bodyC)
    (okS := fun c S' => ∃ cs : List Ct, (∃ x12 x13 x14, c.2 = slY nm jk s many five e6 x7 k8 r9 (some (.ref (jo + 2))) (some (.ref (R.length + 2))) x12 x13 x14 none) ∧ cs.length ≤ t ∧ (∀ c ∈ cs, Sm c.f ∧ Sm c.t ∧ Sm c.a) ∧ dInv (N + 12) (R ++ [.lst (cs.map ctD)]) S')
    (fun i ρ S' => ∃ (cs : List Ct) (x12 x13 x14 : Option D), ρ = slY nm jk s many five e6 x7 k8 r9 (some (.ref (jo + 2))) (some (.ref (R.length + 2))) x12 x13 x14 none ∧ cs.length ≤ i ∧ (∀ c ∈ cs, Sm c.f ∧ Sm c.t ∧ Sm c.a) ∧ dInv (N + 3 * i) (R ++ [.lst (cs.map ctD)]) S')
    (fun ρ S' ⟨cs, x12, x13, x14, h1, h2, h3, h4⟩ => ⟨cs, ⟨x12, x13, x14, h1⟩, by simpa using h2, h3, dInv_mono h4 (by simp; omega)⟩)
    (fun i d ρ S hd ⟨cs, x12, x13, x14, h1, h2, h3, h4⟩ => by
      subst h1
      obtain ⟨hi, hd⟩ := List.getElem?_eq_some_iff.mp hd
      rw [List.length_map, List.length_range] at hi
      rw [List.getElem_map, List.getElem_range] at hd
      subst hd
      obtain ⟨r1, S1, d1, d2, d3, I1⟩ := draw_ok k h4 (many := (many : Int)) (by omega) (by omega) (by omega)
      obtain ⟨r2, S2, f1, f2, f3, I2⟩ := draw_ok k I1 (many := (many : Int) - r1) (by omega) (by omega) (by omega)
      have g2 : ∀ {S' : Sto} {M : Int}, dInv M (R ++ [.lst (cs.map ctD)]) S' → S'[jo + 2]? = some (.lst (os.map fi)) := fun q => by rw [dInv_get q]; exact get_app _ ho
      have gc : ∀ {S' : Sto} {M : Int}, dInv M (R ++ [.lst (cs.map ctD)]) S' → S'[R.length + 2]? = some (.lst (cs.map ctD)) := fun q => by rw [dInv_get q]; exact app_get0 ..
      obtain ⟨r3, S3, g1, g2', g3, I3⟩ := draw_ok k I2 (many := (os.length : Int)) (by omega) (by omega) (by omega)
      obtain ⟨hd', p1, pm⟩ := pick (os.map fi) g2' (by rw [List.length_map]; exact g3)
      obtain ⟨o, ho', rfl⟩ := List.mem_map.mp pm
      have hb := hos o ho'
      have z3 : (3 : Nat) ≤ sizeLine := by rw [sizeLine_eq]; omega
      have pl : plainOf [D.p (.int r1), .p (.int (r1 + 1 + r2)), .p (.int o)] = some [.int r1, .int (r1 + 1 + r2), .int o] := rfl
      have hl : decide (cs.length < 100000) = true := decide_eq_true (by omega)
      have I4 := dInv_set I3 R.length (.lst ((cs ++ [(⟨r1, r1 + 1 + r2, o⟩ : Ct)]).map ctD))
      rw [app_set0] at I4
      refine ⟨_, _, ?_, cs ++ [(⟨r1, r1 + 1 + r2, o⟩ : Ct)], some (.p (.int (i : Int))), some (.p (.int r1)), some (.p (.int (r1 + 1 + r2))), rfl, by simp; omega, fun e he => ?_, dInv_mono I4 (by omega)⟩
      · unfold bodyC slY
        rw [List.map_append]
        simp -dsimp only [Ir.then_val, Ir.optA_some, Ir.boolA_t, Ir.boolA_f, Ir.seqA_next, Ir.seqA_ret, Ir.wp_val_, Ir.v_var, Ir.v_cst, Ir.v_bin, Ir.v_cmp, Ir.v_chain, Ir.v_and, Ir.v_or, Ir.v_not, Ir.v_ifx, Ir.v_neg, Ir.v_call, Ir.v_tup, Ir.v_lst, Ir.v_idx, Ir.v_idxL, Ir.v_slice, Ir.v_strOf, Ir.v_join, Ir.v_extend, Ir.v_append, Ir.v_len, Ir.v_isi, Ir.v_toInt, Ir.v_all, Ir.v_tupOf, Ir.v_dictOf, Ir.v_dlit, Ir.v_dget3, Ir.v_eqL, Ir.v_op1, Ir.v_op2, Ir.v_fstr, Ir.f_nil, Ir.f_cons, Ir.a_nil', Ir.a_cons', Ir.a_star', Ir.l_disp', Ir.l_of', Ir.l_cat', Ir.l_cut', Ir.b_no', Ir.b_at', Ir.i_tup', Ir.i_lst', Ir.i_str', Ir.i_rng', Ir.ss_nil', Ir.ss_asg, Ir.ss_expr, Ir.ss_ret, Ir.ss_unp, Ir.ss_ite, Ir.ss_setI, Ir.ss_for, Ir.finA_p, Ir.strD_str, Ir.ofD_tup, Ir.dicAt_eq, Ir.lstAt_eq, Ir.dget3_str, Ir.dixD_int, Ir.srcLst_eq, Ir.ofD_ref, Ir.tupD_ref, Ir.lenD_ref, Ir.lenD_tup, Ir.getI_ref, Ir.lsA_lst, Ir.ifA_t, Ir.appD_eq, Ir.extD_eq, Ir.catD_eq, Ir.rb_p, decide_true, decide_false, Bool.true_and, Bool.and_true, Ir.atA_no, Ir.atA_go, Ir.contA_next, Ir.contA_ret, Ir.size_fix, Ir.size_dyn, Ir.at_fix, Ir.at_dyn, Ir.turn_one, List.length_map, List.getElem?_nil, Ir.tgt, Ir.setAll, Bool.false_eq_true, List.set_nil, List.getElem?_cons_zero, List.getElem?_cons_succ, List.set_cons_zero, List.set_cons_succ, List.map_cons, List.map_nil, List.length_cons, List.length_nil, List.replicate_succ, List.replicate_zero, List.cons_append, List.nil_append, Option.map_some, Option.bind_some, Ir.app_get, Ir.app_get0, Ir.app_set, Ir.app_set0, Ir.app_take, Ir.app_one, Ir.len_app, Nat.reduceAdd, Nat.reduceSub, Nat.reduceLeDiff, if_true, if_false, d1, bop_add, bop_sub, f1, g2 I2, g2 I3, gc I2, g1, p1, z3, pl, gc I3, hl]
        try simp
      · rcases List.mem_append.mp he with he | he
        · exact h3 e he
        · rw [List.mem_singleton] at he; subst he
          exact ⟨sm_of (by simp only; omega) (by simp only; omega), sm_of (by simp only; omega) (by simp only; omega), sm_of (by simp only; omega) (by simp only; omega)⟩) t 0 _ S (by simp) ⟨[], none, none, none, rfl, by simp, (fun e he => nomatch he), by simpa using hI⟩
  exact ⟨cs, ρ', S', e1, e2, e3, e4, e5⟩
end Ir.K04
set_option Elab.async false
set_option linter.all false
set_option maxRecDepth 100000
set_option maxHeartbeats 4000001
namespace Ir.K04
open PySem
def lcK : L := .lc (.lst (.var 6)) [7, 15] false (.var 7)
def lcRw : L := .lc (.rng (.var 4)) [7] true (.call 14 (.cons (.var 0) (.cons (.var 8) (.cons (.var 2) .nil))))
def lcO : L := .lcf (.lst (.var 6)) [7, 15] false (.cmp .eq (.var 15) (.cst (.p (.int 1)))) (.var 7)
theorem known_ok (cal : Nat → List D → M D) {S : Sto} {j : Nat} {ens : List (Int × Int)} (hj : S[j]? = some (.lst (ens.map enD))) (hl : ens.length ≤ 40) (nm : Str) (jk : Nat) (s many five : Int) (x7 k8 r9 o10 c11 x12 x13 x14 x15 : Option D) :
    evL cal lcK (slY nm jk s many five (some (.ref j)) x7 k8 r9 o10 c11 x12 x13 x14 x15) S = .val ((ens.map (·.1)).map fi) S := by
  have e0 : (ens.map (·.1)).map fi = (ens.map enD).map fun d => match d with | .p (.tuple (.int i :: _)) => fi i | x => x := by
    rw [List.map_map, List.map_map]; rfl
  rw [e0]
  refine l_lc_dyn (j := j) ?_ hj (by simp; omega) fun d hd => ?_
  · unfold slY; simp -dsimp only [Ir.then_val, Ir.optA_some, Ir.boolA_t, Ir.boolA_f, Ir.seqA_next, Ir.seqA_ret, Ir.wp_val_, Ir.v_var, Ir.v_cst, Ir.v_bin, Ir.v_cmp, Ir.v_chain, Ir.v_and, Ir.v_or, Ir.v_not, Ir.v_ifx, Ir.v_neg, Ir.v_call, Ir.v_tup, Ir.v_lst, Ir.v_idx, Ir.v_idxL, Ir.v_slice, Ir.v_strOf, Ir.v_join, Ir.v_extend, Ir.v_append, Ir.v_len, Ir.v_isi, Ir.v_toInt, Ir.v_all, Ir.v_tupOf, Ir.v_dictOf, Ir.v_dlit, Ir.v_dget3, Ir.v_eqL, Ir.v_op1, Ir.v_op2, Ir.v_fstr, Ir.f_nil, Ir.f_cons, Ir.a_nil', Ir.a_cons', Ir.a_star', Ir.l_disp', Ir.l_of', Ir.l_cat', Ir.l_cut', Ir.b_no', Ir.b_at', Ir.i_tup', Ir.i_lst', Ir.i_str', Ir.i_rng', Ir.ss_nil', Ir.ss_asg, Ir.ss_expr, Ir.ss_ret, Ir.ss_unp, Ir.ss_ite, Ir.ss_setI, Ir.ss_for, Ir.finA_p, Ir.strD_str, Ir.ofD_tup, Ir.dicAt_eq, Ir.lstAt_eq, Ir.dget3_str, Ir.dixD_int, Ir.srcLst_eq, Ir.ofD_ref, Ir.tupD_ref, Ir.lenD_ref, Ir.lenD_tup, Ir.getI_ref, Ir.lsA_lst, Ir.ifA_t, Ir.appD_eq, Ir.extD_eq, Ir.catD_eq, Ir.rb_p, decide_true, decide_false, Bool.true_and, Bool.and_true, Ir.atA_no, Ir.atA_go, Ir.contA_next, Ir.contA_ret, Ir.size_fix, Ir.size_dyn, Ir.at_fix, Ir.at_dyn, Ir.turn_one, List.length_map, List.getElem?_nil, Ir.tgt, Ir.setAll, Bool.false_eq_true, List.set_nil, List.getElem?_cons_zero, List.getElem?_cons_succ, List.set_cons_zero, List.set_cons_succ, List.map_cons, List.map_nil, List.length_cons, List.length_nil, List.replicate_succ, List.replicate_zero, List.cons_append, List.nil_append, Option.map_some, Option.bind_some, Ir.app_get, Ir.app_get0, Ir.app_set, Ir.app_set0, Ir.app_take, Ir.app_one, Ir.len_app, Nat.reduceAdd, Nat.reduceSub, Nat.reduceLeDiff, if_true, if_false, hj]
  · obtain ⟨e, _, rfl⟩ := List.mem_map.mp hd
    refine ⟨_, rfl, ?_⟩
    unfold slY
    simp -dsimp only [Ir.then_val, Ir.optA_some, Ir.boolA_t, Ir.boolA_f, Ir.seqA_next, Ir.seqA_ret, Ir.wp_val_, Ir.v_var, Ir.v_cst, Ir.v_bin, Ir.v_cmp, Ir.v_chain, Ir.v_and, Ir.v_or, Ir.v_not, Ir.v_ifx, Ir.v_neg, Ir.v_call, Ir.v_tup, Ir.v_lst, Ir.v_idx, Ir.v_idxL, Ir.v_slice, Ir.v_strOf, Ir.v_join, Ir.v_extend, Ir.v_append, Ir.v_len, Ir.v_isi, Ir.v_toInt, Ir.v_all, Ir.v_tupOf, Ir.v_dictOf, Ir.v_dlit, Ir.v_dget3, Ir.v_eqL, Ir.v_op1, Ir.v_op2, Ir.v_fstr, Ir.f_nil, Ir.f_cons, Ir.a_nil', Ir.a_cons', Ir.a_star', Ir.l_disp', Ir.l_of', Ir.l_cat', Ir.l_cut', Ir.b_no', Ir.b_at', Ir.i_tup', Ir.i_lst', Ir.i_str', Ir.i_rng', Ir.ss_nil', Ir.ss_asg, Ir.ss_expr, Ir.ss_ret, Ir.ss_unp, Ir.ss_ite, Ir.ss_setI, Ir.ss_for, Ir.finA_p, Ir.strD_str, Ir.ofD_tup, Ir.dicAt_eq, Ir.lstAt_eq, Ir.dget3_str, Ir.dixD_int, Ir.srcLst_eq, Ir.ofD_ref, Ir.tupD_ref, Ir.lenD_ref, Ir.lenD_tup, Ir.getI_ref, Ir.lsA_lst, Ir.ifA_t, Ir.appD_eq, Ir.extD_eq, Ir.catD_eq, Ir.rb_p, decide_true, decide_false, Bool.true_and, Bool.and_true, Ir.atA_no, Ir.atA_go, Ir.contA_next, Ir.contA_ret, Ir.size_fix, Ir.size_dyn, Ir.at_fix, Ir.at_dyn, Ir.turn_one, List.length_map, List.getElem?_nil, Ir.tgt, Ir.setAll, Bool.false_eq_true, List.set_nil, List.getElem?_cons_zero, List.getElem?_cons_succ, List.set_cons_zero, List.set_cons_succ, List.map_cons, List.map_nil, List.length_cons, List.length_nil, List.replicate_succ, List.replicate_zero, List.cons_append, List.nil_append, Option.map_some, Option.bind_some, Ir.app_get, Ir.app_get0, Ir.app_set, Ir.app_set0, Ir.app_take, Ir.app_one, Ir.len_app, Nat.reduceAdd, Nat.reduceSub, Nat.reduceLeDiff, if_true, if_false, wipeD]
theorem ones_map : ∀ ens : List (Int × Int), ((ens.filter fun e => decide (e.2 = 1)).map (·.1)).map fi = (ens.map enD).filterMap fun d => match d with | .p (.tuple [.int i, .int h]) => if h = 1 then some (fi i) else none | x => none
  | [] => rfl
  | e :: es => by
    rw [List.map_cons, List.filterMap_cons, ← ones_map es]
    rw [List.filter_cons]
    by_cases h : e.2 = 1
    · simp only [enD, enPy, h, decide_true, if_true, List.map_cons]
    · simp only [enD, enPy, h, decide_false, Bool.false_eq_true, if_false]
theorem ones_ok (cal : Nat → List D → M D) {S : Sto} {j : Nat} {ens : List (Int × Int)} (hj : S[j]? = some (.lst (ens.map enD))) (hl : ens.length ≤ 40) (nm : Str) (jk : Nat) (s many five : Int) (x7 k8 r9 o10 c11 x12 x13 x14 x15 : Option D) :
    evL cal lcO (slY nm jk s many five (some (.ref j)) x7 k8 r9 o10 c11 x12 x13 x14 x15) S = .val (((ens.filter fun e => decide (e.2 = 1)).map (·.1)).map fi) S := by
  have e0 : ((ens.filter fun e => decide (e.2 = 1)).map (·.1)).map fi = (ens.map enD).filterMap fun d => match d with | .p (.tuple [.int i, .int h]) => if h = 1 then some (fi i) else none | x => none := ones_map ens
  rw [e0]
  refine l_lcf_dyn (j := j) ?_ hj (by simp; omega) fun d hd => ?_
  · unfold slY; simp -dsimp only [Ir.then_val, Ir.optA_some, Ir.boolA_t, Ir.boolA_f, Ir.seqA_next, Ir.seqA_ret, Ir.wp_val_, Ir.v_var, Ir.v_cst, Ir.v_bin, Ir.v_cmp, Ir.v_chain, Ir.v_and, Ir.v_or, Ir.v_not, Ir.v_ifx, Ir.v_neg, Ir.v_call, Ir.v_tup, Ir.v_lst, Ir.v_idx, Ir.v_idxL, Ir.v_slice, Ir.v_strOf, Ir.v_join, Ir.v_extend, Ir.v_append, Ir.v_len, Ir.v_isi, Ir.v_toInt, Ir.v_all, Ir.v_tupOf, Ir.v_dictOf, Ir.v_dlit, Ir.v_dget3, Ir.v_eqL, Ir.v_op1, Ir.v_op2, Ir.v_fstr, Ir.f_nil, Ir.f_cons, Ir.a_nil', Ir.a_cons', Ir.a_star', Ir.l_disp', Ir.l_of', Ir.l_cat', Ir.l_cut', Ir.b_no', Ir.b_at', Ir.i_tup', Ir.i_lst', Ir.i_str', Ir.i_rng', Ir.ss_nil', Ir.ss_asg, Ir.ss_expr, Ir.ss_ret, Ir.ss_unp, Ir.ss_ite, Ir.ss_setI, Ir.ss_for, Ir.finA_p, Ir.strD_str, Ir.ofD_tup, Ir.dicAt_eq, Ir.lstAt_eq, Ir.dget3_str, Ir.dixD_int, Ir.srcLst_eq, Ir.ofD_ref, Ir.tupD_ref, Ir.lenD_ref, Ir.lenD_tup, Ir.getI_ref, Ir.lsA_lst, Ir.ifA_t, Ir.appD_eq, Ir.extD_eq, Ir.catD_eq, Ir.rb_p, decide_true, decide_false, Bool.true_and, Bool.and_true, Ir.atA_no, Ir.atA_go, Ir.contA_next, Ir.contA_ret, Ir.size_fix, Ir.size_dyn, Ir.at_fix, Ir.at_dyn, Ir.turn_one, List.length_map, List.getElem?_nil, Ir.tgt, Ir.setAll, Bool.false_eq_true, List.set_nil, List.getElem?_cons_zero, List.getElem?_cons_succ, List.set_cons_zero, List.set_cons_succ, List.map_cons, List.map_nil, List.length_cons, List.length_nil, List.replicate_succ, List.replicate_zero, List.cons_append, List.nil_append, Option.map_some, Option.bind_some, Ir.app_get, Ir.app_get0, Ir.app_set, Ir.app_set0, Ir.app_take, Ir.app_one, Ir.len_app, Nat.reduceAdd, Nat.reduceSub, Nat.reduceLeDiff, if_true, if_false, hj]
  · obtain ⟨e, _, rfl⟩ := List.mem_map.mp hd
    refine ⟨_, decide (e.2 = 1), rfl, ?_, ?_⟩
    · unfold slY
      simp -dsimp only [Ir.then_val, Ir.optA_some, Ir.boolA_t, Ir.boolA_f, Ir.seqA_next, Ir.seqA_ret, Ir.wp_val_, Ir.v_var, Ir.v_cst, Ir.v_bin, Ir.v_cmp, Ir.v_chain, Ir.v_and, Ir.v_or, Ir.v_not, Ir.v_ifx, Ir.v_neg, Ir.v_call, Ir.v_tup, Ir.v_lst, Ir.v_idx, Ir.v_idxL, Ir.v_slice, Ir.v_strOf, Ir.v_join, Ir.v_extend, Ir.v_append, Ir.v_len, Ir.v_isi, Ir.v_toInt, Ir.v_all, Ir.v_tupOf, Ir.v_dictOf, Ir.v_dlit, Ir.v_dget3, Ir.v_eqL, Ir.v_op1, Ir.v_op2, Ir.v_fstr, Ir.f_nil, Ir.f_cons, Ir.a_nil', Ir.a_cons', Ir.a_star', Ir.l_disp', Ir.l_of', Ir.l_cat', Ir.l_cut', Ir.b_no', Ir.b_at', Ir.i_tup', Ir.i_lst', Ir.i_str', Ir.i_rng', Ir.ss_nil', Ir.ss_asg, Ir.ss_expr, Ir.ss_ret, Ir.ss_unp, Ir.ss_ite, Ir.ss_setI, Ir.ss_for, Ir.finA_p, Ir.strD_str, Ir.ofD_tup, Ir.dicAt_eq, Ir.lstAt_eq, Ir.dget3_str, Ir.dixD_int, Ir.srcLst_eq, Ir.ofD_ref, Ir.tupD_ref, Ir.lenD_ref, Ir.lenD_tup, Ir.getI_ref, Ir.lsA_lst, Ir.ifA_t, Ir.appD_eq, Ir.extD_eq, Ir.catD_eq, Ir.rb_p, decide_true, decide_false, Bool.true_and, Bool.and_true, Ir.atA_no, Ir.atA_go, Ir.contA_next, Ir.contA_ret, Ir.size_fix, Ir.size_dyn, Ir.at_fix, Ir.at_dyn, Ir.turn_one, List.length_map, List.getElem?_nil, Ir.tgt, Ir.setAll, Bool.false_eq_true, List.set_nil, List.getElem?_cons_zero, List.getElem?_cons_succ, List.set_cons_zero, List.set_cons_succ, List.map_cons, List.map_nil, List.length_cons, List.length_nil, List.replicate_succ, List.replicate_zero, List.cons_append, List.nil_append, Option.map_some, Option.bind_some, Ir.app_get, Ir.app_get0, Ir.app_set, Ir.app_set0, Ir.app_take, Ir.app_one, Ir.len_app, Nat.reduceAdd, Nat.reduceSub, Nat.reduceLeDiff, if_true, if_false, wipeD, cop_eq_int]
    · by_cases h : e.2 = 1
      · rw [if_pos (decide_eq_true h)]
        refine ⟨fi e.1, by simp only [enD, enPy]; rw [if_pos h], ?_⟩
        unfold slY
        simp -dsimp only [Ir.then_val, Ir.optA_some, Ir.boolA_t, Ir.boolA_f, Ir.seqA_next, Ir.seqA_ret, Ir.wp_val_, Ir.v_var, Ir.v_cst, Ir.v_bin, Ir.v_cmp, Ir.v_chain, Ir.v_and, Ir.v_or, Ir.v_not, Ir.v_ifx, Ir.v_neg, Ir.v_call, Ir.v_tup, Ir.v_lst, Ir.v_idx, Ir.v_idxL, Ir.v_slice, Ir.v_strOf, Ir.v_join, Ir.v_extend, Ir.v_append, Ir.v_len, Ir.v_isi, Ir.v_toInt, Ir.v_all, Ir.v_tupOf, Ir.v_dictOf, Ir.v_dlit, Ir.v_dget3, Ir.v_eqL, Ir.v_op1, Ir.v_op2, Ir.v_fstr, Ir.f_nil, Ir.f_cons, Ir.a_nil', Ir.a_cons', Ir.a_star', Ir.l_disp', Ir.l_of', Ir.l_cat', Ir.l_cut', Ir.b_no', Ir.b_at', Ir.i_tup', Ir.i_lst', Ir.i_str', Ir.i_rng', Ir.ss_nil', Ir.ss_asg, Ir.ss_expr, Ir.ss_ret, Ir.ss_unp, Ir.ss_ite, Ir.ss_setI, Ir.ss_for, Ir.finA_p, Ir.strD_str, Ir.ofD_tup, Ir.dicAt_eq, Ir.lstAt_eq, Ir.dget3_str, Ir.dixD_int, Ir.srcLst_eq, Ir.ofD_ref, Ir.tupD_ref, Ir.lenD_ref, Ir.lenD_tup, Ir.getI_ref, Ir.lsA_lst, Ir.ifA_t, Ir.appD_eq, Ir.extD_eq, Ir.catD_eq, Ir.rb_p, decide_true, decide_false, Bool.true_and, Bool.and_true, Ir.atA_no, Ir.atA_go, Ir.contA_next, Ir.contA_ret, Ir.size_fix, Ir.size_dyn, Ir.at_fix, Ir.at_dyn, Ir.turn_one, List.length_map, List.getElem?_nil, Ir.tgt, Ir.setAll, Bool.false_eq_true, List.set_nil, List.getElem?_cons_zero, List.getElem?_cons_succ, List.set_cons_zero, List.set_cons_succ, List.map_cons, List.map_nil, List.length_cons, List.length_nil, List.replicate_succ, List.replicate_zero, List.cons_append, List.nil_append, Option.map_some, Option.bind_some, Ir.app_get, Ir.app_get0, Ir.app_set, Ir.app_set0, Ir.app_take, Ir.app_one, Ir.len_app, Nat.reduceAdd, Nat.reduceSub, Nat.reduceLeDiff, if_true, if_false, wipeD]
      · rw [if_neg (by rw [decide_eq_false h]; decide)]
        simp only [enD, enPy]; rw [if_neg h]
theorem rows_ok (k : Nat) {R S : Sto} {N : Int} (hI : dInv N R S) (hN : N ≤ 2700000) {jk ju jw je : Nat} {us ws : List Str} {ns : List Int} (P : Pool R jk ju jw je us ws ns) (nm : Str) (s : Int) (many : Nat) (hm : many ≤ 40) (five : Int) (e6 x7 r9 o10 c11 x12 x13 x14 x15 : Option D) :
    ∃ (rs : List PyData) (S' : Sto), evL (calK fs (k + 3)) lcRw (slY nm jk s many five e6 x7 (some (.ref (je + 2))) r9 o10 c11 x12 x13 x14 x15) S = .val (rs.map D.p) S' ∧ rs.length = many ∧ (∀ r ∈ rs, RowOk r) ∧ dInv (N + 800) R S' := by
  have rn := srcRng_nat many (by omega)
  obtain ⟨es, S', e1, e2, e3, e4⟩ := l_lc_inv (cal := calK fs (k + 3)) (it := .rng (.var 4)) (tg := [7]) (one := true) (elt := .call 14 (.cons (.var 0) (.cons (.var 8) (.cons (.var 2) .nil))))
    (ρ := slY nm jk s many five e6 x7 (some (.ref (je + 2))) r9 o10 c11 x12 x13 x14 x15) (S0 := S) (S := S) (ds := (List.range many).map fun (i : Nat) => D.p (.int (i : Int))) (by unfold slY; simp -dsimp only [Ir.then_val, Ir.optA_some, Ir.boolA_t, Ir.boolA_f, Ir.seqA_next, Ir.seqA_ret, Ir.wp_val_, Ir.v_var, Ir.v_cst, Ir.v_bin, Ir.v_cmp, Ir.v_chain, Ir.v_and, Ir.v_or, Ir.v_not, Ir.v_ifx, Ir.v_neg, Ir.v_call, Ir.v_tup, Ir.v_lst, Ir.v_idx, Ir.v_idxL, Ir.v_slice, Ir.v_strOf, Ir.v_join, Ir.v_extend, Ir.v_append, Ir.v_len, Ir.v_isi, Ir.v_toInt, Ir.v_all, Ir.v_tupOf, Ir.v_dictOf, Ir.v_dlit, Ir.v_dget3, Ir.v_eqL, Ir.v_op1, Ir.v_op2, Ir.v_fstr, Ir.f_nil, Ir.f_cons, Ir.a_nil', Ir.a_cons', Ir.a_star', Ir.l_disp', Ir.l_of', Ir.l_cat', Ir.l_cut', Ir.b_no', Ir.b_at', Ir.i_tup', Ir.i_lst', Ir.i_str', Ir.i_rng', Ir.ss_nil', Ir.ss_asg, Ir.ss_expr, Ir.ss_ret, Ir.ss_unp, Ir.ss_ite, Ir.ss_setI, Ir.ss_for, Ir.finA_p, Ir.strD_str, Ir.ofD_tup, Ir.dicAt_eq, Ir.lstAt_eq, Ir.dget3_str, Ir.dixD_int, Ir.srcLst_eq, Ir.ofD_ref, Ir.tupD_ref, Ir.lenD_ref, Ir.lenD_tup, Ir.getI_ref, Ir.lsA_lst, Ir.ifA_t, Ir.appD_eq, Ir.extD_eq, Ir.catD_eq, Ir.rb_p, decide_true, decide_false, Bool.true_and, Bool.and_true, Ir.atA_no, Ir.atA_go, Ir.contA_next, Ir.contA_ret, Ir.size_fix, Ir.size_dyn, Ir.at_fix, Ir.at_dyn, Ir.turn_one, List.length_map, List.getElem?_nil, Ir.tgt, Ir.setAll, Bool.false_eq_true, List.set_nil, List.getElem?_cons_zero, List.getElem?_cons_succ, List.set_cons_zero, List.set_cons_succ, List.map_cons, List.map_nil, List.length_cons, List.length_nil, List.replicate_succ, List.replicate_zero, List.cons_append, List.nil_append, Option.map_some, Option.bind_some, Ir.app_get, Ir.app_get0, Ir.app_set, Ir.app_set0, Ir.app_take, Ir.app_one, Ir.len_app, Nat.reduceAdd, Nat.reduceSub, Nat.reduceLeDiff, if_true, if_false, rn]) (by simp; omega)
    (fun i S => dInv (N + 20 * i) R S) (fun d => ∃ r, d = .p r ∧ RowOk r) (by simpa using hI) (fun i d S hd hS => by
      obtain ⟨hi, _⟩ := List.getElem?_eq_some_iff.mp hd
      rw [List.length_map, List.length_range] at hi
      obtain ⟨row, S', w1, w2, w3⟩ := newrow_ok k hS (by omega) P
      refine ⟨_, _, S', rfl, ?_, ⟨row, rfl, w2⟩, dInv_mono w3 (by omega)⟩
      unfold slY
      simp -dsimp only [Ir.then_val, Ir.optA_some, Ir.boolA_t, Ir.boolA_f, Ir.seqA_next, Ir.seqA_ret, Ir.wp_val_, Ir.v_var, Ir.v_cst, Ir.v_bin, Ir.v_cmp, Ir.v_chain, Ir.v_and, Ir.v_or, Ir.v_not, Ir.v_ifx, Ir.v_neg, Ir.v_call, Ir.v_tup, Ir.v_lst, Ir.v_idx, Ir.v_idxL, Ir.v_slice, Ir.v_strOf, Ir.v_join, Ir.v_extend, Ir.v_append, Ir.v_len, Ir.v_isi, Ir.v_toInt, Ir.v_all, Ir.v_tupOf, Ir.v_dictOf, Ir.v_dlit, Ir.v_dget3, Ir.v_eqL, Ir.v_op1, Ir.v_op2, Ir.v_fstr, Ir.f_nil, Ir.f_cons, Ir.a_nil', Ir.a_cons', Ir.a_star', Ir.l_disp', Ir.l_of', Ir.l_cat', Ir.l_cut', Ir.b_no', Ir.b_at', Ir.i_tup', Ir.i_lst', Ir.i_str', Ir.i_rng', Ir.ss_nil', Ir.ss_asg, Ir.ss_expr, Ir.ss_ret, Ir.ss_unp, Ir.ss_ite, Ir.ss_setI, Ir.ss_for, Ir.finA_p, Ir.strD_str, Ir.ofD_tup, Ir.dicAt_eq, Ir.lstAt_eq, Ir.dget3_str, Ir.dixD_int, Ir.srcLst_eq, Ir.ofD_ref, Ir.tupD_ref, Ir.lenD_ref, Ir.lenD_tup, Ir.getI_ref, Ir.lsA_lst, Ir.ifA_t, Ir.appD_eq, Ir.extD_eq, Ir.catD_eq, Ir.rb_p, decide_true, decide_false, Bool.true_and, Bool.and_true, Ir.atA_no, Ir.atA_go, Ir.contA_next, Ir.contA_ret, Ir.size_fix, Ir.size_dyn, Ir.at_fix, Ir.at_dyn, Ir.turn_one, List.length_map, List.getElem?_nil, Ir.tgt, Ir.setAll, Bool.false_eq_true, List.set_nil, List.getElem?_cons_zero, List.getElem?_cons_succ, List.set_cons_zero, List.set_cons_succ, List.map_cons, List.map_nil, List.length_cons, List.length_nil, List.replicate_succ, List.replicate_zero, List.cons_append, List.nil_append, Option.map_some, Option.bind_some, Ir.app_get, Ir.app_get0, Ir.app_set, Ir.app_set0, Ir.app_take, Ir.app_one, Ir.len_app, Nat.reduceAdd, Nat.reduceSub, Nat.reduceLeDiff, if_true, if_false, wipeD, w1])
  obtain ⟨rs, rfl, h3⟩ : ∃ rs : List PyData, es = rs.map D.p ∧ ∀ r ∈ rs, RowOk r := by
    clear e1 e2 e4
    induction es with
    | nil => exact ⟨[], rfl, fun r hr => nomatch hr⟩
    | cons e es ih =>
      obtain ⟨r, rfl, hr⟩ := e3 e (List.mem_cons_self ..)
      obtain ⟨rs, rfl, h⟩ := ih fun x hx => e3 x (List.mem_cons_of_mem _ hx)
      refine ⟨r :: rs, rfl, fun x hx => ?_⟩
      rcases List.mem_cons.mp hx with rfl | hx
      · exact hr
      · exact h x hx
  exact ⟨rs, S', e1, by simpa using e2, h3, dInv_mono e4 (by simp; omega)⟩
end Ir.K04
set_option Elab.async false
set_option linter.all false
set_option maxRecDepth 100000
set_option maxHeartbeats 4000001
namespace Ir.K04
open PySem
def endY : Ss := (.cons (.ret (.bin .add (.call 15 (.cons (.var 0) (.cons (.var 1) (.cons (.var 2) (.cons (.cst (.p (.int 3))) .nil))))) (.tup (.cons (.tupOf (.var 9)) (.cons (.tupOf (.var 6)) (.cons (.tupOf (.var 11)) .nil))))))
    .nil)
def rngY : Wi := (.rng (.bin .mul (.call 8 (.cons (.var 0) (.cons (.cst (.p (.int 5))) .nil))) (.toInt (.eqL true (.var 10) (.disp .nil)))))
def midY : Ss := (.cons (.for_ rngY [12] true bodyC) endY)
def tailY : Ss := (.cons (.asg 8 (.lst lcK)) (.cons (.asg 9 (.lst lcRw)) (.cons (.asg 10 (.lst lcO)) (.cons (.asg 11 (.lst (.disp .nil))) midY))))
def lists (ens : List (Int × Int)) (rs : List PyData) (cs : List Ct) : Sto := [.lst (ens.map enD), .lst ((ens.map (·.1)).map fi), .lst (rs.map D.p), .lst (((ens.filter fun e => decide (e.2 = 1)).map (·.1)).map fi), .lst (cs.map ctD)]
structure Made (ens : List (Int × Int)) (rs : List PyData) : Prop where
  el : ens.length ≤ 40
  es : ∀ e ∈ ens, 0 ≤ e.1 ∧ e.1 ≤ 40 ∧ 0 ≤ e.2 ∧ e.2 ≤ 9
  rl : rs.length ≤ 40
  rs : ∀ r ∈ rs, RowOk r
theorem rng_t (cal : Nat → List D → M D) (nm : Str) (jk : Nat) (s many five : Int) (a b c d e : Option D) (o : Nat) (os : List Int) (S S1 : Sto) (t : Nat) (ht : t ≤ 4)
    (d1 : cal 8 [.ref 1, .p (.int 5)] S = .val (.p (.int (t : Int))) S1) (g3 : S1[o]? = some (.lst (os.map fi))) (hn0 : os.isEmpty = false) :
    evI cal rngY (slY nm jk s many five a b c d (some (.ref o)) e none none none none) S = .val (.fix ((List.range t).map fun (i : Nat) => D.p (.int (i : Int)))) S1 := by
  have e0 := eqL_ints true os
  have o0 : (0 : Nat) ≤ 100000 := by omega
  simp only [if_true] at e0
  have e0 : eqLD true (os.map fun i => D.p (.int i)) [] = some (.p (.bool true)) := by rw [e0, hn0]; rfl
  have i1 : intOf (.p (.bool true)) = some 1 := rfl
  have m1 : bop .mul (.p (.int (t : Int))) (.p (.int 1)) = some (.p (.int (t : Int))) := by rw [bop_mulR (by decide)]; simp
  have rn := srcRng_nat t (by omega)
  have A : evE cal (.call 8 (.cons (.var 0) (.cons (.cst (.p (.int 5))) .nil))) (slY nm jk s many five a b c d (some (.ref o)) e none none none none) S = .val (.p (.int (t : Int))) S1 := by unfold slY; simp -dsimp only [Ir.then_val, Ir.optA_some, Ir.boolA_t, Ir.boolA_f, Ir.seqA_next, Ir.seqA_ret, Ir.wp_val_, Ir.v_var, Ir.v_cst, Ir.v_bin, Ir.v_cmp, Ir.v_chain, Ir.v_and, Ir.v_or, Ir.v_not, Ir.v_ifx, Ir.v_neg, Ir.v_call, Ir.v_tup, Ir.v_lst, Ir.v_idx, Ir.v_idxL, Ir.v_slice, Ir.v_strOf, Ir.v_join, Ir.v_extend, Ir.v_append, Ir.v_len, Ir.v_isi, Ir.v_toInt, Ir.v_all, Ir.v_tupOf, Ir.v_dictOf, Ir.v_dlit, Ir.v_dget3, Ir.v_eqL, Ir.v_op1, Ir.v_op2, Ir.v_fstr, Ir.f_nil, Ir.f_cons, Ir.a_nil', Ir.a_cons', Ir.a_star', Ir.l_disp', Ir.l_of', Ir.l_cat', Ir.l_cut', Ir.b_no', Ir.b_at', Ir.i_tup', Ir.i_lst', Ir.i_str', Ir.i_rng', Ir.ss_nil', Ir.ss_asg, Ir.ss_expr, Ir.ss_ret, Ir.ss_unp, Ir.ss_ite, Ir.ss_setI, Ir.ss_for, Ir.finA_p, Ir.strD_str, Ir.ofD_tup, Ir.dicAt_eq, Ir.lstAt_eq, Ir.dget3_str, Ir.dixD_int, Ir.srcLst_eq, Ir.ofD_ref, Ir.tupD_ref, Ir.lenD_ref, Ir.lenD_tup, Ir.getI_ref, Ir.lsA_lst, Ir.ifA_t, Ir.appD_eq, Ir.extD_eq, Ir.catD_eq, Ir.rb_p, decide_true, decide_false, Bool.true_and, Bool.and_true, Ir.atA_no, Ir.atA_go, Ir.contA_next, Ir.contA_ret, Ir.size_fix, Ir.size_dyn, Ir.at_fix, Ir.at_dyn, Ir.turn_one, List.length_map, List.getElem?_nil, Ir.tgt, Ir.setAll, Bool.false_eq_true, List.set_nil, List.getElem?_cons_zero, List.getElem?_cons_succ, List.set_cons_zero, List.set_cons_succ, List.map_cons, List.map_nil, List.length_cons, List.length_nil, List.replicate_succ, List.replicate_zero, List.cons_append, List.nil_append, Option.map_some, Option.bind_some, Ir.app_get, Ir.app_get0, Ir.app_set, Ir.app_set0, Ir.app_take, Ir.app_one, Ir.len_app, Nat.reduceAdd, Nat.reduceSub, Nat.reduceLeDiff, if_true, if_false, d1]
  have B : evE cal (.toInt (.eqL true (.var 10) (.disp .nil))) (slY nm jk s many five a b c d (some (.ref o)) e none none none none) S1 = .val (.p (.int 1)) S1 := by unfold slY; simp -dsimp only [Ir.then_val, Ir.optA_some, Ir.boolA_t, Ir.boolA_f, Ir.seqA_next, Ir.seqA_ret, Ir.wp_val_, Ir.v_var, Ir.v_cst, Ir.v_bin, Ir.v_cmp, Ir.v_chain, Ir.v_and, Ir.v_or, Ir.v_not, Ir.v_ifx, Ir.v_neg, Ir.v_call, Ir.v_tup, Ir.v_lst, Ir.v_idx, Ir.v_idxL, Ir.v_slice, Ir.v_strOf, Ir.v_join, Ir.v_extend, Ir.v_append, Ir.v_len, Ir.v_isi, Ir.v_toInt, Ir.v_all, Ir.v_tupOf, Ir.v_dictOf, Ir.v_dlit, Ir.v_dget3, Ir.v_eqL, Ir.v_op1, Ir.v_op2, Ir.v_fstr, Ir.f_nil, Ir.f_cons, Ir.a_nil', Ir.a_cons', Ir.a_star', Ir.l_disp', Ir.l_of', Ir.l_cat', Ir.l_cut', Ir.b_no', Ir.b_at', Ir.i_tup', Ir.i_lst', Ir.i_str', Ir.i_rng', Ir.ss_nil', Ir.ss_asg, Ir.ss_expr, Ir.ss_ret, Ir.ss_unp, Ir.ss_ite, Ir.ss_setI, Ir.ss_for, Ir.finA_p, Ir.strD_str, Ir.ofD_tup, Ir.dicAt_eq, Ir.lstAt_eq, Ir.dget3_str, Ir.dixD_int, Ir.srcLst_eq, Ir.ofD_ref, Ir.tupD_ref, Ir.lenD_ref, Ir.lenD_tup, Ir.getI_ref, Ir.lsA_lst, Ir.ifA_t, Ir.appD_eq, Ir.extD_eq, Ir.catD_eq, Ir.rb_p, decide_true, decide_false, Bool.true_and, Bool.and_true, Ir.atA_no, Ir.atA_go, Ir.contA_next, Ir.contA_ret, Ir.size_fix, Ir.size_dyn, Ir.at_fix, Ir.at_dyn, Ir.turn_one, List.length_map, List.getElem?_nil, Ir.tgt, Ir.setAll, Bool.false_eq_true, List.set_nil, List.getElem?_cons_zero, List.getElem?_cons_succ, List.set_cons_zero, List.set_cons_succ, List.map_cons, List.map_nil, List.length_cons, List.length_nil, List.replicate_succ, List.replicate_zero, List.cons_append, List.nil_append, Option.map_some, Option.bind_some, Ir.app_get, Ir.app_get0, Ir.app_set, Ir.app_set0, Ir.app_take, Ir.app_one, Ir.len_app, Nat.reduceAdd, Nat.reduceSub, Nat.reduceLeDiff, if_true, if_false, g3, o0, e0, i1]
  unfold rngY
  rw [i_rng', v_bin, A, then_val, B, then_val, m1, optA_some, then_val, rn, optA_some]
theorem rng_0 (cal : Nat → List D → M D) (nm : Str) (jk : Nat) (s many five : Int) (a b c d e : Option D) (o : Nat) (os : List Int) (S S1 : Sto) (t : Nat) (ht : t ≤ 4)
    (d1 : cal 8 [.ref 1, .p (.int 5)] S = .val (.p (.int (t : Int))) S1) (g3 : S1[o]? = some (.lst (os.map fi))) (hn0 : os.isEmpty = true) :
    evI cal rngY (slY nm jk s many five a b c d (some (.ref o)) e none none none none) S = .val (.fix ((List.range 0).map fun (i : Nat) => D.p (.int (i : Int)))) S1 := by
  have e0 := eqL_ints true os
  have o0 : (0 : Nat) ≤ 100000 := by omega
  simp only [if_true] at e0
  have e0 : eqLD true (os.map fun i => D.p (.int i)) [] = some (.p (.bool false)) := by rw [e0, hn0]; rfl
  have i1 : intOf (.p (.bool false)) = some 0 := rfl
  have m1 : bop .mul (.p (.int (t : Int))) (.p (.int 0)) = some (.p (.int ((0 : Nat) : Int))) := by rw [bop_mulR (by decide)]; simp
  have rn := srcRng_nat 0 (by omega)
  have A : evE cal (.call 8 (.cons (.var 0) (.cons (.cst (.p (.int 5))) .nil))) (slY nm jk s many five a b c d (some (.ref o)) e none none none none) S = .val (.p (.int (t : Int))) S1 := by unfold slY; simp -dsimp only [Ir.then_val, Ir.optA_some, Ir.boolA_t, Ir.boolA_f, Ir.seqA_next, Ir.seqA_ret, Ir.wp_val_, Ir.v_var, Ir.v_cst, Ir.v_bin, Ir.v_cmp, Ir.v_chain, Ir.v_and, Ir.v_or, Ir.v_not, Ir.v_ifx, Ir.v_neg, Ir.v_call, Ir.v_tup, Ir.v_lst, Ir.v_idx, Ir.v_idxL, Ir.v_slice, Ir.v_strOf, Ir.v_join, Ir.v_extend, Ir.v_append, Ir.v_len, Ir.v_isi, Ir.v_toInt, Ir.v_all, Ir.v_tupOf, Ir.v_dictOf, Ir.v_dlit, Ir.v_dget3, Ir.v_eqL, Ir.v_op1, Ir.v_op2, Ir.v_fstr, Ir.f_nil, Ir.f_cons, Ir.a_nil', Ir.a_cons', Ir.a_star', Ir.l_disp', Ir.l_of', Ir.l_cat', Ir.l_cut', Ir.b_no', Ir.b_at', Ir.i_tup', Ir.i_lst', Ir.i_str', Ir.i_rng', Ir.ss_nil', Ir.ss_asg, Ir.ss_expr, Ir.ss_ret, Ir.ss_unp, Ir.ss_ite, Ir.ss_setI, Ir.ss_for, Ir.finA_p, Ir.strD_str, Ir.ofD_tup, Ir.dicAt_eq, Ir.lstAt_eq, Ir.dget3_str, Ir.dixD_int, Ir.srcLst_eq, Ir.ofD_ref, Ir.tupD_ref, Ir.lenD_ref, Ir.lenD_tup, Ir.getI_ref, Ir.lsA_lst, Ir.ifA_t, Ir.appD_eq, Ir.extD_eq, Ir.catD_eq, Ir.rb_p, decide_true, decide_false, Bool.true_and, Bool.and_true, Ir.atA_no, Ir.atA_go, Ir.contA_next, Ir.contA_ret, Ir.size_fix, Ir.size_dyn, Ir.at_fix, Ir.at_dyn, Ir.turn_one, List.length_map, List.getElem?_nil, Ir.tgt, Ir.setAll, Bool.false_eq_true, List.set_nil, List.getElem?_cons_zero, List.getElem?_cons_succ, List.set_cons_zero, List.set_cons_succ, List.map_cons, List.map_nil, List.length_cons, List.length_nil, List.replicate_succ, List.replicate_zero, List.cons_append, List.nil_append, Option.map_some, Option.bind_some, Ir.app_get, Ir.app_get0, Ir.app_set, Ir.app_set0, Ir.app_take, Ir.app_one, Ir.len_app, Nat.reduceAdd, Nat.reduceSub, Nat.reduceLeDiff, if_true, if_false, d1]
  have B : evE cal (.toInt (.eqL true (.var 10) (.disp .nil))) (slY nm jk s many five a b c d (some (.ref o)) e none none none none) S1 = .val (.p (.int 0)) S1 := by unfold slY; simp -dsimp only [Ir.then_val, Ir.optA_some, Ir.boolA_t, Ir.boolA_f, Ir.seqA_next, Ir.seqA_ret, Ir.wp_val_, Ir.v_var, Ir.v_cst, Ir.v_bin, Ir.v_cmp, Ir.v_chain, Ir.v_and, Ir.v_or, Ir.v_not, Ir.v_ifx, Ir.v_neg, Ir.v_call, Ir.v_tup, Ir.v_lst, Ir.v_idx, Ir.v_idxL, Ir.v_slice, Ir.v_strOf, Ir.v_join, Ir.v_extend, Ir.v_append, Ir.v_len, Ir.v_isi, Ir.v_toInt, Ir.v_all, Ir.v_tupOf, Ir.v_dictOf, Ir.v_dlit, Ir.v_dget3, Ir.v_eqL, Ir.v_op1, Ir.v_op2, Ir.v_fstr, Ir.f_nil, Ir.f_cons, Ir.a_nil', Ir.a_cons', Ir.a_star', Ir.l_disp', Ir.l_of', Ir.l_cat', Ir.l_cut', Ir.b_no', Ir.b_at', Ir.i_tup', Ir.i_lst', Ir.i_str', Ir.i_rng', Ir.ss_nil', Ir.ss_asg, Ir.ss_expr, Ir.ss_ret, Ir.ss_unp, Ir.ss_ite, Ir.ss_setI, Ir.ss_for, Ir.finA_p, Ir.strD_str, Ir.ofD_tup, Ir.dicAt_eq, Ir.lstAt_eq, Ir.dget3_str, Ir.dixD_int, Ir.srcLst_eq, Ir.ofD_ref, Ir.tupD_ref, Ir.lenD_ref, Ir.lenD_tup, Ir.getI_ref, Ir.lsA_lst, Ir.ifA_t, Ir.appD_eq, Ir.extD_eq, Ir.catD_eq, Ir.rb_p, decide_true, decide_false, Bool.true_and, Bool.and_true, Ir.atA_no, Ir.atA_go, Ir.contA_next, Ir.contA_ret, Ir.size_fix, Ir.size_dyn, Ir.at_fix, Ir.at_dyn, Ir.turn_one, List.length_map, List.getElem?_nil, Ir.tgt, Ir.setAll, Bool.false_eq_true, List.set_nil, List.getElem?_cons_zero, List.getElem?_cons_succ, List.set_cons_zero, List.set_cons_succ, List.map_cons, List.map_nil, List.length_cons, List.length_nil, List.replicate_succ, List.replicate_zero, List.cons_append, List.nil_append, Option.map_some, Option.bind_some, Ir.app_get, Ir.app_get0, Ir.app_set, Ir.app_set0, Ir.app_take, Ir.app_one, Ir.len_app, Nat.reduceAdd, Nat.reduceSub, Nat.reduceLeDiff, if_true, if_false, g3, o0, e0, i1]
  unfold rngY
  rw [i_rng', v_bin, A, then_val, B, then_val, m1, optA_some, then_val, rn, optA_some]
theorem end_ok (k : Nat) {R S : Sto} {N : Int} {ens : List (Int × Int)} {rs : List PyData} {cs : List Ct} (hI : dInv N (R ++ lists ens rs cs) S) (hN : N ≤ 3800000) (M : Made ens rs) (hcl : cs.length ≤ 4) (hcs : ∀ c ∈ cs, Sm c.f ∧ Sm c.t ∧ Sm c.a)
    {jk ju jw : Nat} {us ws : List Str} (P : Kit R jk ju jw us ws) (nm : Str) (hn : nm.length ≤ 50) (s many five : Int) (x7 k8 o10 x12 x13 x14 x15 : Option D) :
    ∃ (w : Way) (S' : Sto), finA (R.length + 2) (exSs (calK fs (k + 2)) endY (slY nm jk s many five (some (.ref (R.length + 2))) x7 k8 (some (.ref (R.length + 4))) o10 (some (.ref (R.length + 6))) x12 x13 x14 x15) S) = .val (.p w.py) S' ∧ w.Ok ∧ dInv (N + 10) R S' := by
  obtain ⟨sg, S1, e1, e2, e3, I1⟩ := newsign_ok k hI (by omega) (P.app _) nm hn 3 (by omega)
  have g0 : S1[R.length + 2]? = some (.lst (ens.map enD)) := by rw [dInv_get I1]; exact app_get R _ 0
  have g2 : S1[R.length + 4]? = some (.lst (rs.map D.p)) := by rw [show R.length + 4 = R.length + 2 + 2 from rfl, dInv_get I1]; exact app_get R _ 2
  have g4 : S1[R.length + 6]? = some (.lst (cs.map ctD)) := by rw [show R.length + 6 = R.length + 4 + 2 from rfl, dInv_get I1]; exact app_get R _ 4
  have p0 : plainOf (ens.map enD) = some (ens.map enPy) := by
    have := plainOf_map (ens.map enPy)
    rw [List.map_map] at this
    exact this
  have p2 : plainOf (rs.map D.p) = some rs := plainOf_map rs
  have p4 : plainOf (cs.map ctD) = some (cs.map Ct.py) := by
    have := plainOf_map (cs.map Ct.py)
    rw [List.map_map] at this
    exact this
  have pl : plainOf [D.p (.tuple rs), .p (.tuple (ens.map enPy)), .p (.tuple (cs.map Ct.py))] = some [.tuple rs, .tuple (ens.map enPy), .tuple (cs.map Ct.py)] := rfl
  have z3 : (3 : Nat) ≤ sizeLine := by rw [sizeLine_eq]; omega
  have b1 := bop_tup [.str sg.n, .tuple (sg.ts.map .str), .str sg.g] [.tuple rs, .tuple (ens.map enPy), .tuple (cs.map Ct.py)] (by simp)
  refine ⟨⟨sg.n, sg.ts, sg.g, rs, ens, cs⟩, S1.take (R.length + 2), ?_, ?_, dInv_take I1⟩
  · unfold endY slY
    have e1 : calK fs (k + 2) 15 [.ref 1, .p (.str nm), .ref (jk + 2), .p (.int 3)] S = .val (.p sg.py) S1 := e1
    simp -dsimp only [Ir.then_val, Ir.optA_some, Ir.boolA_t, Ir.boolA_f, Ir.seqA_next, Ir.seqA_ret, Ir.wp_val_, Ir.v_var, Ir.v_cst, Ir.v_bin, Ir.v_cmp, Ir.v_chain, Ir.v_and, Ir.v_or, Ir.v_not, Ir.v_ifx, Ir.v_neg, Ir.v_call, Ir.v_tup, Ir.v_lst, Ir.v_idx, Ir.v_idxL, Ir.v_slice, Ir.v_strOf, Ir.v_join, Ir.v_extend, Ir.v_append, Ir.v_len, Ir.v_isi, Ir.v_toInt, Ir.v_all, Ir.v_tupOf, Ir.v_dictOf, Ir.v_dlit, Ir.v_dget3, Ir.v_eqL, Ir.v_op1, Ir.v_op2, Ir.v_fstr, Ir.f_nil, Ir.f_cons, Ir.a_nil', Ir.a_cons', Ir.a_star', Ir.l_disp', Ir.l_of', Ir.l_cat', Ir.l_cut', Ir.b_no', Ir.b_at', Ir.i_tup', Ir.i_lst', Ir.i_str', Ir.i_rng', Ir.ss_nil', Ir.ss_asg, Ir.ss_expr, Ir.ss_ret, Ir.ss_unp, Ir.ss_ite, Ir.ss_setI, Ir.ss_for, Ir.finA_p, Ir.strD_str, Ir.ofD_tup, Ir.dicAt_eq, Ir.lstAt_eq, Ir.dget3_str, Ir.dixD_int, Ir.srcLst_eq, Ir.ofD_ref, Ir.tupD_ref, Ir.lenD_ref, Ir.lenD_tup, Ir.getI_ref, Ir.lsA_lst, Ir.ifA_t, Ir.appD_eq, Ir.extD_eq, Ir.catD_eq, Ir.rb_p, decide_true, decide_false, Bool.true_and, Bool.and_true, Ir.atA_no, Ir.atA_go, Ir.contA_next, Ir.contA_ret, Ir.size_fix, Ir.size_dyn, Ir.at_fix, Ir.at_dyn, Ir.turn_one, List.length_map, List.getElem?_nil, Ir.tgt, Ir.setAll, Bool.false_eq_true, List.set_nil, List.getElem?_cons_zero, List.getElem?_cons_succ, List.set_cons_zero, List.set_cons_succ, List.map_cons, List.map_nil, List.length_cons, List.length_nil, List.replicate_succ, List.replicate_zero, List.cons_append, List.nil_append, Option.map_some, Option.bind_some, Ir.app_get, Ir.app_get0, Ir.app_set, Ir.app_set0, Ir.app_take, Ir.app_one, Ir.len_app, Nat.reduceAdd, Nat.reduceSub, Nat.reduceLeDiff, if_true, if_false, e1, g0, g2, g4, p0, p2, p4, pl, z3, b1]
    rfl
  · exact ⟨e2.n, e2.ts, e2.tl, e2.g, M.rs, M.rl, fun e he => by have := M.es e he; exact sm_of (by omega) (by omega), M.el, hcs, hcl⟩
theorem mid_ok (k : Nat) {R S : Sto} {N : Int} {ens : List (Int × Int)} {rs : List PyData} (hI : dInv N (R ++ lists ens rs []) S) (hN : N ≤ 3700000) (M : Made ens rs)
    {jk ju jw : Nat} {us ws : List Str} (P : Kit R jk ju jw us ws) (nm : Str) (hn : nm.length ≤ 50) (s : Int) (many : Nat) (hm : 0 < many ∧ many ≤ 40) (five : Int) (x7 k8 : Option D) :
    ∃ (w : Way) (S' : Sto), finA (R.length + 2) (exSs (calK fs (k + 2)) midY (slY nm jk s many five (some (.ref (R.length + 2))) x7 k8 (some (.ref (R.length + 4))) (some (.ref (R.length + 5))) (some (.ref (R.length + 6))) none none none none) S) = .val (.p w.py) S' ∧ w.Ok ∧ dInv (N + 50) R S' := by
  obtain ⟨r, S1, d1, d2, d3, I1⟩ := draw_ok (k + 1) hI (many := 5) (by omega) (by omega) (by omega)
  obtain ⟨t, rfl⟩ : ∃ t : Nat, r = t := ⟨r.toNat, by omega⟩
  have g3 : S1[R.length + 5]? = some (.lst (((ens.filter fun e => decide (e.2 = 1)).map (·.1)).map fi)) := by rw [show R.length + 5 = R.length + 3 + 2 from rfl, dInv_get I1]; exact app_get R _ 3
  generalize hos : (ens.filter fun e => decide (e.2 = 1)).map (·.1) = os at g3
  have e0 := eqL_ints true os
  have o0 : (0 : Nat) ≤ 100000 := by omega
  simp only [if_true] at e0
  have mk : ∀ (t : Nat), t ≤ 4 → (t = 0 ∨ os ≠ []) → ∃ (cs : List Ct) (ρ' : Sl) (S' : Sto), forGo (.fix ((List.range t).map fun (i : Nat) => D.p (.int (i : Int)))) (turn (calK fs (k + 2)) [12] true bodyC) t 0 (slY nm jk s many five (some (.ref (R.length + 2))) x7 k8 (some (.ref (R.length + 4))) (some (.ref (R.length + 5))) (some (.ref (R.length + 6))) none none none none) S1 = .val (.next, ρ') S' ∧
      (∃ x12 x13 x14, ρ' = slY nm jk s many five (some (.ref (R.length + 2))) x7 k8 (some (.ref (R.length + 4))) (some (.ref (R.length + 5))) (some (.ref (R.length + 6))) x12 x13 x14 none) ∧ cs.length ≤ 4 ∧ (∀ c ∈ cs, Sm c.f ∧ Sm c.t ∧ Sm c.a) ∧ dInv (N + 13) (R ++ lists ens rs cs) S' := fun t ht h => by
    rcases Nat.eq_zero_or_pos t with rfl | h0
    · exact ⟨[], _, S1, for_no rfl, ⟨none, none, none, rfl⟩, by simp, (fun c hc => nomatch hc), dInv_mono I1 (by omega)⟩
    · have hne := h.resolve_left (by omega)
      have eL : ∀ cs : List Ct, R ++ lists ens rs cs = (R ++ [.lst (ens.map enD), .lst ((ens.map (·.1)).map fi), .lst (rs.map D.p), .lst (os.map fi)]) ++ [.lst (cs.map ctD)] := fun cs => by
        rw [← hos, List.append_assoc]; rfl
      have I2 := I1
      rw [eL] at I2
      have hlen : os.length ≤ 40 := by
        rw [← hos, List.length_map]
        exact Nat.le_trans (List.length_filter_le ..) M.el
      have hmem : ∀ o ∈ os, 0 ≤ o ∧ o ≤ 40 := fun o ho => by
        rw [← hos] at ho
        obtain ⟨e, he, rfl⟩ := List.mem_map.mp ho
        have := M.es e (List.mem_filter.mp he).1
        exact ⟨this.1, this.2.1⟩
      obtain ⟨cs, ρ', S', f1, f2, f3, f4, f5⟩ := cats_ok (k + 1) (R := R ++ [.lst (ens.map enD), .lst ((ens.map (·.1)).map fi), .lst (rs.map D.p), .lst (os.map fi)]) (jo := R.length + 3) (os := os) (app_get R _ 3) ⟨List.length_pos_iff.mpr hne, hlen⟩ hmem I2 (by omega) nm jk s many hm five (some (.ref (R.length + 2))) x7 k8 (some (.ref (R.length + 4))) t ht
      rw [← eL] at f5
      have hLen : (R ++ [MO.lst (ens.map enD), .lst ((ens.map (·.1)).map fi), .lst (rs.map D.p), .lst (os.map fi)]).length = R.length + 4 := by rw [List.length_append]; rfl
      have h35 : R.length + 3 + 2 = R.length + 5 := rfl
      have h46 : R.length + 4 + 2 = R.length + 6 := rfl
      rw [hLen, h35, h46] at f1 f2
      exact ⟨cs, ρ', S', f1, f2, by omega, f4, dInv_mono f5 (by omega)⟩
  have fin : ∀ (t : Nat), t ≤ 4 → (t = 0 ∨ os ≠ []) → ∃ (w : Way) (S' : Sto), finA (R.length + 2) (seqA (forGo (.fix ((List.range t).map fun (i : Nat) => D.p (.int (i : Int)))) (turn (calK fs (k + 2)) [12] true bodyC) t 0 (slY nm jk s many five (some (.ref (R.length + 2))) x7 k8 (some (.ref (R.length + 4))) (some (.ref (R.length + 5))) (some (.ref (R.length + 6))) none none none none) S1) fun ρ' S' => exSs (calK fs (k + 2)) endY ρ' S') = .val (.p w.py) S' ∧ w.Ok ∧ dInv (N + 50) R S' := fun t ht h => by
    obtain ⟨cs, ρ', S2, f1, ⟨x12, x13, x14, rfl⟩, f3, f4, f5⟩ := mk t ht h
    rw [f1, seqA_next]
    obtain ⟨w, S', w1, w2, w3⟩ := end_ok k f5 (by omega) M f3 f4 P nm hn s many five x7 k8 (some (.ref (R.length + 5))) x12 x13 x14 none
    exact ⟨w, S', w1, w2, dInv_mono w3 (by omega)⟩
  have go : ∀ (z : Nat), z ≤ 4 → (z = 0 ∨ os ≠ []) → evI (calK fs (k + 2)) rngY (slY nm jk s many five (some (.ref (R.length + 2))) x7 k8 (some (.ref (R.length + 4))) (some (.ref (R.length + 5))) (some (.ref (R.length + 6))) none none none none) S = .val (.fix ((List.range z).map fun (i : Nat) => D.p (.int (i : Int)))) S1 →
      ∃ (w : Way) (S' : Sto), finA (R.length + 2) (exSs (calK fs (k + 2)) midY (slY nm jk s many five (some (.ref (R.length + 2))) x7 k8 (some (.ref (R.length + 4))) (some (.ref (R.length + 5))) (some (.ref (R.length + 6))) none none none none) S) = .val (.p w.py) S' ∧ w.Ok ∧ dInv (N + 50) R S' := fun z hz hz2 he => by
    have F := fin z hz hz2
    unfold midY
    rw [ss_for, he, then_val, size_fix, optA_some, then_val, List.length_map, List.length_range]
    exact F
  cases hn0 : os.isEmpty with
  | true => exact go 0 (by omega) (.inl rfl) (rng_0 _ _ _ _ _ _ _ _ _ _ _ _ _ _ _ t (by omega) d1 g3 hn0)
  | false => exact go t (by omega) (.inr fun q => by rw [q] at hn0; exact Bool.noConfusion hn0) (rng_t _ _ _ _ _ _ _ _ _ _ _ _ _ _ _ t (by omega) d1 g3 hn0)
end Ir.K04
set_option Elab.async false
set_option linter.all false
set_option maxRecDepth 100000
set_option maxHeartbeats 4000001
namespace Ir.K04
open PySem
theorem tail_ok (k : Nat) {R S : Sto} {N : Int} {ens : List (Int × Int)} (hI : dInv N (R ++ [.lst (ens.map enD)]) S) (hN : N ≤ 2600000) (hel : ens.length ≤ 40) (hes : ∀ e ∈ ens, 0 ≤ e.1 ∧ e.1 ≤ 40 ∧ 0 ≤ e.2 ∧ e.2 ≤ 9)
    {jk ju jw : Nat} {us ws : List Str} (P : Kit R jk ju jw us ws) (nm : Str) (hn : nm.length ≤ 50) (s : Int) (many : Nat) (hm : 0 < many ∧ many ≤ 40) (five : Int) (x7 : Option D) :
    ∃ (w : Way) (S' : Sto), finA (R.length + 2) (exSs (calK fs (k + 3)) tailY (slY nm jk s many five (some (.ref (R.length + 2))) x7 none none none none none none none none) S) = .val (.p w.py) S' ∧ w.Ok ∧ dInv (N + 900) R S' := by
  have hl := dInv_len hI
  rw [List.length_append] at hl
  have hl : S.length = R.length + 3 := hl
  have g0 : S[R.length + 2]? = some (.lst (ens.map enD)) := by rw [dInv_get hI]; exact app_get0 ..
  have K1 := known_ok (calK fs (k + 3)) g0 hel nm jk s many five x7 none none none none none none none none
  have a1 := allocL S ((ens.map (·.1)).map fi) (by rw [List.all_map, List.all_eq_true]; exact fun _ _ => rfl)
  rw [hl] at a1
  have I1 := dInv_app hI [.lst ((ens.map (·.1)).map fi)]
  rw [List.append_assoc] at I1
  have P1 := (P.app ([.lst (ens.map enD)] ++ [.lst ((ens.map (·.1)).map fi)])).pool (je := R.length + 1) (ns := ens.map (·.1)) (app_get R _ 1) (fun n hn => by
    obtain ⟨e, he, rfl⟩ := List.mem_map.mp hn
    have := hes e he
    exact sm_of (by omega) (by omega)) (by rw [List.length_map]; omega)
  obtain ⟨rs, S2, K2, r1, r2, I2⟩ := rows_ok k I1 (by omega) P1 nm s many hm.2 five (some (.ref (R.length + 2))) x7 none none none none none none none
  have K2 : evL (calK fs (k + 3)) lcRw (slY nm jk s many five (some (.ref (R.length + 2))) x7 (some (.ref (R.length + 3))) none none none none none none none) (S ++ [.lst ((ens.map (·.1)).map fi)]) = .val (rs.map D.p) S2 := K2
  have hl2 := dInv_len I2
  rw [List.length_append] at hl2
  have hl2 : S2.length = R.length + 4 := hl2
  have a2 := allocL S2 (rs.map D.p) (rb_plain _ rs)
  rw [hl2] at a2
  have I3 := dInv_app I2 [.lst (rs.map D.p)]
  have g3 : (S2 ++ [MO.lst (rs.map D.p)])[R.length + 2]? = some (.lst (ens.map enD)) := by
    rw [dInv_get I3, List.append_assoc]; exact app_get0 ..
  have K3 := ones_ok (calK fs (k + 3)) g3 hel nm jk s many five x7 (some (.ref (R.length + 3))) (some (.ref (R.length + 4))) none none none none none none
  have a3 := allocL (S2 ++ [.lst (rs.map D.p)]) (((ens.filter fun e => decide (e.2 = 1)).map (·.1)).map fi) (by rw [List.all_map, List.all_eq_true]; exact fun _ _ => rfl)
  have h5 : (S2 ++ [MO.lst (rs.map D.p)]).length = R.length + 5 := by rw [List.length_append, hl2]; rfl
  rw [h5] at a3
  have a4 := allocL (S2 ++ [.lst (rs.map D.p)] ++ [.lst (((ens.filter fun e => decide (e.2 = 1)).map (·.1)).map fi)]) [] rfl
  have h6 : (S2 ++ [MO.lst (rs.map D.p)] ++ [MO.lst (((ens.filter fun e => decide (e.2 = 1)).map (·.1)).map fi)]).length = R.length + 6 := by rw [List.length_append, h5]; rfl
  rw [h6] at a4
  have I4 := dInv_app (dInv_app I3 [.lst (((ens.filter fun e => decide (e.2 = 1)).map (·.1)).map fi)]) [.lst []]
  have eL : R ++ ([MO.lst (ens.map enD)] ++ [.lst ((ens.map (·.1)).map fi)]) ++ [.lst (rs.map D.p)] ++ [.lst (((ens.filter fun e => decide (e.2 = 1)).map (·.1)).map fi)] ++ [.lst []] = R ++ lists ens rs [] := by
    simp only [List.append_assoc, List.cons_append, List.nil_append, lists, List.map_nil]
  rw [eL] at I4
  obtain ⟨w, S', w1, w2, w3⟩ := mid_ok (k + 1) I4 (by omega) ⟨hel, hes, by omega, r2⟩ P nm hn s many hm five x7 (some (.ref (R.length + 3)))
  refine ⟨w, S', ?_, w2, dInv_mono w3 (by omega)⟩
  have o0 : (0 : Nat) ≤ 100000 := by omega
  have s1 : ∀ (l : L) (i : Nat) (r : Ss) (ρ : Sl) (S S1 : Sto) (ds : List D) (d : D) (S2 : Sto), evL (calK fs (k + 3)) l ρ S = .val ds S1 → alloc (.lst ds) S1 = .val d S2 → exSs (calK fs (k + 3)) (.cons (.asg i (.lst l)) r) ρ S = exSs (calK fs (k + 3)) r (ρ.set i (some d)) S2 := fun l i r ρ S S1 ds d S2 h1 h2 => by
    rw [ss_asg, v_lst, h1, then_val, h2, then_val]
  have K4 : evL (calK fs (k + 3)) (.disp .nil) (slY nm jk s many five (some (.ref (R.length + 2))) x7 (some (.ref (R.length + 3))) (some (.ref (R.length + 4))) (some (.ref (R.length + 5))) none none none none none) (S2 ++ [.lst (rs.map D.p)] ++ [.lst (((ens.filter fun e => decide (e.2 = 1)).map (·.1)).map fi)]) = .val [] (S2 ++ [.lst (rs.map D.p)] ++ [.lst (((ens.filter fun e => decide (e.2 = 1)).map (·.1)).map fi)]) := by
    simp -dsimp only [Ir.then_val, Ir.optA_some, Ir.boolA_t, Ir.boolA_f, Ir.seqA_next, Ir.seqA_ret, Ir.wp_val_, Ir.v_var, Ir.v_cst, Ir.v_bin, Ir.v_cmp, Ir.v_chain, Ir.v_and, Ir.v_or, Ir.v_not, Ir.v_ifx, Ir.v_neg, Ir.v_call, Ir.v_tup, Ir.v_lst, Ir.v_idx, Ir.v_idxL, Ir.v_slice, Ir.v_strOf, Ir.v_join, Ir.v_extend, Ir.v_append, Ir.v_len, Ir.v_isi, Ir.v_toInt, Ir.v_all, Ir.v_tupOf, Ir.v_dictOf, Ir.v_dlit, Ir.v_dget3, Ir.v_eqL, Ir.v_op1, Ir.v_op2, Ir.v_fstr, Ir.f_nil, Ir.f_cons, Ir.a_nil', Ir.a_cons', Ir.a_star', Ir.l_disp', Ir.l_of', Ir.l_cat', Ir.l_cut', Ir.b_no', Ir.b_at', Ir.i_tup', Ir.i_lst', Ir.i_str', Ir.i_rng', Ir.ss_nil', Ir.ss_asg, Ir.ss_expr, Ir.ss_ret, Ir.ss_unp, Ir.ss_ite, Ir.ss_setI, Ir.ss_for, Ir.finA_p, Ir.strD_str, Ir.ofD_tup, Ir.dicAt_eq, Ir.lstAt_eq, Ir.dget3_str, Ir.dixD_int, Ir.srcLst_eq, Ir.ofD_ref, Ir.tupD_ref, Ir.lenD_ref, Ir.lenD_tup, Ir.getI_ref, Ir.lsA_lst, Ir.ifA_t, Ir.appD_eq, Ir.extD_eq, Ir.catD_eq, Ir.rb_p, decide_true, decide_false, Bool.true_and, Bool.and_true, Ir.atA_no, Ir.atA_go, Ir.contA_next, Ir.contA_ret, Ir.size_fix, Ir.size_dyn, Ir.at_fix, Ir.at_dyn, Ir.turn_one, List.length_map, List.getElem?_nil, Ir.tgt, Ir.setAll, Bool.false_eq_true, List.set_nil, List.getElem?_cons_zero, List.getElem?_cons_succ, List.set_cons_zero, List.set_cons_succ, List.map_cons, List.map_nil, List.length_cons, List.length_nil, List.replicate_succ, List.replicate_zero, List.cons_append, List.nil_append, Option.map_some, Option.bind_some, Ir.app_get, Ir.app_get0, Ir.app_set, Ir.app_set0, Ir.app_take, Ir.app_one, Ir.len_app, Nat.reduceAdd, Nat.reduceSub, Nat.reduceLeDiff, if_true, if_false, o0]
  unfold tailY
  rw [s1 _ _ _ _ _ _ _ _ _ K1 a1]
  refine Eq.trans (congrArg (finA _) (s1 _ _ _ _ _ _ _ _ _ K2 a2)) ?_
  refine Eq.trans (congrArg (finA _) (s1 _ _ _ _ _ _ _ _ _ K3 a3)) ?_
  refine Eq.trans (congrArg (finA _) (s1 _ _ _ _ _ _ _ _ _ K4 a4)) ?_
  exact w1
theorem newway_ok (k : Nat) {R S : Sto} {N : Int} (hI : dInv N R S) (hN : N ≤ 2500000) {jk ju jw : Nat} {us ws : List Str} (P : Kit R jk ju jw us ws) (nm : Str) (hn : nm.length ≤ 50) (s : Int) (hs : 0 < s ∧ s ≤ 40) :
    ∃ (w : Way) (S' : Sto), calK fs (k + 4) 16 [.ref 1, .p (.str nm), .ref (jk + 2), .p (.int s)] S = .val (.p w.py) S' ∧ w.Ok ∧ dInv (N + 1200) R S' := by
  have hl := dInv_len hI
  obtain ⟨r1, S1, d1, d2, d3, I1⟩ := draw_ok (k + 2) hI (many := s) (by omega) hs.1 (by omega)
  obtain ⟨r2, S2, f1, f2, f3, I2⟩ := draw_ok (k + 2) I1 (many := 4) (by omega) (by omega) (by omega)
  obtain ⟨many, hmany⟩ : ∃ many : Nat, 1 + r1 = (many : Int) := ⟨(1 + r1).toNat, by omega⟩
  have o0 : (0 : Nat) ≤ 100000 := by omega
  have a1 := allocL S2 [] rfl
  have hl2 := dInv_len I2
  rw [hl2] at a1
  have I3 := dInv_app I2 [.lst []]
  obtain ⟨ens, x7, S4, e1, e2, e3, I4⟩ := ents_ok (k + 2) I3 (by omega) nm jk s many (by omega) (1 + r2) ⟨by omega, by omega⟩
  have rn := srcRng_nat many (by omega)
  obtain ⟨w, S', w1, w2, w3⟩ := tail_ok k I4 (by omega) (by omega) e3 P nm hn s many (by omega) (1 + r2) x7
  refine ⟨w, S', ?_, w2, dInv_mono w3 (by omega)⟩
  rw [c16, callA S rfl, hl]
  show finA _ (exSs _ (.cons (.asg 4 _) (.cons (.asg 5 _) (.cons (.asg 6 _) (.cons (.for_ (.rng (.var 4)) [7] true bodyE) tailY)))) _ _) = _
  unfold slY at e1 w1
  simp -dsimp only [Ir.then_val, Ir.optA_some, Ir.boolA_t, Ir.boolA_f, Ir.seqA_next, Ir.seqA_ret, Ir.wp_val_, Ir.v_var, Ir.v_cst, Ir.v_bin, Ir.v_cmp, Ir.v_chain, Ir.v_and, Ir.v_or, Ir.v_not, Ir.v_ifx, Ir.v_neg, Ir.v_call, Ir.v_tup, Ir.v_lst, Ir.v_idx, Ir.v_idxL, Ir.v_slice, Ir.v_strOf, Ir.v_join, Ir.v_extend, Ir.v_append, Ir.v_len, Ir.v_isi, Ir.v_toInt, Ir.v_all, Ir.v_tupOf, Ir.v_dictOf, Ir.v_dlit, Ir.v_dget3, Ir.v_eqL, Ir.v_op1, Ir.v_op2, Ir.v_fstr, Ir.f_nil, Ir.f_cons, Ir.a_nil', Ir.a_cons', Ir.a_star', Ir.l_disp', Ir.l_of', Ir.l_cat', Ir.l_cut', Ir.b_no', Ir.b_at', Ir.i_tup', Ir.i_lst', Ir.i_str', Ir.i_rng', Ir.ss_nil', Ir.ss_asg, Ir.ss_expr, Ir.ss_ret, Ir.ss_unp, Ir.ss_ite, Ir.ss_setI, Ir.ss_for, Ir.finA_p, Ir.strD_str, Ir.ofD_tup, Ir.dicAt_eq, Ir.lstAt_eq, Ir.dget3_str, Ir.dixD_int, Ir.srcLst_eq, Ir.ofD_ref, Ir.tupD_ref, Ir.lenD_ref, Ir.lenD_tup, Ir.getI_ref, Ir.lsA_lst, Ir.ifA_t, Ir.appD_eq, Ir.extD_eq, Ir.catD_eq, Ir.rb_p, decide_true, decide_false, Bool.true_and, Bool.and_true, Ir.atA_no, Ir.atA_go, Ir.contA_next, Ir.contA_ret, Ir.size_fix, Ir.size_dyn, Ir.at_fix, Ir.at_dyn, Ir.turn_one, List.length_map, List.getElem?_nil, Ir.tgt, Ir.setAll, Bool.false_eq_true, List.set_nil, List.getElem?_cons_zero, List.getElem?_cons_succ, List.set_cons_zero, List.set_cons_succ, List.map_cons, List.map_nil, List.length_cons, List.length_nil, List.replicate_succ, List.replicate_zero, List.cons_append, List.nil_append, Option.map_some, Option.bind_some, Ir.app_get, Ir.app_get0, Ir.app_set, Ir.app_set0, Ir.app_take, Ir.app_one, Ir.len_app, Nat.reduceAdd, Nat.reduceSub, Nat.reduceLeDiff, if_true, if_false, d1, bop_add, f1, hmany, o0, a1, rn, List.length_range, e1]
  exact w1
end Ir.K04
set_option Elab.async false
set_option linter.all false
set_option maxRecDepth 100000
set_option maxHeartbeats 4000001
namespace Ir.K04
open PySem
theorem c17 (k : Nat) : calK fs (k + 1) 17 = callF (calK fs k) ⟨3, 11, b17⟩ := rfl
abbrev fdD : Str × Str → D := fun f => .p (fdPy f)
abbrev wyD : Way → D := fun w => .p w.py
/-- a kind's slots -/
def slX (jn jk : Nat) (s3 s4 a5 f6 f7 x8 w9 x10 : Option D) : Sl := [some (.ref 1), some (.ref jn), some (.ref (jk + 2)), s3, s4, a5, f6, f7, x8, w9, x10]
def bodyF : Ss := (.cons (.expr (.append (.var 7) (.tup (.cons (.var 8) (.cons tyE .nil))))) .nil)
theorem fields_ok (k : Nat) {R S : Sto} {N : Int} {zs : List Str} (hz : ∀ z ∈ zs, Nm z) (hl : zs.length ≤ 10) (hI : dInv N (R ++ [.lst [], .lst (zs.map fz)]) S) (hN : N ≤ 3000000) {jk ju jw : Nat} {us ws : List Str} (P : Kit R jk ju jw us ws) (jn : Nat) (s3 s4 a5 f6 : Option D) :
    ∃ (fds : List (Str × Str)) (T : Sto) (x8 : Option D) (S' : Sto), forGo (.dyn (R.length + 3)) (turn (calK fs (k + 1)) [8] true bodyF) zs.length 0 (slX jn jk s3 s4 a5 f6 (some (.ref (R.length + 2))) none none none) S =
        .val (.next, slX jn jk s3 s4 a5 f6 (some (.ref (R.length + 2))) x8 none none) S' ∧
      fds.length ≤ zs.length ∧ (∀ f ∈ fds, f.1.length ≤ 50 ∧ f.2.length ≤ 50) ∧ dInv (N + 10) (R ++ .lst (fds.map fdD) :: .lst (zs.map fz) :: T) S' := by
  obtain ⟨ρ', S', e1, fds, T, x8, e2, e3, e4, e5⟩ := for_dyn (ds := zs.map fz) (j := R.length + 3) (body := turn (calK fs (k + 1)) [8] true bodyF)
    (okS := fun c S' => ∃ (fds : List (Str × Str)) (T : Sto) (x8 : Option D), c.2 = slX jn jk s3 s4 a5 f6 (some (.ref (R.length + 2))) x8 none none ∧ fds.length ≤ zs.length ∧ (∀ f ∈ fds, f.1.length ≤ 50 ∧ f.2.length ≤ 50) ∧ dInv (N + 10) (R ++ .lst (fds.map fdD) :: .lst (zs.map fz) :: T) S')
    (fun i ρ S' => ∃ (fds : List (Str × Str)) (T : Sto) (x8 : Option D), ρ = slX jn jk s3 s4 a5 f6 (some (.ref (R.length + 2))) x8 none none ∧ fds.length ≤ i ∧ (∀ f ∈ fds, f.1.length ≤ 50 ∧ f.2.length ≤ 50) ∧ dInv (N + i) (R ++ .lst (fds.map fdD) :: .lst (zs.map fz) :: T) S')
    (fun i ρ S ⟨fds, T, x8, h1, h2, h3, h4⟩ => by rw [show R.length + 3 = R.length + 1 + 2 from rfl, dInv_get h4]; exact app_get R _ 1)
    (fun ρ S' ⟨fds, T, x8, h1, h2, h3, h4⟩ => ⟨fds, T, x8, h1, by simpa using h2, h3, dInv_mono h4 (by simp; omega)⟩)
    (fun i d ρ S hd ⟨fds, T, x8, h1, h2, h3, h4⟩ => by
      subst h1
      obtain ⟨hi, hd⟩ := List.getElem?_eq_some_iff.mp hd
      rw [List.length_map] at hi
      rw [List.getElem_map] at hd
      subst hd
      have hm : zs[i] ∈ zs := List.getElem_mem hi
      generalize zs[i] = z at hm
      obtain ⟨t, S1, t1, t2, t3⟩ := ty_ok k h4 (by omega) (P.app (.lst (fds.map fdD) :: .lst (zs.map fz) :: T)) (ρ := [some (.ref 1), some (.ref jn), some (.ref (jk + 2)), s3, s4, a5, f6, some (.ref (R.length + 2)), some (.p (.str z)), none, none]) rfl rfl
      have I3 := t3
      rw [List.append_assoc] at I3
      have g1 : S[R.length + 2]? = some (.lst (fds.map fdD)) := by rw [dInv_get h4]; exact app_get0 ..
      have g2 : S1[R.length + 2]? = some (.lst (fds.map fdD)) := by rw [dInv_get I3]; exact app_get0 ..
      have hl : decide (fds.length < 100000) = true := decide_eq_true (by omega)
      have z2 : (2 : Nat) ≤ sizeLine := by rw [sizeLine_eq]; omega
      have pl : plainOf [D.p (.str z), .p (.str t)] = some [.str z, .str t] := rfl
      have I4 := dInv_set I3 R.length (.lst ((fds ++ [((z : Str), (t : Str))]).map fdD))
      rw [app_set0] at I4
      refine ⟨_, _, ?_, fds ++ [((z : Str), (t : Str))], T ++ [.lst [.p (.str "num")]], some (.p (.str z)), rfl, by simp; omega, fun f hf => ?_, dInv_mono I4 (by omega)⟩
      · unfold bodyF slX
        rw [List.map_append]
        simp -dsimp only [Ir.then_val, Ir.optA_some, Ir.boolA_t, Ir.boolA_f, Ir.seqA_next, Ir.seqA_ret, Ir.wp_val_, Ir.v_var, Ir.v_cst, Ir.v_bin, Ir.v_cmp, Ir.v_chain, Ir.v_and, Ir.v_or, Ir.v_not, Ir.v_ifx, Ir.v_neg, Ir.v_call, Ir.v_tup, Ir.v_lst, Ir.v_idx, Ir.v_idxL, Ir.v_slice, Ir.v_strOf, Ir.v_join, Ir.v_extend, Ir.v_append, Ir.v_len, Ir.v_isi, Ir.v_toInt, Ir.v_all, Ir.v_tupOf, Ir.v_dictOf, Ir.v_dlit, Ir.v_dget3, Ir.v_eqL, Ir.v_op1, Ir.v_op2, Ir.v_fstr, Ir.f_nil, Ir.f_cons, Ir.a_nil', Ir.a_cons', Ir.a_star', Ir.l_disp', Ir.l_of', Ir.l_cat', Ir.l_cut', Ir.b_no', Ir.b_at', Ir.i_tup', Ir.i_lst', Ir.i_str', Ir.i_rng', Ir.ss_nil', Ir.ss_asg, Ir.ss_expr, Ir.ss_ret, Ir.ss_unp, Ir.ss_ite, Ir.ss_setI, Ir.ss_for, Ir.finA_p, Ir.strD_str, Ir.ofD_tup, Ir.dicAt_eq, Ir.lstAt_eq, Ir.dget3_str, Ir.dixD_int, Ir.srcLst_eq, Ir.ofD_ref, Ir.tupD_ref, Ir.lenD_ref, Ir.lenD_tup, Ir.getI_ref, Ir.lsA_lst, Ir.ifA_t, Ir.appD_eq, Ir.extD_eq, Ir.catD_eq, Ir.rb_p, decide_true, decide_false, Bool.true_and, Bool.and_true, Ir.atA_no, Ir.atA_go, Ir.contA_next, Ir.contA_ret, Ir.size_fix, Ir.size_dyn, Ir.at_fix, Ir.at_dyn, Ir.turn_one, List.length_map, List.getElem?_nil, Ir.tgt, Ir.setAll, Bool.false_eq_true, List.set_nil, List.getElem?_cons_zero, List.getElem?_cons_succ, List.set_cons_zero, List.set_cons_succ, List.map_cons, List.map_nil, List.length_cons, List.length_nil, List.replicate_succ, List.replicate_zero, List.cons_append, List.nil_append, Option.map_some, Option.bind_some, Ir.app_get, Ir.app_get0, Ir.app_set, Ir.app_set0, Ir.app_take, Ir.app_one, Ir.len_app, Nat.reduceAdd, Nat.reduceSub, Nat.reduceLeDiff, if_true, if_false, g1, t1, z2, pl, g2, hl]
        try simp
      · rcases List.mem_append.mp hf with hf | hf
        · exact h3 f hf
        · rw [List.mem_singleton] at hf; subst hf
          exact ⟨by have := (hz z hm).len; simp only; omega, t2⟩) zs.length 0 _ S (by simp) ⟨[], [], none, rfl, by simp, (fun e he => nomatch he), by simpa using hI⟩
  exact ⟨fds, T, x8, S', e1.trans (congrArg (fun r => Out.val (Ctl.next, r) S') e2), e3, e4, e5⟩
def bodyW : Ss := (.cons (.expr (.append (.var 9) (.call 16 (.cons (.var 0) (.cons (.var 10) (.cons (.var 2) (.cons (.var 4) .nil))))))) .nil)
theorem ways_ok (k : Nat) {R S : Sto} {N : Int} {zs : List Str} (hz : ∀ z ∈ zs, Nm z) (hl : zs.length ≤ 10) (hI : dInv N (R ++ [.lst [], .lst (zs.map fz)]) S) (hN : N ≤ 2000000) {jk ju jw : Nat} {us ws : List Str} (P : Kit R jk ju jw us ws) (jn : Nat) (s3 a5 f6 f7 x8 : Option D) (s : Int) (hs : 0 < s ∧ s ≤ 40) :
    ∃ (wys : List Way) (x10 : Option D) (S' : Sto), forGo (.dyn (R.length + 3)) (turn (calK fs (k + 4)) [10] true bodyW) zs.length 0 (slX jn jk s3 (some (.p (.int s))) a5 f6 f7 x8 (some (.ref (R.length + 2))) none) S =
        .val (.next, slX jn jk s3 (some (.p (.int s))) a5 f6 f7 x8 (some (.ref (R.length + 2))) x10) S' ∧
      wys.length ≤ zs.length ∧ (∀ w ∈ wys, w.Ok) ∧ dInv (N + 12000) (R ++ [.lst (wys.map wyD), .lst (zs.map fz)]) S' := by
  obtain ⟨ρ', S', e1, wys, x10, e2, e3, e4, e5⟩ := for_dyn (ds := zs.map fz) (j := R.length + 3) (body := turn (calK fs (k + 4)) [10] true bodyW)
    (okS := fun c S' => ∃ (wys : List Way) (x10 : Option D), c.2 = slX jn jk s3 (some (.p (.int s))) a5 f6 f7 x8 (some (.ref (R.length + 2))) x10 ∧ wys.length ≤ zs.length ∧ (∀ w ∈ wys, w.Ok) ∧ dInv (N + 12000) (R ++ [.lst (wys.map wyD), .lst (zs.map fz)]) S')
    (fun i ρ S' => ∃ (wys : List Way) (x10 : Option D), ρ = slX jn jk s3 (some (.p (.int s))) a5 f6 f7 x8 (some (.ref (R.length + 2))) x10 ∧ wys.length ≤ i ∧ (∀ w ∈ wys, w.Ok) ∧ dInv (N + 1200 * i) (R ++ [.lst (wys.map wyD), .lst (zs.map fz)]) S')
    (fun i ρ S ⟨wys, x10, h1, h2, h3, h4⟩ => by rw [show R.length + 3 = R.length + 1 + 2 from rfl, dInv_get h4]; exact app_get R _ 1)
    (fun ρ S' ⟨wys, x10, h1, h2, h3, h4⟩ => ⟨wys, x10, h1, by simpa using h2, h3, dInv_mono h4 (by simp; omega)⟩)
    (fun i d ρ S hd ⟨wys, x10, h1, h2, h3, h4⟩ => by
      subst h1
      obtain ⟨hi, hd⟩ := List.getElem?_eq_some_iff.mp hd
      rw [List.length_map] at hi
      rw [List.getElem_map] at hd
      subst hd
      have hm : zs[i] ∈ zs := List.getElem_mem hi
      generalize zs[i] = z at hm
      obtain ⟨w, S1, t1, t2, I3⟩ := newway_ok k h4 (by omega) (P.app _) z (by have := (hz z hm).len; omega) s hs
      have g1 : S[R.length + 2]? = some (.lst (wys.map wyD)) := by rw [dInv_get h4]; exact app_get0 ..
      have g2 : S1[R.length + 2]? = some (.lst (wys.map wyD)) := by rw [dInv_get I3]; exact app_get0 ..
      have hl : decide (wys.length < 100000) = true := decide_eq_true (by omega)
      have I4 := dInv_set I3 R.length (.lst ((wys ++ [w]).map wyD))
      rw [app_set0] at I4
      refine ⟨_, _, ?_, wys ++ [w], some (.p (.str z)), rfl, by simp; omega, fun f hf => ?_, dInv_mono I4 (by omega)⟩
      · unfold bodyW slX
        rw [List.map_append]
        simp -dsimp only [Ir.then_val, Ir.optA_some, Ir.boolA_t, Ir.boolA_f, Ir.seqA_next, Ir.seqA_ret, Ir.wp_val_, Ir.v_var, Ir.v_cst, Ir.v_bin, Ir.v_cmp, Ir.v_chain, Ir.v_and, Ir.v_or, Ir.v_not, Ir.v_ifx, Ir.v_neg, Ir.v_call, Ir.v_tup, Ir.v_lst, Ir.v_idx, Ir.v_idxL, Ir.v_slice, Ir.v_strOf, Ir.v_join, Ir.v_extend, Ir.v_append, Ir.v_len, Ir.v_isi, Ir.v_toInt, Ir.v_all, Ir.v_tupOf, Ir.v_dictOf, Ir.v_dlit, Ir.v_dget3, Ir.v_eqL, Ir.v_op1, Ir.v_op2, Ir.v_fstr, Ir.f_nil, Ir.f_cons, Ir.a_nil', Ir.a_cons', Ir.a_star', Ir.l_disp', Ir.l_of', Ir.l_cat', Ir.l_cut', Ir.b_no', Ir.b_at', Ir.i_tup', Ir.i_lst', Ir.i_str', Ir.i_rng', Ir.ss_nil', Ir.ss_asg, Ir.ss_expr, Ir.ss_ret, Ir.ss_unp, Ir.ss_ite, Ir.ss_setI, Ir.ss_for, Ir.finA_p, Ir.strD_str, Ir.ofD_tup, Ir.dicAt_eq, Ir.lstAt_eq, Ir.dget3_str, Ir.dixD_int, Ir.srcLst_eq, Ir.ofD_ref, Ir.tupD_ref, Ir.lenD_ref, Ir.lenD_tup, Ir.getI_ref, Ir.lsA_lst, Ir.ifA_t, Ir.appD_eq, Ir.extD_eq, Ir.catD_eq, Ir.rb_p, decide_true, decide_false, Bool.true_and, Bool.and_true, Ir.atA_no, Ir.atA_go, Ir.contA_next, Ir.contA_ret, Ir.size_fix, Ir.size_dyn, Ir.at_fix, Ir.at_dyn, Ir.turn_one, List.length_map, List.getElem?_nil, Ir.tgt, Ir.setAll, Bool.false_eq_true, List.set_nil, List.getElem?_cons_zero, List.getElem?_cons_succ, List.set_cons_zero, List.set_cons_succ, List.map_cons, List.map_nil, List.length_cons, List.length_nil, List.replicate_succ, List.replicate_zero, List.cons_append, List.nil_append, Option.map_some, Option.bind_some, Ir.app_get, Ir.app_get0, Ir.app_set, Ir.app_set0, Ir.app_take, Ir.app_one, Ir.len_app, Nat.reduceAdd, Nat.reduceSub, Nat.reduceLeDiff, if_true, if_false, g1, t1, g2, hl]
        try simp
      · rcases List.mem_append.mp hf with hf | hf
        · exact h3 f hf
        · rw [List.mem_singleton] at hf; subst hf; exact t2) zs.length 0 _ S (by simp) ⟨[], none, rfl, by simp, (fun e he => nomatch he), by simpa using hI⟩
  exact ⟨wys, x10, S', e1.trans (congrArg (fun r => Out.val (Ctl.next, r) S') e2), e3, e4, e5⟩
end Ir.K04
set_option Elab.async false
set_option linter.all false
set_option maxRecDepth 100000
set_option maxHeartbeats 4000001
namespace Ir.K04
open PySem
def endX : Ss := (.cons (.ret (.tup (.cons (.cst (.p (.str "kind"))) (.cons (.idx (.var 1) (.cst (.p (.int 0)))) (.cons (.var 5) (.cons (.var 6) (.cons (.tupOf (.var 7)) (.cons (.tupOf (.var 9)) .nil))))))))
    .nil)
def tailW : Ss := (.cons (.asg 9 (.lst (.disp .nil)))
    (.cons (.for_ (.lst (.call 10 (.cons (.var 0) (.cons (.cst (.p (.bool false))) (.cons (.call 8 (.cons (.var 0) (.cons (.bin .add (.var 3) (.cst (.p (.int 1)))) .nil))) .nil))))) [10] true bodyW) endX))
def tailF : Ss := (.cons (.asg 7 (.lst (.disp .nil)))
    (.cons (.for_ (.lst (.call 10 (.cons (.var 0) (.cons (.cst (.p (.bool false))) (.cons (.call 8 (.cons (.var 0) (.cons (.cst (.p (.int 7))) .nil))) .nil))))) [8] true bodyF) tailW))
theorem kw_ok (k : Nat) {R X S : Sto} {N : Int} (hI : dInv N (R ++ X) S) (hN : N ≤ 1800000) {jk ju jw jn jf : Nat} {us ws : List Str} (P : Kit R jk ju jw us ws) {nm above : Str} {faces : List Str} {fds : List (Str × Str)} (hj : R[jn]? = some (.lst [.p (.str nm)])) (hf : (R ++ X)[jf]? = some (.lst (fds.map fdD)))
    (hnm : nm.length ≤ 50) (hab : above.length ≤ 50) (hfc : ∀ f ∈ faces, Nm f) (hfl : faces.length ≤ 5) (hfd : ∀ f ∈ fds, f.1.length ≤ 50 ∧ f.2.length ≤ 50) (hdl : fds.length ≤ 6) (m s : Int) (hm : 0 ≤ m ∧ m ≤ 8) (hs : 0 < s ∧ s ≤ 40) (x8 : Option D) :
    ∃ (u : Kind) (S' : Sto), finA (R.length + 2) (exSs (calK fs (k + 4)) tailW (slX (jn + 2) jk (some (.p (.int m))) (some (.p (.int s))) (some (.p (.str above))) (some (.p (.tuple (faces.map .str)))) (some (.ref (jf + 2))) x8 none none) S) = .val (.p u.py) S' ∧ u.Ok ∧ dInv (N + 13000) R S' := by
  have hl := dInv_len hI
  have o0 : (0 : Nat) ≤ 100000 := by omega
  have a1 := allocL S [] rfl
  rw [hl] at a1
  have I1 := dInv_app hI [.lst []]
  obtain ⟨r, S1, d1, d2, d3, I2⟩ := draw_ok (k + 3) I1 (many := m + 1) (by omega) (by omega) (by omega)
  obtain ⟨n, rfl⟩ : ∃ n : Nat, r = n := ⟨r.toNat, by omega⟩
  obtain ⟨zs, S2, w1, w2, w3, I3⟩ := words_ok (k + 1) false n (by omega) I2 (by omega)
  have hlen : (R ++ X ++ [MO.lst []]).length + 2 = (R ++ X).length + 3 := by rw [List.length_append]; rfl
  rw [hlen] at w1
  have I3' := I3
  rw [List.append_assoc (R ++ X)] at I3'
  have g1 : S2[(R ++ X).length + 3]? = some (.lst (zs.map fz)) := by rw [show (R ++ X).length + 3 = (R ++ X).length + 1 + 2 from rfl, dInv_get I3']; exact app_get _ _ 1
  obtain ⟨wys, x10, S3, e1, e2, e3, I4⟩ := ways_ok k w3 (by omega) I3' (by omega) (P.app X) (jn + 2) (some (.p (.int m))) (some (.p (.str above))) (some (.p (.tuple (faces.map .str)))) (some (.ref (jf + 2))) x8 s hs
  have gf : S3[jf + 2]? = some (.lst (fds.map fdD)) := by rw [dInv_get I4]; exact get_app _ hf
  have gw : S3[(R ++ X).length + 2]? = some (.lst (wys.map wyD)) := by rw [dInv_get I4]; exact app_get0 ..
  have gn : S3[jn + 2]? = some (.lst [.p (.str nm)]) := by rw [dInv_get I4]; exact get_app _ (get_app _ hj)
  have p1 : plainOf (fds.map fdD) = some (fds.map fdPy) := by
    have := plainOf_map (fds.map fdPy)
    rw [List.map_map] at this
    exact this
  have p2 : plainOf (wys.map wyD) = some (wys.map Way.py) := by
    have := plainOf_map (wys.map Way.py)
    rw [List.map_map] at this
    exact this
  have pl : plainOf [D.p (.str "kind"), .p (.str nm), .p (.str above), .p (.tuple (faces.map .str)), .p (.tuple (fds.map fdPy)), .p (.tuple (wys.map Way.py))] = some [.str "kind", .str nm, .str above, .tuple (faces.map .str), .tuple (fds.map fdPy), .tuple (wys.map Way.py)] := rfl
  have z6 : (6 : Nat) ≤ sizeLine := by rw [sizeLine_eq]; omega
  have at0 : L2.atI [D.p (.str nm)] 0 = some (.p (.str nm)) := rfl
  have I5 := I4
  rw [List.append_assoc] at I5
  refine ⟨⟨nm, above, faces, fds, wys⟩, S3.take (R.length + 2), ?_, ⟨hnm, hab, fun f hf => by have := (hfc f hf).len; omega, hfl, shaped_tup hfc, hfd, hdl, e3, by simp only; omega⟩, dInv_mono (dInv_take I5) (by omega)⟩
  unfold tailW slX
  unfold slX at e1
  simp only [Ir.len_app] at a1 w1 g1 e1 gw
  simp -dsimp only [Ir.then_val, Ir.optA_some, Ir.boolA_t, Ir.boolA_f, Ir.seqA_next, Ir.seqA_ret, Ir.wp_val_, Ir.v_var, Ir.v_cst, Ir.v_bin, Ir.v_cmp, Ir.v_chain, Ir.v_and, Ir.v_or, Ir.v_not, Ir.v_ifx, Ir.v_neg, Ir.v_call, Ir.v_tup, Ir.v_lst, Ir.v_idx, Ir.v_idxL, Ir.v_slice, Ir.v_strOf, Ir.v_join, Ir.v_extend, Ir.v_append, Ir.v_len, Ir.v_isi, Ir.v_toInt, Ir.v_all, Ir.v_tupOf, Ir.v_dictOf, Ir.v_dlit, Ir.v_dget3, Ir.v_eqL, Ir.v_op1, Ir.v_op2, Ir.v_fstr, Ir.f_nil, Ir.f_cons, Ir.a_nil', Ir.a_cons', Ir.a_star', Ir.l_disp', Ir.l_of', Ir.l_cat', Ir.l_cut', Ir.b_no', Ir.b_at', Ir.i_tup', Ir.i_lst', Ir.i_str', Ir.i_rng', Ir.ss_nil', Ir.ss_asg, Ir.ss_expr, Ir.ss_ret, Ir.ss_unp, Ir.ss_ite, Ir.ss_setI, Ir.ss_for, Ir.finA_p, Ir.strD_str, Ir.ofD_tup, Ir.dicAt_eq, Ir.lstAt_eq, Ir.dget3_str, Ir.dixD_int, Ir.srcLst_eq, Ir.ofD_ref, Ir.tupD_ref, Ir.lenD_ref, Ir.lenD_tup, Ir.getI_ref, Ir.lsA_lst, Ir.ifA_t, Ir.appD_eq, Ir.extD_eq, Ir.catD_eq, Ir.rb_p, decide_true, decide_false, Bool.true_and, Bool.and_true, Ir.atA_no, Ir.atA_go, Ir.contA_next, Ir.contA_ret, Ir.size_fix, Ir.size_dyn, Ir.at_fix, Ir.at_dyn, Ir.turn_one, List.length_map, List.getElem?_nil, Ir.tgt, Ir.setAll, Bool.false_eq_true, List.set_nil, List.getElem?_cons_zero, List.getElem?_cons_succ, List.set_cons_zero, List.set_cons_succ, List.map_cons, List.map_nil, List.length_cons, List.length_nil, List.replicate_succ, List.replicate_zero, List.cons_append, List.nil_append, Option.map_some, Option.bind_some, Ir.app_get, Ir.app_get0, Ir.app_set, Ir.app_set0, Ir.app_take, Ir.app_one, Ir.len_app, Nat.reduceAdd, Nat.reduceSub, Nat.reduceLeDiff, if_true, if_false, o0, a1, bop_add, d1, w1, g1, e1]
  unfold endX
  simp -dsimp only [Ir.then_val, Ir.optA_some, Ir.boolA_t, Ir.boolA_f, Ir.seqA_next, Ir.seqA_ret, Ir.wp_val_, Ir.v_var, Ir.v_cst, Ir.v_bin, Ir.v_cmp, Ir.v_chain, Ir.v_and, Ir.v_or, Ir.v_not, Ir.v_ifx, Ir.v_neg, Ir.v_call, Ir.v_tup, Ir.v_lst, Ir.v_idx, Ir.v_idxL, Ir.v_slice, Ir.v_strOf, Ir.v_join, Ir.v_extend, Ir.v_append, Ir.v_len, Ir.v_isi, Ir.v_toInt, Ir.v_all, Ir.v_tupOf, Ir.v_dictOf, Ir.v_dlit, Ir.v_dget3, Ir.v_eqL, Ir.v_op1, Ir.v_op2, Ir.v_fstr, Ir.f_nil, Ir.f_cons, Ir.a_nil', Ir.a_cons', Ir.a_star', Ir.l_disp', Ir.l_of', Ir.l_cat', Ir.l_cut', Ir.b_no', Ir.b_at', Ir.i_tup', Ir.i_lst', Ir.i_str', Ir.i_rng', Ir.ss_nil', Ir.ss_asg, Ir.ss_expr, Ir.ss_ret, Ir.ss_unp, Ir.ss_ite, Ir.ss_setI, Ir.ss_for, Ir.finA_p, Ir.strD_str, Ir.ofD_tup, Ir.dicAt_eq, Ir.lstAt_eq, Ir.dget3_str, Ir.dixD_int, Ir.srcLst_eq, Ir.ofD_ref, Ir.tupD_ref, Ir.lenD_ref, Ir.lenD_tup, Ir.getI_ref, Ir.lsA_lst, Ir.ifA_t, Ir.appD_eq, Ir.extD_eq, Ir.catD_eq, Ir.rb_p, decide_true, decide_false, Bool.true_and, Bool.and_true, Ir.atA_no, Ir.atA_go, Ir.contA_next, Ir.contA_ret, Ir.size_fix, Ir.size_dyn, Ir.at_fix, Ir.at_dyn, Ir.turn_one, List.length_map, List.getElem?_nil, Ir.tgt, Ir.setAll, Bool.false_eq_true, List.set_nil, List.getElem?_cons_zero, List.getElem?_cons_succ, List.set_cons_zero, List.set_cons_succ, List.map_cons, List.map_nil, List.length_cons, List.length_nil, List.replicate_succ, List.replicate_zero, List.cons_append, List.nil_append, Option.map_some, Option.bind_some, Ir.app_get, Ir.app_get0, Ir.app_set, Ir.app_set0, Ir.app_take, Ir.app_one, Ir.len_app, Nat.reduceAdd, Nat.reduceSub, Nat.reduceLeDiff, if_true, if_false, gn, at0, gf, p1, gw, p2, z6, pl]
  rfl
end Ir.K04
set_option Elab.async false
set_option linter.all false
set_option maxRecDepth 100000
set_option maxHeartbeats 4000001
namespace Ir.K04
open PySem
theorem kf_ok (k : Nat) {R X S : Sto} {N : Int} (hI : dInv N (R ++ X) S) (hN : N ≤ 1700000) {jk ju jw jn : Nat} {us ws : List Str} (P : Kit R jk ju jw us ws) {nm above : Str} {faces : List Str} (hj : R[jn]? = some (.lst [.p (.str nm)]))
    (hnm : nm.length ≤ 50) (hab : above.length ≤ 50) (hfc : ∀ f ∈ faces, Nm f) (hfl : faces.length ≤ 5) (m s : Int) (hm : 0 ≤ m ∧ m ≤ 8) (hs : 0 < s ∧ s ≤ 40) :
    ∃ (u : Kind) (S' : Sto), finA (R.length + 2) (exSs (calK fs (k + 4)) tailF (slX (jn + 2) jk (some (.p (.int m))) (some (.p (.int s))) (some (.p (.str above))) (some (.p (.tuple (faces.map .str)))) none none none none) S) = .val (.p u.py) S' ∧ u.Ok ∧ dInv (N + 14000) R S' := by
  have hl := dInv_len hI
  have o0 : (0 : Nat) ≤ 100000 := by omega
  have a1 := allocL S [] rfl
  rw [hl] at a1
  have I1 := dInv_app hI [.lst []]
  obtain ⟨r, S1, d1, d2, d3, I2⟩ := draw_ok (k + 3) I1 (many := 7) (by omega) (by omega) (by omega)
  obtain ⟨n, rfl⟩ : ∃ n : Nat, r = n := ⟨r.toNat, by omega⟩
  obtain ⟨zs, S2, w1, w2, w3, I3⟩ := words_ok (k + 1) false n (by omega) I2 (by omega)
  have hlen : (R ++ X ++ [MO.lst []]).length + 2 = (R ++ X).length + 3 := by rw [List.length_append]; rfl
  rw [hlen] at w1
  have I3' := I3
  rw [List.append_assoc (R ++ X)] at I3'
  have g1 : S2[(R ++ X).length + 3]? = some (.lst (zs.map fz)) := by rw [show (R ++ X).length + 3 = (R ++ X).length + 1 + 2 from rfl, dInv_get I3']; exact app_get _ _ 1
  obtain ⟨fds, T, x8, S3, e1, e2, e3, I4⟩ := fields_ok (k + 3) w3 (by omega) I3' (by omega) (P.app X) (jn + 2) (some (.p (.int m))) (some (.p (.int s))) (some (.p (.str above))) (some (.p (.tuple (faces.map .str))))
  have I5 := I4
  rw [List.append_assoc] at I5
  obtain ⟨u, S', u1, u2, u3⟩ := kw_ok k (X := X ++ .lst (fds.map fdD) :: .lst (zs.map fz) :: T) I5 (by omega) P hj (jf := (R ++ X).length) (fds := fds) (by rw [← List.append_assoc]; exact app_get0 ..) hnm hab hfc hfl e3 (by omega) m s hm hs x8
  refine ⟨u, S', ?_, u2, dInv_mono u3 (by omega)⟩
  unfold tailF slX
  unfold slX at e1 u1
  simp only [Ir.len_app] at a1 w1 g1 e1 u1
  simp -dsimp only [Ir.then_val, Ir.optA_some, Ir.boolA_t, Ir.boolA_f, Ir.seqA_next, Ir.seqA_ret, Ir.wp_val_, Ir.v_var, Ir.v_cst, Ir.v_bin, Ir.v_cmp, Ir.v_chain, Ir.v_and, Ir.v_or, Ir.v_not, Ir.v_ifx, Ir.v_neg, Ir.v_call, Ir.v_tup, Ir.v_lst, Ir.v_idx, Ir.v_idxL, Ir.v_slice, Ir.v_strOf, Ir.v_join, Ir.v_extend, Ir.v_append, Ir.v_len, Ir.v_isi, Ir.v_toInt, Ir.v_all, Ir.v_tupOf, Ir.v_dictOf, Ir.v_dlit, Ir.v_dget3, Ir.v_eqL, Ir.v_op1, Ir.v_op2, Ir.v_fstr, Ir.f_nil, Ir.f_cons, Ir.a_nil', Ir.a_cons', Ir.a_star', Ir.l_disp', Ir.l_of', Ir.l_cat', Ir.l_cut', Ir.b_no', Ir.b_at', Ir.i_tup', Ir.i_lst', Ir.i_str', Ir.i_rng', Ir.ss_nil', Ir.ss_asg, Ir.ss_expr, Ir.ss_ret, Ir.ss_unp, Ir.ss_ite, Ir.ss_setI, Ir.ss_for, Ir.finA_p, Ir.strD_str, Ir.ofD_tup, Ir.dicAt_eq, Ir.lstAt_eq, Ir.dget3_str, Ir.dixD_int, Ir.srcLst_eq, Ir.ofD_ref, Ir.tupD_ref, Ir.lenD_ref, Ir.lenD_tup, Ir.getI_ref, Ir.lsA_lst, Ir.ifA_t, Ir.appD_eq, Ir.extD_eq, Ir.catD_eq, Ir.rb_p, decide_true, decide_false, Bool.true_and, Bool.and_true, Ir.atA_no, Ir.atA_go, Ir.contA_next, Ir.contA_ret, Ir.size_fix, Ir.size_dyn, Ir.at_fix, Ir.at_dyn, Ir.turn_one, List.length_map, List.getElem?_nil, Ir.tgt, Ir.setAll, Bool.false_eq_true, List.set_nil, List.getElem?_cons_zero, List.getElem?_cons_succ, List.set_cons_zero, List.set_cons_succ, List.map_cons, List.map_nil, List.length_cons, List.length_nil, List.replicate_succ, List.replicate_zero, List.cons_append, List.nil_append, Option.map_some, Option.bind_some, Ir.app_get, Ir.app_get0, Ir.app_set, Ir.app_set0, Ir.app_take, Ir.app_one, Ir.len_app, Nat.reduceAdd, Nat.reduceSub, Nat.reduceLeDiff, if_true, if_false, o0, a1, d1, w1, g1, e1]
  exact u1
def sizes : List (Int × Int) := [(3, 9), (3, 9), (3, 9), (3, 9), (3, 9), (3, 9), (8, 3), (1, 40)]
theorem cutLD_eq (S : Sto) (x : D) (lo hi : Option Int) : cutLD S x lo hi = (lstAt S x).map fun ds => cutD ds lo hi := rfl
theorem newkind_ok (k : Nat) {R S : Sto} {N : Int} (hI : dInv N R S) (hN : N ≤ 1600000) {jk ju jw jn : Nat} {us ws : List Str} (P : Kit R jk ju jw us ws) {nm : Str} (hj : R[jn]? = some (.lst [.p (.str nm)])) (hnm : nm.length ≤ 50) (hus : us.length ≤ 5) :
    ∃ (u : Kind) (S' : Sto), calK fs (k + 5) 17 [.ref 1, .ref (jn + 2), .ref (jk + 2)] S = .val (.p u.py) S' ∧ u.Ok ∧ dInv (N + 15000) R S' := by
  have hl := dInv_len hI
  have o8 : (8 : Nat) ≤ 100000 := by omega
  have o2 : (2 : Nat) ≤ 100000 := by omega
  have z2 : (2 : Nat) ≤ sizeLine := by rw [sizeLine_eq]; omega
  obtain ⟨r1, S1, d1, d2, d3, I1⟩ := draw_ok (k + 3) hI (many := 8) (by omega) (by omega) (by omega)
  obtain ⟨pd, p1, pm⟩ := pick (sizes.map fun e => D.p (enPy e)) d2 d3
  obtain ⟨⟨m, s⟩, hms, rfl⟩ := List.mem_map.mp pm
  have hms : (0 ≤ m ∧ m ≤ 8) ∧ (0 < s ∧ s ≤ 40) := by
    simp only [sizes, List.mem_cons, List.not_mem_nil, or_false, Prod.mk.injEq] at hms
    omega
  simp only [sizes, List.map_cons, List.map_nil, enPy] at p1
  have q39 : plainOf [D.p (.int 3), .p (.int 9)] = some [.int 3, .int 9] := rfl
  have q83 : plainOf [D.p (.int 8), .p (.int 3)] = some [.int 8, .int 3] := rfl
  have q14 : plainOf [D.p (.int 1), .p (.int 40)] = some [.int 1, .int 40] := rfl
  obtain ⟨r2, S2, f1, f2, f3, I2⟩ := draw_ok (k + 3) I1 (many := 2) (by omega) (by omega) (by omega)
  have gk : ∀ {S' : Sto} {M : Int}, dInv M R S' → S'[jk + 2]? = some (.lst [.ref (ju + 2), .ref (jw + 2)]) := fun q => by rw [dInv_get q]; exact P.k
  have gu : ∀ {S' : Sto} {M : Int}, dInv M R S' → S'[ju + 2]? = some (.lst (us.map fz)) := fun q => by rw [dInv_get q]; exact P.u
  have at0 : ∀ a b : D, L2.atI [a, b] 0 = some a := fun _ _ => rfl
  obtain ⟨u0, at0u, hu0⟩ : ∃ u0, L2.atI (us.map fz) 0 = some (fz u0) ∧ u0 ∈ us := by
    cases us with
    | nil => have := P.ul.1; exact absurd this (by simp)
    | cons a b => exact ⟨a, by simp [L2.atI, L2.ixN], List.mem_cons_self ..⟩
  obtain ⟨ab, b1, bm⟩ := pick ([("" : Str), u0].map fz) f2 f3
  obtain ⟨above, hab, rfl⟩ := List.mem_map.mp bm
  simp only [List.map_cons, List.map_nil] at b1
  have hab : above.length ≤ 50 := by
    simp only [List.mem_cons, List.not_mem_nil, or_false] at hab
    rcases hab with rfl | rfl
    · decide +kernel
    · have := (P.hus above hu0).len; omega
  obtain ⟨r3, S3, g1, g2, g3, I3⟩ := draw_ok (k + 3) I2 (many := 4) (by omega) (by omega) (by omega)
  obtain ⟨faces, hcut, hfu, hfl⟩ : ∃ faces : List Str, cutD (us.map fz) none (some r3) = faces.map fz ∧ (∀ f ∈ faces, f ∈ us) ∧ faces.length ≤ us.length :=
    ⟨(us.drop _).take _, by unfold cutD; rw [List.map_take, List.map_drop], fun f hf => List.mem_of_mem_drop (List.mem_of_mem_take hf), Nat.le_trans (List.length_take_le' ..) (by rw [List.length_drop]; omega)⟩
  have hl3 := dInv_len I3
  have a3 := allocL S3 (faces.map fz) (all_fz _ _)
  rw [hl3] at a3
  have I4 := dInv_app I3 [.lst (faces.map fz)]
  have g4 : (S3 ++ [MO.lst (faces.map fz)])[R.length + 2]? = some (.lst (faces.map fz)) := by rw [← hl3]; exact app_get0 ..
  have pf : plainOf (faces.map fz) = some (faces.map .str) := (strs_back faces).1
  obtain ⟨u, S', u1, u2, u3⟩ := kf_ok k I4 (by omega) P hj hnm hab (fun f hf => P.hus f (hfu f hf)) (by omega) m s hms.1 hms.2
  have ht : ∀ ρ, tgt [3, 4] false (.p (.tuple [.int m, .int s])) ρ = some ((ρ.set 3 (some (.p (.int m)))).set 4 (some (.p (.int s)))) := fun _ => rfl
  refine ⟨u, S', ?_, u2, dInv_mono u3 (by omega)⟩
  rw [c17, callA S rfl, hl]
  show finA _ (exSs _ (.cons (.unp [3, 4] _) (.cons (.asg 5 _) (.cons (.asg 6 _) tailF))) _ _) = _
  unfold slX at u1
  have gk1 := gk I1
  have gk2 := gk I2
  have gu1 := gu I1
  have gu2 := gu I2
  have gu3 := gu I3
  simp -dsimp only [Ir.then_val, Ir.optA_some, Ir.boolA_t, Ir.boolA_f, Ir.seqA_next, Ir.seqA_ret, Ir.wp_val_, Ir.v_var, Ir.v_cst, Ir.v_bin, Ir.v_cmp, Ir.v_chain, Ir.v_and, Ir.v_or, Ir.v_not, Ir.v_ifx, Ir.v_neg, Ir.v_call, Ir.v_tup, Ir.v_lst, Ir.v_idx, Ir.v_idxL, Ir.v_slice, Ir.v_strOf, Ir.v_join, Ir.v_extend, Ir.v_append, Ir.v_len, Ir.v_isi, Ir.v_toInt, Ir.v_all, Ir.v_tupOf, Ir.v_dictOf, Ir.v_dlit, Ir.v_dget3, Ir.v_eqL, Ir.v_op1, Ir.v_op2, Ir.v_fstr, Ir.f_nil, Ir.f_cons, Ir.a_nil', Ir.a_cons', Ir.a_star', Ir.l_disp', Ir.l_of', Ir.l_cat', Ir.l_cut', Ir.b_no', Ir.b_at', Ir.i_tup', Ir.i_lst', Ir.i_str', Ir.i_rng', Ir.ss_nil', Ir.ss_asg, Ir.ss_expr, Ir.ss_ret, Ir.ss_unp, Ir.ss_ite, Ir.ss_setI, Ir.ss_for, Ir.finA_p, Ir.strD_str, Ir.ofD_tup, Ir.dicAt_eq, Ir.lstAt_eq, Ir.dget3_str, Ir.dixD_int, Ir.srcLst_eq, Ir.ofD_ref, Ir.tupD_ref, Ir.lenD_ref, Ir.lenD_tup, Ir.getI_ref, Ir.lsA_lst, Ir.ifA_t, Ir.appD_eq, Ir.extD_eq, Ir.catD_eq, Ir.rb_p, decide_true, decide_false, Bool.true_and, Bool.and_true, Ir.atA_no, Ir.atA_go, Ir.contA_next, Ir.contA_ret, Ir.size_fix, Ir.size_dyn, Ir.at_fix, Ir.at_dyn, Ir.turn_one, List.length_map, List.getElem?_nil, Ir.tgt, Ir.setAll, Bool.false_eq_true, List.set_nil, List.getElem?_cons_zero, List.getElem?_cons_succ, List.set_cons_zero, List.set_cons_succ, List.map_cons, List.map_nil, List.length_cons, List.length_nil, List.replicate_succ, List.replicate_zero, List.cons_append, List.nil_append, Option.map_some, Option.bind_some, Ir.app_get, Ir.app_get0, Ir.app_set, Ir.app_set0, Ir.app_take, Ir.app_one, Ir.len_app, Nat.reduceAdd, Nat.reduceSub, Nat.reduceLeDiff, if_true, if_false, q39, q83, q14, z2, o8, o2, d1, asInt, p1, ht, gk1, gk2, at0, gu1, at0u, f1, b1, g1, cutLD_eq, gu3, hcut, a3, g4, pf]
  exact u1
end Ir.K04
set_option Elab.async false
set_option linter.all false
set_option maxRecDepth 100000
set_option maxHeartbeats 4000001
namespace Ir.K04
open PySem
theorem c18 (k : Nat) : calK fs (k + 1) 18 = callF (calK fs k) ⟨1, 5, b18⟩ := rfl
abbrev sgD : Sig → D := fun s => .p s.py
def bodyS : Ss := (.cons (.expr (.append (.var 3) (.call 15 (.cons (.var 0) (.cons (.var 4) (.cons (.var 2) (.cons (.cst (.p (.int 6))) .nil))))))) .nil)
theorem signs_run (k : Nat) {R S : Sto} {N : Int} {zs : List Str} (hz : ∀ z ∈ zs, Nm z) (hl : zs.length ≤ 10) (hI : dInv N (R ++ [.lst [], .lst (zs.map fz)]) S) (hN : N ≤ 3000000) {jk ju jw : Nat} {us ws : List Str} (P : Kit R jk ju jw us ws) (a1 : Option D) :
    ∃ (sg : List Sig) (x4 : Option D) (S' : Sto), forGo (.dyn (R.length + 3)) (turn (calK fs (k + 2)) [4] true bodyS) zs.length 0 [some (.ref 1), a1, some (.ref (jk + 2)), some (.ref (R.length + 2)), none] S =
        .val (.next, [some (.ref 1), a1, some (.ref (jk + 2)), some (.ref (R.length + 2)), x4]) S' ∧
      sg.length ≤ zs.length ∧ (∀ s ∈ sg, s.Ok) ∧ dInv (N + 100) (R ++ [.lst (sg.map sgD), .lst (zs.map fz)]) S' := by
  obtain ⟨ρ', S', e1, sg, x4, e2, e3, e4, e5⟩ := for_dyn (ds := zs.map fz) (j := R.length + 3) (body := turn (calK fs (k + 2)) [4] true bodyS)
    (okS := fun c S' => ∃ (sg : List Sig) (x4 : Option D), c.2 = [some (.ref 1), a1, some (.ref (jk + 2)), some (.ref (R.length + 2)), x4] ∧ sg.length ≤ zs.length ∧ (∀ s ∈ sg, s.Ok) ∧ dInv (N + 100) (R ++ [.lst (sg.map sgD), .lst (zs.map fz)]) S')
    (fun i ρ S' => ∃ (sg : List Sig) (x4 : Option D), ρ = [some (.ref 1), a1, some (.ref (jk + 2)), some (.ref (R.length + 2)), x4] ∧ sg.length ≤ i ∧ (∀ s ∈ sg, s.Ok) ∧ dInv (N + 10 * i) (R ++ [.lst (sg.map sgD), .lst (zs.map fz)]) S')
    (fun i ρ S ⟨sg, x4, h1, h2, h3, h4⟩ => by rw [show R.length + 3 = R.length + 1 + 2 from rfl, dInv_get h4]; exact app_get R _ 1)
    (fun ρ S' ⟨sg, x4, h1, h2, h3, h4⟩ => ⟨sg, x4, h1, by simpa using h2, h3, dInv_mono h4 (by simp; omega)⟩)
    (fun i d ρ S hd ⟨sg, x4, h1, h2, h3, h4⟩ => by
      subst h1
      obtain ⟨hi, hd⟩ := List.getElem?_eq_some_iff.mp hd
      rw [List.length_map] at hi
      rw [List.getElem_map] at hd
      subst hd
      have hm : zs[i] ∈ zs := List.getElem_mem hi
      generalize zs[i] = z at hm
      obtain ⟨s, S1, t1, t2, t3, I3⟩ := newsign_ok k h4 (by omega) (P.app _) z (by have := (hz z hm).len; omega) 6 (by omega)
      have t1 : calK fs (k + 2) 15 [.ref 1, .p (.str z), .ref (jk + 2), .p (.int 6)] S = .val (.p s.py) S1 := t1
      have g1 : S[R.length + 2]? = some (.lst (sg.map sgD)) := by rw [dInv_get h4]; exact app_get0 ..
      have g2 : S1[R.length + 2]? = some (.lst (sg.map sgD)) := by rw [dInv_get I3]; exact app_get0 ..
      have hl : decide (sg.length < 100000) = true := decide_eq_true (by omega)
      have I4 := dInv_set I3 R.length (.lst ((sg ++ [s]).map sgD))
      rw [app_set0] at I4
      refine ⟨_, _, ?_, sg ++ [s], some (.p (.str z)), rfl, by simp; omega, fun f hf => ?_, dInv_mono I4 (by omega)⟩
      · unfold bodyS
        rw [List.map_append]
        simp -dsimp only [Ir.then_val, Ir.optA_some, Ir.boolA_t, Ir.boolA_f, Ir.seqA_next, Ir.seqA_ret, Ir.wp_val_, Ir.v_var, Ir.v_cst, Ir.v_bin, Ir.v_cmp, Ir.v_chain, Ir.v_and, Ir.v_or, Ir.v_not, Ir.v_ifx, Ir.v_neg, Ir.v_call, Ir.v_tup, Ir.v_lst, Ir.v_idx, Ir.v_idxL, Ir.v_slice, Ir.v_strOf, Ir.v_join, Ir.v_extend, Ir.v_append, Ir.v_len, Ir.v_isi, Ir.v_toInt, Ir.v_all, Ir.v_tupOf, Ir.v_dictOf, Ir.v_dlit, Ir.v_dget3, Ir.v_eqL, Ir.v_op1, Ir.v_op2, Ir.v_fstr, Ir.f_nil, Ir.f_cons, Ir.a_nil', Ir.a_cons', Ir.a_star', Ir.l_disp', Ir.l_of', Ir.l_cat', Ir.l_cut', Ir.b_no', Ir.b_at', Ir.i_tup', Ir.i_lst', Ir.i_str', Ir.i_rng', Ir.ss_nil', Ir.ss_asg, Ir.ss_expr, Ir.ss_ret, Ir.ss_unp, Ir.ss_ite, Ir.ss_setI, Ir.ss_for, Ir.finA_p, Ir.strD_str, Ir.ofD_tup, Ir.dicAt_eq, Ir.lstAt_eq, Ir.dget3_str, Ir.dixD_int, Ir.srcLst_eq, Ir.ofD_ref, Ir.tupD_ref, Ir.lenD_ref, Ir.lenD_tup, Ir.getI_ref, Ir.lsA_lst, Ir.ifA_t, Ir.appD_eq, Ir.extD_eq, Ir.catD_eq, Ir.rb_p, decide_true, decide_false, Bool.true_and, Bool.and_true, Ir.atA_no, Ir.atA_go, Ir.contA_next, Ir.contA_ret, Ir.size_fix, Ir.size_dyn, Ir.at_fix, Ir.at_dyn, Ir.turn_one, List.length_map, List.getElem?_nil, Ir.tgt, Ir.setAll, Bool.false_eq_true, List.set_nil, List.getElem?_cons_zero, List.getElem?_cons_succ, List.set_cons_zero, List.set_cons_succ, List.map_cons, List.map_nil, List.length_cons, List.length_nil, List.replicate_succ, List.replicate_zero, List.cons_append, List.nil_append, Option.map_some, Option.bind_some, Ir.app_get, Ir.app_get0, Ir.app_set, Ir.app_set0, Ir.app_take, Ir.app_one, Ir.len_app, Nat.reduceAdd, Nat.reduceSub, Nat.reduceLeDiff, if_true, if_false, g1, t1, g2, hl]
        try simp
      · rcases List.mem_append.mp hf with hf | hf
        · exact h3 f hf
        · rw [List.mem_singleton] at hf; subst hf; exact t2) zs.length 0 _ S (by simp) ⟨[], none, rfl, by simp, (fun e he => nomatch he), by simpa using hI⟩
  exact ⟨sg, x4, S', e1.trans (congrArg (fun r => Out.val (Ctl.next, r) S') e2), e3, e4, e5⟩
def tailS : Ss := (.cons (.asg 3 (.lst (.disp .nil)))
    (.cons (.for_ (.lst (.call 10 (.cons (.var 0) (.cons (.cst (.p (.bool false))) (.cons (.bin .add (.cst (.p (.int 1))) (.call 8 (.cons (.var 0) (.cons (.cst (.p (.int 8))) .nil)))) .nil))))) [4] true bodyS)
    (.cons (.ret (.tup (.cons (.cst (.p (.str "face"))) (.cons (.idx (.var 1) (.cst (.p (.int 0)))) (.cons (.tupOf (.var 3)) .nil)))))
    .nil)))
theorem newface_ok (k : Nat) {R X S : Sto} {N : Int} (hI : dInv N (R ++ X) S) (hN : N ≤ 1500000) {jn jk ju jw : Nat} {us ws : List Str} (P : Kit (R ++ X) jk ju jw us ws) {nm : Str} (hj : (R ++ X)[jn]? = some (.lst [.p (.str nm)])) (hnm : nm.length ≤ 50) :
    ∃ (u : Face) (S' : Sto), finA (R.length + 2) (exSs (calK fs (k + 4)) tailS [some (.ref 1), some (.ref (jn + 2)), some (.ref (jk + 2)), none, none] S) = .val (.p u.py) S' ∧ u.Ok ∧ dInv (N + 1000) R S' := by
  have hl := dInv_len hI
  have o0 : (0 : Nat) ≤ 100000 := by omega
  have a1 := allocL S [] rfl
  rw [hl] at a1
  have I1 := dInv_app hI [.lst []]
  obtain ⟨r, S1, d1, d2, d3, I2⟩ := draw_ok (k + 3) I1 (many := 8) (by omega) (by omega) (by omega)
  obtain ⟨n, hn⟩ : ∃ n : Nat, 1 + r = (n : Int) := ⟨(1 + r).toNat, by omega⟩
  obtain ⟨zs, S2, w1, w2, w3, I3⟩ := words_ok (k + 1) false n (by omega) I2 (by omega)
  have hlen : (R ++ X ++ [MO.lst []]).length + 2 = (R ++ X).length + 3 := by rw [List.length_append]; rfl
  rw [hlen] at w1
  have I3' := I3
  rw [List.append_assoc (R ++ X)] at I3'
  have g1 : S2[(R ++ X).length + 3]? = some (.lst (zs.map fz)) := by rw [show (R ++ X).length + 3 = (R ++ X).length + 1 + 2 from rfl, dInv_get I3']; exact app_get _ _ 1
  obtain ⟨sg, x4, S3, e1, e2, e3, I4⟩ := signs_run (k + 2) w3 (by omega) I3' (by omega) P (some (.ref (jn + 2)))
  have gw : S3[(R ++ X).length + 2]? = some (.lst (sg.map sgD)) := by rw [dInv_get I4]; exact app_get0 ..
  have gn : S3[jn + 2]? = some (.lst [.p (.str nm)]) := by rw [dInv_get I4]; exact get_app _ hj
  have p2 : plainOf (sg.map sgD) = some (sg.map Sig.py) := by
    have := plainOf_map (sg.map Sig.py)
    rw [List.map_map] at this
    exact this
  have pl : plainOf [D.p (.str "face"), .p (.str nm), .p (.tuple (sg.map Sig.py))] = some [.str "face", .str nm, .tuple (sg.map Sig.py)] := rfl
  have z3 : (3 : Nat) ≤ sizeLine := by rw [sizeLine_eq]; omega
  have at0 : L2.atI [D.p (.str nm)] 0 = some (.p (.str nm)) := rfl
  have I5 := I4
  rw [List.append_assoc] at I5
  refine ⟨⟨nm, sg⟩, S3.take (R.length + 2), ?_, ⟨hnm, e3, by simp only; omega⟩, dInv_mono (dInv_take I5) (by omega)⟩
  unfold tailS
  simp only [Ir.len_app] at a1 w1 g1 e1 gw
  simp -dsimp only [Ir.then_val, Ir.optA_some, Ir.boolA_t, Ir.boolA_f, Ir.seqA_next, Ir.seqA_ret, Ir.wp_val_, Ir.v_var, Ir.v_cst, Ir.v_bin, Ir.v_cmp, Ir.v_chain, Ir.v_and, Ir.v_or, Ir.v_not, Ir.v_ifx, Ir.v_neg, Ir.v_call, Ir.v_tup, Ir.v_lst, Ir.v_idx, Ir.v_idxL, Ir.v_slice, Ir.v_strOf, Ir.v_join, Ir.v_extend, Ir.v_append, Ir.v_len, Ir.v_isi, Ir.v_toInt, Ir.v_all, Ir.v_tupOf, Ir.v_dictOf, Ir.v_dlit, Ir.v_dget3, Ir.v_eqL, Ir.v_op1, Ir.v_op2, Ir.v_fstr, Ir.f_nil, Ir.f_cons, Ir.a_nil', Ir.a_cons', Ir.a_star', Ir.l_disp', Ir.l_of', Ir.l_cat', Ir.l_cut', Ir.b_no', Ir.b_at', Ir.i_tup', Ir.i_lst', Ir.i_str', Ir.i_rng', Ir.ss_nil', Ir.ss_asg, Ir.ss_expr, Ir.ss_ret, Ir.ss_unp, Ir.ss_ite, Ir.ss_setI, Ir.ss_for, Ir.finA_p, Ir.strD_str, Ir.ofD_tup, Ir.dicAt_eq, Ir.lstAt_eq, Ir.dget3_str, Ir.dixD_int, Ir.srcLst_eq, Ir.ofD_ref, Ir.tupD_ref, Ir.lenD_ref, Ir.lenD_tup, Ir.getI_ref, Ir.lsA_lst, Ir.ifA_t, Ir.appD_eq, Ir.extD_eq, Ir.catD_eq, Ir.rb_p, decide_true, decide_false, Bool.true_and, Bool.and_true, Ir.atA_no, Ir.atA_go, Ir.contA_next, Ir.contA_ret, Ir.size_fix, Ir.size_dyn, Ir.at_fix, Ir.at_dyn, Ir.turn_one, List.length_map, List.getElem?_nil, Ir.tgt, Ir.setAll, Bool.false_eq_true, List.set_nil, List.getElem?_cons_zero, List.getElem?_cons_succ, List.set_cons_zero, List.set_cons_succ, List.map_cons, List.map_nil, List.length_cons, List.length_nil, List.replicate_succ, List.replicate_zero, List.cons_append, List.nil_append, Option.map_some, Option.bind_some, Ir.app_get, Ir.app_get0, Ir.app_set, Ir.app_set0, Ir.app_take, Ir.app_one, Ir.len_app, Nat.reduceAdd, Nat.reduceSub, Nat.reduceLeDiff, if_true, if_false, o0, a1, bop_add, d1, hn, w1, g1, e1, gn, at0, gw, p2, z3, pl]
  rfl
end Ir.K04
set_option Elab.async false
set_option linter.all false
set_option maxRecDepth 100000
set_option maxHeartbeats 4000001
namespace Ir.K04
open PySem
def UnitOk (p : PyData) : Prop := (∃ u : Kind, u.Ok ∧ p = u.py) ∨ (∃ u : Face, u.Ok ∧ p = u.py)
theorem one_of {zs : List Str} (h : zs.length = 1) : ∃ z, zs = [z] := by
  cases zs with
  | nil => exact absurd h (by simp)
  | cons z r =>
    cases r with
    | nil => exact ⟨z, rfl⟩
    | cons _ _ => simp at h
theorem newunit_ok (k : Nat) {R S : Sto} {N : Int} (hI : dInv N R S) (hN : N ≤ 1000000) :
    ∃ (p : PyData) (S' : Sto), calK fs (k + 6) 18 [.ref 1] S = .val (.p p) S' ∧ UnitOk p ∧ dInv (N + 20000) R S' := by
  have hl := dInv_len hI
  obtain ⟨z1, S1, w1, w2, w3, I1⟩ := words_ok (k + 2) true 1 (by omega) hI (by omega)
  obtain ⟨nm, rfl⟩ := one_of w2
  have w1 : calK fs (k + 5) 10 [.ref 1, .p (.bool true), .p (.int 1)] S = .val (.ref (R.length + 2)) S1 := w1
  obtain ⟨r1, S2, d1, d2, d3, I2⟩ := draw_ok (k + 4) I1 (many := 3) (by omega) (by omega) (by omega)
  obtain ⟨n1, hn1⟩ : ∃ n : Nat, 3 + r1 = (n : Int) := ⟨(3 + r1).toNat, by omega⟩
  obtain ⟨us, S3, u1, u2, u3, I3⟩ := words_ok (k + 2) true n1 (by omega) I2 (by omega)
  rw [List.append_assoc] at I3
  have u1 : calK fs (k + 5) 10 [.ref 1, .p (.bool true), .p (.int (n1 : Int))] S2 = .val (.ref (R.length + 3)) S3 := by rw [List.length_append] at u1; exact u1
  obtain ⟨r2, S4, f1, f2, f3, I4⟩ := draw_ok (k + 4) I3 (many := 4) (by omega) (by omega) (by omega)
  obtain ⟨n2, hn2⟩ : ∃ n : Nat, 1 + r2 = (n : Int) := ⟨(1 + r2).toNat, by omega⟩
  obtain ⟨ws, S5, v1, v2, v3, I5⟩ := words_ok (k + 2) false n2 (by omega) I4 (by omega)
  rw [List.append_assoc] at I5
  have v1 : calK fs (k + 5) 10 [.ref 1, .p (.bool false), .p (.int (n2 : Int))] S4 = .val (.ref (R.length + 4)) S5 := by rw [List.length_append] at v1; exact v1
  have hl5 := dInv_len I5
  rw [List.length_append] at hl5
  have hl5 : S5.length = R.length + 5 := hl5
  have a1 := allocL S5 [.ref (R.length + 3), .ref (R.length + 4)] (by rw [hl5]; simp only [List.all_cons, List.all_nil, rb, Bool.and_true, Bool.and_eq_true, decide_eq_true_eq]; omega)
  rw [hl5] at a1
  have I6 := dInv_app I5 [.lst [.ref (R.length + 3), .ref (R.length + 4)]]
  rw [List.append_assoc] at I6
  have eX : [MO.lst ([nm].map fz)] ++ [.lst (us.map fz)] ++ [.lst (ws.map fz)] ++ [.lst [.ref (R.length + 3), .ref (R.length + 4)]] = [MO.lst [.p (.str nm)], .lst (us.map fz), .lst (ws.map fz), .lst [.ref (R.length + 3), .ref (R.length + 4)]] := rfl
  rw [eX] at I6
  generalize hX : [MO.lst [.p (.str nm)], .lst (us.map fz), .lst (ws.map fz), .lst [.ref (R.length + 3), .ref (R.length + 4)]] = X at I6
  have P : Kit (R ++ X) (R.length + 3) (R.length + 1) (R.length + 2) us ws := by
    subst hX
    exact ⟨app_get R _ 3, app_get R _ 1, app_get R _ 2, u3, v3, by omega, by omega⟩
  have hj : (R ++ X)[R.length]? = some (.lst [.p (.str nm)]) := by subst hX; exact app_get0 ..
  have hnm : nm.length ≤ 50 := by have := (w3 nm (List.mem_singleton.mpr rfl)).len; omega
  have o2 : (2 : Nat) ≤ 100000 := by omega
  obtain ⟨r3, S7, g1, g2, g3, I7⟩ := draw_ok (k + 4) I6 (many := 4) (by omega) (by omega) (by omega)
  rw [c18, callA S rfl, hl]
  show ∃ p S', finA _ (exSs _ (.cons (.asg 1 _) (.cons (.asg 2 _) (.cons (.ite _ _ _) tailS))) _ _) = _ ∧ _
  by_cases h0 : 0 < r3
  · have hd : decide (0 < r3) = true := decide_eq_true h0
    obtain ⟨u, S8, x1, x2, x3⟩ := newkind_ok k I7 (by omega) P hj hnm (by omega)
    have x1 : calK fs (k + 5) 17 [.ref 1, .ref (R.length + 2), .ref (R.length + 5)] S7 = .val (.p u.py) S8 := x1
    refine ⟨u.py, S8.take (R.length + 2), ?_, .inl ⟨u, x2, rfl⟩, dInv_mono (dInv_take x3) (by omega)⟩
    simp -dsimp only [Ir.then_val, Ir.optA_some, Ir.boolA_t, Ir.boolA_f, Ir.seqA_next, Ir.seqA_ret, Ir.wp_val_, Ir.v_var, Ir.v_cst, Ir.v_bin, Ir.v_cmp, Ir.v_chain, Ir.v_and, Ir.v_or, Ir.v_not, Ir.v_ifx, Ir.v_neg, Ir.v_call, Ir.v_tup, Ir.v_lst, Ir.v_idx, Ir.v_idxL, Ir.v_slice, Ir.v_strOf, Ir.v_join, Ir.v_extend, Ir.v_append, Ir.v_len, Ir.v_isi, Ir.v_toInt, Ir.v_all, Ir.v_tupOf, Ir.v_dictOf, Ir.v_dlit, Ir.v_dget3, Ir.v_eqL, Ir.v_op1, Ir.v_op2, Ir.v_fstr, Ir.f_nil, Ir.f_cons, Ir.a_nil', Ir.a_cons', Ir.a_star', Ir.l_disp', Ir.l_of', Ir.l_cat', Ir.l_cut', Ir.b_no', Ir.b_at', Ir.i_tup', Ir.i_lst', Ir.i_str', Ir.i_rng', Ir.ss_nil', Ir.ss_asg, Ir.ss_expr, Ir.ss_ret, Ir.ss_unp, Ir.ss_ite, Ir.ss_setI, Ir.ss_for, Ir.finA_p, Ir.strD_str, Ir.ofD_tup, Ir.dicAt_eq, Ir.lstAt_eq, Ir.dget3_str, Ir.dixD_int, Ir.srcLst_eq, Ir.ofD_ref, Ir.tupD_ref, Ir.lenD_ref, Ir.lenD_tup, Ir.getI_ref, Ir.lsA_lst, Ir.ifA_t, Ir.appD_eq, Ir.extD_eq, Ir.catD_eq, Ir.rb_p, decide_true, decide_false, Bool.true_and, Bool.and_true, Ir.atA_no, Ir.atA_go, Ir.contA_next, Ir.contA_ret, Ir.size_fix, Ir.size_dyn, Ir.at_fix, Ir.at_dyn, Ir.turn_one, List.length_map, List.getElem?_nil, Ir.tgt, Ir.setAll, Bool.false_eq_true, List.set_nil, List.getElem?_cons_zero, List.getElem?_cons_succ, List.set_cons_zero, List.set_cons_succ, List.map_cons, List.map_nil, List.length_cons, List.length_nil, List.replicate_succ, List.replicate_zero, List.cons_append, List.nil_append, Option.map_some, Option.bind_some, Ir.app_get, Ir.app_get0, Ir.app_set, Ir.app_set0, Ir.app_take, Ir.app_one, Ir.len_app, Nat.reduceAdd, Nat.reduceSub, Nat.reduceLeDiff, if_true, if_false, w1, d1, bop_add, hn1, u1, f1, hn2, v1, o2, a1, g1, cop_gt, hd, x1]
    try rfl
  · have hd : decide (0 < r3) = false := decide_eq_false h0
    obtain ⟨u, S8, x1, x2, x3⟩ := newface_ok (k + 1) I7 (by omega) P hj hnm
    have x1 : finA (R.length + 2) (exSs (calK fs (k + 5)) tailS [some (.ref 1), some (.ref (R.length + 2)), some (.ref (R.length + 5)), none, none] S7) = .val (.p u.py) S8 := x1
    refine ⟨u.py, S8, ?_, .inr ⟨u, x2, rfl⟩, dInv_mono x3 (by omega)⟩
    simp -dsimp only [Ir.then_val, Ir.optA_some, Ir.boolA_t, Ir.boolA_f, Ir.seqA_next, Ir.seqA_ret, Ir.wp_val_, Ir.v_var, Ir.v_cst, Ir.v_bin, Ir.v_cmp, Ir.v_chain, Ir.v_and, Ir.v_or, Ir.v_not, Ir.v_ifx, Ir.v_neg, Ir.v_call, Ir.v_tup, Ir.v_lst, Ir.v_idx, Ir.v_idxL, Ir.v_slice, Ir.v_strOf, Ir.v_join, Ir.v_extend, Ir.v_append, Ir.v_len, Ir.v_isi, Ir.v_toInt, Ir.v_all, Ir.v_tupOf, Ir.v_dictOf, Ir.v_dlit, Ir.v_dget3, Ir.v_eqL, Ir.v_op1, Ir.v_op2, Ir.v_fstr, Ir.f_nil, Ir.f_cons, Ir.a_nil', Ir.a_cons', Ir.a_star', Ir.l_disp', Ir.l_of', Ir.l_cat', Ir.l_cut', Ir.b_no', Ir.b_at', Ir.i_tup', Ir.i_lst', Ir.i_str', Ir.i_rng', Ir.ss_nil', Ir.ss_asg, Ir.ss_expr, Ir.ss_ret, Ir.ss_unp, Ir.ss_ite, Ir.ss_setI, Ir.ss_for, Ir.finA_p, Ir.strD_str, Ir.ofD_tup, Ir.dicAt_eq, Ir.lstAt_eq, Ir.dget3_str, Ir.dixD_int, Ir.srcLst_eq, Ir.ofD_ref, Ir.tupD_ref, Ir.lenD_ref, Ir.lenD_tup, Ir.getI_ref, Ir.lsA_lst, Ir.ifA_t, Ir.appD_eq, Ir.extD_eq, Ir.catD_eq, Ir.rb_p, decide_true, decide_false, Bool.true_and, Bool.and_true, Ir.atA_no, Ir.atA_go, Ir.contA_next, Ir.contA_ret, Ir.size_fix, Ir.size_dyn, Ir.at_fix, Ir.at_dyn, Ir.turn_one, List.length_map, List.getElem?_nil, Ir.tgt, Ir.setAll, Bool.false_eq_true, List.set_nil, List.getElem?_cons_zero, List.getElem?_cons_succ, List.set_cons_zero, List.set_cons_succ, List.map_cons, List.map_nil, List.length_cons, List.length_nil, List.replicate_succ, List.replicate_zero, List.cons_append, List.nil_append, Option.map_some, Option.bind_some, Ir.app_get, Ir.app_get0, Ir.app_set, Ir.app_set0, Ir.app_take, Ir.app_one, Ir.len_app, Nat.reduceAdd, Nat.reduceSub, Nat.reduceLeDiff, if_true, if_false, w1, d1, bop_add, hn1, u1, f1, hn2, v1, o2, a1, g1, cop_gt, hd]
    exact x1
end Ir.K04
set_option Elab.async false
set_option linter.all false
set_option maxRecDepth 100000
set_option maxHeartbeats 4000001
namespace Ir.K04
open PySem PySem.W
def deep : Nat := 8
theorem both {p : PyData} (h : UnitOk p) : ∃ z : Str, ∀ S, calK fs 8 1 [.p p] S = .val (.p (.str z)) S ∧ calK fs 8 23 [.p p] S = .val (.p (.str z)) S := by
  rcases h with ⟨u, hu, rfl⟩ | ⟨u, hu, rfl⟩
  · exact ⟨_, fun S => ⟨written_kind 3 hu S, law_kind 4 hu S⟩⟩
  · exact ⟨_, fun S => ⟨written_face 5 hu S, law_face 5 hu S⟩⟩
def bodyL : Ss := (.cons (.asg 3 (.call 18 (.cons (.var 1) .nil)))
    (.cons (.asg 4 (.call 1 (.cons (.var 3) .nil)))
    (.cons (.ite (.or (.not (.isi (.var 4) .str)) (.cmp .ne (.var 4) (.call 23 (.cons (.var 3) .nil)))) (.cons (.ret (.cst (.p (.bool false))))
    .nil) .nil)
    .nil)))
theorem runs_ok (a : Option D) {S : Sto} (hI : dInv 0 [] S) : ∃ ρ' S', forGo (.fix ((List.range 2).map fun (i : Nat) => D.p (.int (i : Int)))) (turn (calK fs 8) [2] true bodyL) 2 0 [a, some (.ref 1), none, none, none] S = .val (.next, ρ') S' ∧ True := by
  refine for_fixI (ds := (List.range 2).map fun (i : Nat) => D.p (.int (i : Int))) (body := turn (calK fs 8) [2] true bodyL) (okS := fun _ _ => True)
    (fun i ρ S => ∃ x2 x3 x4, ρ = [a, some (.ref 1), x2, x3, x4] ∧ dInv (20000 * i) [] S) (fun _ _ _ => trivial) (fun i d ρ S hd ⟨x2, x3, x4, h1, h2⟩ => by
      subst h1
      have hi := (List.getElem?_eq_some_iff.mp hd).1
      rw [List.length_map, List.length_range] at hi
      obtain ⟨p, S1, e1, e2, e3⟩ := newunit_ok 2 h2 (by omega)
      have e1 : calK fs 8 18 [.ref 1] S = .val (.p p) S1 := e1
      obtain ⟨z, hz⟩ := both e2
      have w1 := (hz S1).1
      have w2 := (hz S1).2
      have i1 : isiD (.p (.str z)) .str = some true := rfl
      have q1 : cop S1 .ne (.p (.str z)) (.p (.str z)) = some false := by rw [cop_ne, eqD_str, decide_eq_true rfl]; rfl
      have nt : (!true) = false := rfl
      refine ⟨[a, some (.ref 1), some d, some (.p p), some (.p (.str z))], S1, ?_, some d, some (.p p), some (.p (.str z)), rfl, dInv_mono e3 (by omega)⟩
      unfold bodyL
      simp -dsimp only [Ir.then_val, Ir.optA_some, Ir.boolA_t, Ir.boolA_f, Ir.seqA_next, Ir.seqA_ret, Ir.wp_val_, Ir.v_var, Ir.v_cst, Ir.v_bin, Ir.v_cmp, Ir.v_chain, Ir.v_and, Ir.v_or, Ir.v_not, Ir.v_ifx, Ir.v_neg, Ir.v_call, Ir.v_tup, Ir.v_lst, Ir.v_idx, Ir.v_idxL, Ir.v_slice, Ir.v_strOf, Ir.v_join, Ir.v_extend, Ir.v_append, Ir.v_len, Ir.v_isi, Ir.v_toInt, Ir.v_all, Ir.v_tupOf, Ir.v_dictOf, Ir.v_dlit, Ir.v_dget3, Ir.v_eqL, Ir.v_op1, Ir.v_op2, Ir.v_fstr, Ir.f_nil, Ir.f_cons, Ir.a_nil', Ir.a_cons', Ir.a_star', Ir.l_disp', Ir.l_of', Ir.l_cat', Ir.l_cut', Ir.b_no', Ir.b_at', Ir.i_tup', Ir.i_lst', Ir.i_str', Ir.i_rng', Ir.ss_nil', Ir.ss_asg, Ir.ss_expr, Ir.ss_ret, Ir.ss_unp, Ir.ss_ite, Ir.ss_setI, Ir.ss_for, Ir.finA_p, Ir.strD_str, Ir.ofD_tup, Ir.dicAt_eq, Ir.lstAt_eq, Ir.dget3_str, Ir.dixD_int, Ir.srcLst_eq, Ir.ofD_ref, Ir.tupD_ref, Ir.lenD_ref, Ir.lenD_tup, Ir.getI_ref, Ir.lsA_lst, Ir.ifA_t, Ir.appD_eq, Ir.extD_eq, Ir.catD_eq, Ir.rb_p, decide_true, decide_false, Bool.true_and, Bool.and_true, Ir.atA_no, Ir.atA_go, Ir.contA_next, Ir.contA_ret, Ir.size_fix, Ir.size_dyn, Ir.at_fix, Ir.at_dyn, Ir.turn_one, List.length_map, List.getElem?_nil, Ir.tgt, Ir.setAll, Bool.false_eq_true, List.set_nil, List.getElem?_cons_zero, List.getElem?_cons_succ, List.set_cons_zero, List.set_cons_succ, List.map_cons, List.map_nil, List.length_cons, List.length_nil, List.replicate_succ, List.replicate_zero, List.cons_append, List.nil_append, Option.map_some, Option.bind_some, Ir.app_get, Ir.app_get0, Ir.app_set, Ir.app_set0, Ir.app_take, Ir.app_one, Ir.len_app, Nat.reduceAdd, Nat.reduceSub, Nat.reduceLeDiff, if_true, if_false, e1, w1, w2, i1, q1, nt]
      try rfl) 2 0 _ S (by simp) ⟨none, none, none, rfl, by simpa using hI⟩
theorem law_true (ns : List Int) (_ : ns.length ≤ 63) : Ok (wp (callF (calK fs deep) ⟨1, 5, b24⟩ [.p (.list (ns.map .int))] []) (fun d _ => d = .p (.bool true)) (fun _ _ => False)) := by
  refine ⟨?_⟩
  have hI : dInv 0 [] [dInts ns, st4 0 0 0] := ⟨ns, 0, 0, 0, rfl, by decide, by decide, by decide, by decide⟩
  obtain ⟨ρ', S', e1, _⟩ := runs_ok (some (.p (.list (ns.map .int)))) hI
  have a1 : alloc (.lst ((ns.map PyData.int).map D.p)) [] = .val (.ref 0) [dInts ns] := by
    have := alloc_plain (ns.map PyData.int) []
    rw [this]
    have eA : (MO.lst ((ns.map PyData.int).map D.p)) = dInts ns := by
      unfold dInts
      rw [List.map_map]
      rfl
    rw [eA]; rfl
  have of1 : ofD [] (.p (.list (ns.map .int))) = some ((ns.map PyData.int).map D.p) := rfl
  have a2 : alloc (.lst [.ref 0, .p (.int 0), .p (.int 0), .p (.int 0)]) [dInts ns] = .val (.ref 1) [dInts ns, st4 0 0 0] := by kernel_rfl
  have o4 : (4 : Nat) ≤ 100000 := by omega
  have rn : srcRng (.p (.int 2)) = some (.fix ((List.range 2).map fun (i : Nat) => .p (.int (i : Int)))) := srcRng_nat 2 (by omega)
  have E : callF (calK fs deep) ⟨1, 5, b24⟩ [.p (.list (ns.map .int))] [] = .val (.p (.bool true)) (S'.take 0) := by
    rw [callA [] rfl]
    show finA 0 (exSs (calK fs 8) (.cons (.asg 1 _) (.cons (.for_ (.rng (.cst (.p (.int 2)))) [2] true bodyL) (.cons (.ret (.cst (.p (.bool true)))) .nil))) [some (.p (.list (ns.map .int))), none, none, none, none] []) = _
    simp -dsimp only [Ir.then_val, Ir.optA_some, Ir.boolA_t, Ir.boolA_f, Ir.seqA_next, Ir.seqA_ret, Ir.wp_val_, Ir.v_var, Ir.v_cst, Ir.v_bin, Ir.v_cmp, Ir.v_chain, Ir.v_and, Ir.v_or, Ir.v_not, Ir.v_ifx, Ir.v_neg, Ir.v_call, Ir.v_tup, Ir.v_lst, Ir.v_idx, Ir.v_idxL, Ir.v_slice, Ir.v_strOf, Ir.v_join, Ir.v_extend, Ir.v_append, Ir.v_len, Ir.v_isi, Ir.v_toInt, Ir.v_all, Ir.v_tupOf, Ir.v_dictOf, Ir.v_dlit, Ir.v_dget3, Ir.v_eqL, Ir.v_op1, Ir.v_op2, Ir.v_fstr, Ir.f_nil, Ir.f_cons, Ir.a_nil', Ir.a_cons', Ir.a_star', Ir.l_disp', Ir.l_of', Ir.l_cat', Ir.l_cut', Ir.b_no', Ir.b_at', Ir.i_tup', Ir.i_lst', Ir.i_str', Ir.i_rng', Ir.ss_nil', Ir.ss_asg, Ir.ss_expr, Ir.ss_ret, Ir.ss_unp, Ir.ss_ite, Ir.ss_setI, Ir.ss_for, Ir.finA_p, Ir.strD_str, Ir.ofD_tup, Ir.dicAt_eq, Ir.lstAt_eq, Ir.dget3_str, Ir.dixD_int, Ir.srcLst_eq, Ir.ofD_ref, Ir.tupD_ref, Ir.lenD_ref, Ir.lenD_tup, Ir.getI_ref, Ir.lsA_lst, Ir.ifA_t, Ir.appD_eq, Ir.extD_eq, Ir.catD_eq, Ir.rb_p, decide_true, decide_false, Bool.true_and, Bool.and_true, Ir.atA_no, Ir.atA_go, Ir.contA_next, Ir.contA_ret, Ir.size_fix, Ir.size_dyn, Ir.at_fix, Ir.at_dyn, Ir.turn_one, List.length_map, List.getElem?_nil, Ir.tgt, Ir.setAll, Bool.false_eq_true, List.set_nil, List.getElem?_cons_zero, List.getElem?_cons_succ, List.set_cons_zero, List.set_cons_succ, List.map_cons, List.map_nil, List.length_cons, List.length_nil, List.replicate_succ, List.replicate_zero, List.cons_append, List.nil_append, Option.map_some, Option.bind_some, Ir.app_get, Ir.app_get0, Ir.app_set, Ir.app_set0, Ir.app_take, Ir.app_one, Ir.len_app, Nat.reduceAdd, Nat.reduceSub, Nat.reduceLeDiff, if_true, if_false, of1, a1, a2, o4, rn, List.length_range, e1]
    try rfl
  rw [E]
  rfl
end Ir.K04
/-! ### the table, the head -/
namespace Ir.K04
open PySem L2 PySem.Spec PyProof.Rows
def nm : List Str := ["leads_on", "written", "kind_lines", "face_lines", "signature_line", "way_lines", "label", "row_line", "_law_draw", "_law_word", "_law_words", "_law_sorts", "_law_number", "_law_rowwords", "_law_new_row", "_law_new_sign", "_law_new_way", "_law_new_kind", "_law_new_unit", "_law_row_line", "_law_sign_line", "_law_head_line", "_law_way_lines", "_law_as_written", "law"]
def dd0 : He.DefD := ddOf "leads_on" (top 1)
def dd1 : He.DefD := ddOf "written" (top 3)
def dd2 : He.DefD := ddOf "kind_lines" (top 4)
def dd3 : He.DefD := ddOf "face_lines" (top 5)
def dd4 : He.DefD := ddOf "signature_line" (top 6)
def dd5 : He.DefD := ddOf "way_lines" (top 7)
def dd6 : He.DefD := ddOf "label" (top 8)
def dd7 : He.DefD := ddOf "row_line" (top 9)
def dd8 : He.DefD := ddOf "_law_draw" (top 11)
def dd9 : He.DefD := ddOf "_law_word" (top 12)
def dd10 : He.DefD := ddOf "_law_words" (top 13)
def dd11 : He.DefD := ddOf "_law_sorts" (top 14)
def dd12 : He.DefD := ddOf "_law_number" (top 15)
def dd13 : He.DefD := ddOf "_law_rowwords" (top 16)
def dd14 : He.DefD := ddOf "_law_new_row" (top 17)
def dd15 : He.DefD := ddOf "_law_new_sign" (top 18)
def dd16 : He.DefD := ddOf "_law_new_way" (top 19)
def dd17 : He.DefD := ddOf "_law_new_kind" (top 20)
def dd18 : He.DefD := ddOf "_law_new_unit" (top 21)
def dd19 : He.DefD := ddOf "_law_row_line" (top 22)
def dd20 : He.DefD := ddOf "_law_sign_line" (top 23)
def dd21 : He.DefD := ddOf "_law_head_line" (top 24)
def dd22 : He.DefD := ddOf "_law_way_lines" (top 25)
def dd23 : He.DefD := ddOf "_law_as_written" (top 26)
def dd24 : He.DefD := ddOf "law" (top 27)
def fnD : List He.DefD := [dd0, dd1, dd2, dd3, dd4, dd5, dd6, dd7, dd8, dd9, dd10, dd11, dd12, dd13, dd14, dd15, dd16, dd17, dd18, dd19, dd20, dd21, dd22, dd23, dd24]
def fa : List He.Fa := [.glo "leads_on", .glo "written", .glo "kind_lines", .glo "face_lines", .glo "signature_line", .glo "way_lines", .glo "label", .glo "row_line", .glo "_law_draw", .glo "_law_word", .glo "_law_words", .glo "_law_sorts", .glo "_law_number", .glo "_law_rowwords", .glo "_law_new_row", .glo "_law_new_sign", .glo "_law_new_way", .glo "_law_new_kind", .glo "_law_new_unit", .glo "_law_row_line", .glo "_law_sign_line", .glo "_law_head_line", .glo "_law_way_lines", .glo "_law_as_written", .glo "law", .free "dict", .free "int", .free "isinstance", .free "len", .free "list", .free "range", .free "str", .free "tuple"]
def cs : List (Str × PyData) := []
def ts : List He.Tab := []
def ex (K : PySem.W.Frag) : Bool := (cs.all fun c => constB K c)
abbrev ph (K : PySem.W.Frag) (i : Nat) : Option Addr := (nm[i]?).map (He.ga K)
abbrev aOf (K : PySem.W.Frag) (i : Nat) : Addr := He.ga K (nm.getD i "")
section
variable {P : Program} {w : World} {K : PySem.W.Frag} {h h' : Heap} {mg : Str → Option Value} {base : Heap}
theorem cs_at (c : He.SaysX fa fnD ts [] ex w h' K) (i : Nat) {q : Str × PyData} (e : cs[i]? = some q := by rfl) : constB K q = true := by
  have z := c.more
  unfold ex at z
  exact List.all_eq_true.mp z q (List.mem_of_getElem? e)
theorem txt (X : K.In h) (G : h.Ns mainGlobals mg) (c : He.SaysX fa fnD ts [] ex w h' K) : Txt (gOf K (ph K)) w mg (aOf K) where
  ph := fun i f e => by
    obtain ⟨x, e1, e2⟩ := Option.map_eq_some_iff.mp e
    obtain ⟨h1, h2⟩ := List.getElem?_eq_some_iff.mp e1
    refine ⟨h1, ?_⟩
    have e3 : nm.getD i "" = x := by rw [List.getD_eq_getElem?_getD, e1]; rfl
    show f = He.ga K (nm.getD i "")
    rw [e3, e2]
  p0 := rfl
  m0 := He.glo_ok X G (c.t.d.fact 0 (f := .glo "leads_on") rfl)
  p1 := rfl
  m1 := He.glo_ok X G (c.t.d.fact 1 (f := .glo "written") rfl)
  p2 := rfl
  m2 := He.glo_ok X G (c.t.d.fact 2 (f := .glo "kind_lines") rfl)
  p3 := rfl
  m3 := He.glo_ok X G (c.t.d.fact 3 (f := .glo "face_lines") rfl)
  p4 := rfl
  m4 := He.glo_ok X G (c.t.d.fact 4 (f := .glo "signature_line") rfl)
  p5 := rfl
  m5 := He.glo_ok X G (c.t.d.fact 5 (f := .glo "way_lines") rfl)
  p6 := rfl
  m6 := He.glo_ok X G (c.t.d.fact 6 (f := .glo "label") rfl)
  p7 := rfl
  m7 := He.glo_ok X G (c.t.d.fact 7 (f := .glo "row_line") rfl)
  p8 := rfl
  m8 := He.glo_ok X G (c.t.d.fact 8 (f := .glo "_law_draw") rfl)
  p9 := rfl
  m9 := He.glo_ok X G (c.t.d.fact 9 (f := .glo "_law_word") rfl)
  p10 := rfl
  m10 := He.glo_ok X G (c.t.d.fact 10 (f := .glo "_law_words") rfl)
  p11 := rfl
  m11 := He.glo_ok X G (c.t.d.fact 11 (f := .glo "_law_sorts") rfl)
  p12 := rfl
  m12 := He.glo_ok X G (c.t.d.fact 12 (f := .glo "_law_number") rfl)
  p13 := rfl
  m13 := He.glo_ok X G (c.t.d.fact 13 (f := .glo "_law_rowwords") rfl)
  p14 := rfl
  m14 := He.glo_ok X G (c.t.d.fact 14 (f := .glo "_law_new_row") rfl)
  p15 := rfl
  m15 := He.glo_ok X G (c.t.d.fact 15 (f := .glo "_law_new_sign") rfl)
  p16 := rfl
  m16 := He.glo_ok X G (c.t.d.fact 16 (f := .glo "_law_new_way") rfl)
  p17 := rfl
  m17 := He.glo_ok X G (c.t.d.fact 17 (f := .glo "_law_new_kind") rfl)
  p18 := rfl
  m18 := He.glo_ok X G (c.t.d.fact 18 (f := .glo "_law_new_unit") rfl)
  p19 := rfl
  m19 := He.glo_ok X G (c.t.d.fact 19 (f := .glo "_law_row_line") rfl)
  p20 := rfl
  m20 := He.glo_ok X G (c.t.d.fact 20 (f := .glo "_law_sign_line") rfl)
  p21 := rfl
  m21 := He.glo_ok X G (c.t.d.fact 21 (f := .glo "_law_head_line") rfl)
  p22 := rfl
  m22 := He.glo_ok X G (c.t.d.fact 22 (f := .glo "_law_way_lines") rfl)
  p23 := rfl
  m23 := He.glo_ok X G (c.t.d.fact 23 (f := .glo "_law_as_written") rfl)
  p24 := rfl
  m24 := He.glo_ok X G (c.t.d.fact 24 (f := .glo "law") rfl)
  b_dict := He.free_ok X G (c.t.d.fact 25 (f := .free "dict") rfl)
  b_int := He.free_ok X G (c.t.d.fact 26 (f := .free "int") rfl)
  b_isinstance := He.free_ok X G (c.t.d.fact 27 (f := .free "isinstance") rfl)
  b_len := He.free_ok X G (c.t.d.fact 28 (f := .free "len") rfl)
  b_list := He.free_ok X G (c.t.d.fact 29 (f := .free "list") rfl)
  b_range := He.free_ok X G (c.t.d.fact 30 (f := .free "range") rfl)
  b_str := He.free_ok X G (c.t.d.fact 31 (f := .free "str") rfl)
  b_tuple := He.free_ok X G (c.t.d.fact 32 (f := .free "tuple") rfl)
theorem row0 (T : Txt (gOf K (ph K)) w mg (aOf K)) (c : He.SaysX fa fnD ts [] ex w h' K) : Row P w (gOf K (ph K)) mg base (aOf K 0) ⟨1, 1, b0⟩ := by
  obtain ⟨fd, F⟩ := c.t.d.def_ 0 (d := dd0) rfl
  exact row_mk (x := "leads_on") (st := top 1) (N := ["row"]) (ps := ["row"]) F sc0 rfl rfl (fun _ _ _ _ _ _ us hl => match us, hl with | [_], _ => rfl) (fun _ _ _ _ _ _ _ _ G => bd0 T G)
theorem row1 (T : Txt (gOf K (ph K)) w mg (aOf K)) (c : He.SaysX fa fnD ts [] ex w h' K) : Row P w (gOf K (ph K)) mg base (aOf K 1) ⟨1, 2, b1⟩ := by
  obtain ⟨fd, F⟩ := c.t.d.def_ 1 (d := dd1) rfl
  exact row_mk (x := "written") (st := top 3) (N := ["unit", "lines"]) (ps := ["unit"]) F sc1 rfl rfl (fun _ _ _ _ _ _ us hl => match us, hl with | [_], _ => rfl) (fun _ _ _ _ _ _ _ _ G => bd1 T G)
theorem row2 (T : Txt (gOf K (ph K)) w mg (aOf K)) (c : He.SaysX fa fnD ts [] ex w h' K) : Row P w (gOf K (ph K)) mg base (aOf K 2) ⟨1, 11, b2⟩ := by
  obtain ⟨fd, F⟩ := c.t.d.def_ 2 (d := dd2) rfl
  exact row_mk (x := "kind_lines") (st := top 4) (N := ["unit", "_", "name", "above", "faces", "fields", "ways", "head", "lines", "way", "field"]) (ps := ["unit"]) F sc2 rfl rfl (fun _ _ _ _ _ _ us hl => match us, hl with | [_], _ => rfl) (fun _ _ _ _ _ _ _ _ G => bd2 T G)
theorem row3 (T : Txt (gOf K (ph K)) w mg (aOf K)) (c : He.SaysX fa fnD ts [] ex w h' K) : Row P w (gOf K (ph K)) mg base (aOf K 3) ⟨1, 5, b3⟩ := by
  obtain ⟨fd, F⟩ := c.t.d.def_ 3 (d := dd3) rfl
  exact row_mk (x := "face_lines") (st := top 5) (N := ["unit", "_", "name", "signatures", "signature"]) (ps := ["unit"]) F sc3 rfl rfl (fun _ _ _ _ _ _ us hl => match us, hl with | [_], _ => rfl) (fun _ _ _ _ _ _ _ _ G => bd3 T G)
theorem row4 (T : Txt (gOf K (ph K)) w mg (aOf K)) (c : He.SaysX fa fnD ts [] ex w h' K) : Row P w (gOf K (ph K)) mg base (aOf K 4) ⟨1, 4, b4⟩ := by
  obtain ⟨fd, F⟩ := c.t.d.def_ 4 (d := dd4) rfl
  exact row_mk (x := "signature_line") (st := top 6) (N := ["signature", "name", "takes", "gives"]) (ps := ["signature"]) F sc4 rfl rfl (fun _ _ _ _ _ _ us hl => match us, hl with | [_], _ => rfl) (fun _ _ _ _ _ _ _ _ G => bd4 T G)
theorem row5 (T : Txt (gOf K (ph K)) w mg (aOf K)) (c : He.SaysX fa fnD ts [] ex w h' K) : Row P w (gOf K (ph K)) mg base (aOf K 5) ⟨1, 12, b5⟩ := by
  obtain ⟨fd, F⟩ := c.t.d.def_ 5 (d := dd5) rfl
  exact row_mk (x := "way_lines") (st := top 7) (N := ["way", "rows", "entries", "catches", "heights", "ends", "lines", "at", "catch", "row", "first", "end"]) (ps := ["way"]) F sc5 rfl rfl (fun _ _ _ _ _ _ us hl => match us, hl with | [_], _ => rfl) (fun _ _ _ _ _ _ _ _ G => bd5 T G)
theorem row6 (T : Txt (gOf K (ph K)) w mg (aOf K)) (c : He.SaysX fa fnD ts [] ex w h' K) : Row P w (gOf K (ph K)) mg base (aOf K 6) ⟨1, 1, b6⟩ := by
  obtain ⟨fd, F⟩ := c.t.d.def_ 6 (d := dd6) rfl
  exact row_mk (x := "label") (st := top 8) (N := ["row"]) (ps := ["row"]) F sc6 rfl rfl (fun _ _ _ _ _ _ us hl => match us, hl with | [_], _ => rfl) (fun _ _ _ _ _ _ _ _ G => bd6 T G)
theorem row7 (T : Txt (gOf K (ph K)) w mg (aOf K)) (c : He.SaysX fa fnD ts [] ex w h' K) : Row P w (gOf K (ph K)) mg base (aOf K 7) ⟨1, 2, b7⟩ := by
  obtain ⟨fd, F⟩ := c.t.d.def_ 7 (d := dd7) rfl
  exact row_mk (x := "row_line") (st := top 9) (N := ["row", "part"]) (ps := ["row"]) F sc7 rfl rfl (fun _ _ _ _ _ _ us hl => match us, hl with | [_], _ => rfl) (fun _ _ _ _ _ _ _ _ G => bd7 T G)
theorem row8 (T : Txt (gOf K (ph K)) w mg (aOf K)) (c : He.SaysX fa fnD ts [] ex w h' K) : Row P w (gOf K (ph K)) mg base (aOf K 8) ⟨2, 3, b8⟩ := by
  obtain ⟨fd, F⟩ := c.t.d.def_ 8 (d := dd8) rfl
  exact row_mk (x := "_law_draw") (st := top 11) (N := ["_law_stream", "_law_many", "_law_number_here"]) (ps := ["_law_stream", "_law_many"]) F sc8 rfl rfl (fun _ _ _ _ _ _ us hl => match us, hl with | [_, _], _ => rfl) (fun _ _ _ _ _ _ _ _ G => bd8 T G)
theorem row9 (T : Txt (gOf K (ph K)) w mg (aOf K)) (c : He.SaysX fa fnD ts [] ex w h' K) : Row P w (gOf K (ph K)) mg base (aOf K 9) ⟨3, 9, b9⟩ := by
  obtain ⟨fd, F⟩ := c.t.d.def_ 9 (d := dd9) rfl
  exact row_mk (x := "_law_word") (st := top 12) (N := ["_law_stream", "_law_capital", "_law_used", "_law_small", "_law_firsts", "_law_size", "_law_text", "_law_some", "_law_k"]) (ps := ["_law_stream", "_law_capital", "_law_used"]) F sc9 rfl rfl (fun _ _ _ _ _ _ us hl => match us, hl with | [_, _, _], _ => rfl) (fun _ _ _ _ _ _ _ _ G => bd9 T G)
theorem row10 (T : Txt (gOf K (ph K)) w mg (aOf K)) (c : He.SaysX fa fnD ts [] ex w h' K) : Row P w (gOf K (ph K)) mg base (aOf K 10) ⟨3, 5, b10⟩ := by
  obtain ⟨fd, F⟩ := c.t.d.def_ 10 (d := dd10) rfl
  exact row_mk (x := "_law_words") (st := top 13) (N := ["_law_stream", "_law_capital", "_law_many", "_law_found", "_law_k"]) (ps := ["_law_stream", "_law_capital", "_law_many"]) F sc10 rfl rfl (fun _ _ _ _ _ _ us hl => match us, hl with | [_, _, _], _ => rfl) (fun _ _ _ _ _ _ _ _ G => bd10 T G)
theorem row11 (T : Txt (gOf K (ph K)) w mg (aOf K)) (c : He.SaysX fa fnD ts [] ex w h' K) : Row P w (gOf K (ph K)) mg base (aOf K 11) ⟨1, 3, b11⟩ := by
  obtain ⟨fd, F⟩ := c.t.d.def_ 11 (d := dd11) rfl
  exact row_mk (x := "_law_sorts") (st := top 14) (N := ["_law_word_here", "_law_found", "_law_one"]) (ps := ["_law_word_here"]) F sc11 rfl rfl (fun _ _ _ _ _ _ us hl => match us, hl with | [_], _ => rfl) (fun _ _ _ _ _ _ _ _ G => bd11 T G)
theorem row12 (T : Txt (gOf K (ph K)) w mg (aOf K)) (c : He.SaysX fa fnD ts [] ex w h' K) : Row P w (gOf K (ph K)) mg base (aOf K 12) ⟨1, 2, b12⟩ := by
  obtain ⟨fd, F⟩ := c.t.d.def_ 12 (d := dd12) rfl
  exact row_mk (x := "_law_number") (st := top 15) (N := ["_law_stream", "_law_far"]) (ps := ["_law_stream"]) F sc12 rfl rfl (fun _ _ _ _ _ _ us hl => match us, hl with | [_], _ => rfl) (fun _ _ _ _ _ _ _ _ G => bd12 T G)
theorem row13 (T : Txt (gOf K (ph K)) w mg (aOf K)) (c : He.SaysX fa fnD ts [] ex w h' K) : Row P w (gOf K (ph K)) mg base (aOf K 13) ⟨0, 1, b13⟩ := by
  obtain ⟨fd, F⟩ := c.t.d.def_ 13 (d := dd13) rfl
  exact row_mk (x := "_law_rowwords") (st := top 16) (N := ["_law_plain"]) (ps := []) F sc13 rfl rfl (fun _ _ _ _ _ _ us hl => match us, hl with | [], _ => rfl) (fun _ _ _ _ _ _ _ _ G => bd13 T G)
theorem row14 (T : Txt (gOf K (ph K)) w mg (aOf K)) (c : He.SaysX fa fnD ts [] ex w h' K) : Row P w (gOf K (ph K)) mg base (aOf K 14) ⟨3, 8, b14⟩ := by
  obtain ⟨fd, F⟩ := c.t.d.def_ 14 (d := dd14) rfl
  exact row_mk (x := "_law_new_row") (st := top 17) (N := ["_law_stream", "_law_goals", "_law_kit", "_law_word_here", "_law_parts", "_law_sort", "_law_some", "_law_part"]) (ps := ["_law_stream", "_law_goals", "_law_kit"]) F sc14 rfl rfl (fun _ _ _ _ _ _ us hl => match us, hl with | [_, _, _], _ => rfl) (fun _ _ _ _ _ _ _ _ G => bd14 T G)
theorem row15 (T : Txt (gOf K (ph K)) w mg (aOf K)) (c : He.SaysX fa fnD ts [] ex w h' K) : Row P w (gOf K (ph K)) mg base (aOf K 15) ⟨4, 6, b15⟩ := by
  obtain ⟨fd, F⟩ := c.t.d.def_ 15 (d := dd15) rfl
  exact row_mk (x := "_law_new_sign") (st := top 18) (N := ["_law_stream", "_law_name", "_law_kit", "_law_most", "_law_takes", "_law_k"]) (ps := ["_law_stream", "_law_name", "_law_kit", "_law_most"]) F sc15 rfl rfl (fun _ _ _ _ _ _ us hl => match us, hl with | [_, _, _, _], _ => rfl) (fun _ _ _ _ _ _ _ _ G => bd15 T G)
theorem row16 (T : Txt (gOf K (ph K)) w mg (aOf K)) (c : He.SaysX fa fnD ts [] ex w h' K) : Row P w (gOf K (ph K)) mg base (aOf K 16) ⟨4, 16, b16⟩ := by
  obtain ⟨fd, F⟩ := c.t.d.def_ 16 (d := dd16) rfl
  exact row_mk (x := "_law_new_way") (st := top 19) (N := ["_law_stream", "_law_name", "_law_kit", "_law_most", "_law_many", "_law_share", "_law_entries", "_law_row", "_law_goals", "_law_rows", "_law_ones", "_law_catches", "_law_k", "_law_begin", "_law_end", "_law_height"]) (ps := ["_law_stream", "_law_name", "_law_kit", "_law_most"]) F sc16 rfl rfl (fun _ _ _ _ _ _ us hl => match us, hl with | [_, _, _, _], _ => rfl) (fun _ _ _ _ _ _ _ _ G => bd16 T G)
theorem row17 (T : Txt (gOf K (ph K)) w mg (aOf K)) (c : He.SaysX fa fnD ts [] ex w h' K) : Row P w (gOf K (ph K)) mg base (aOf K 17) ⟨3, 11, b17⟩ := by
  obtain ⟨fd, F⟩ := c.t.d.def_ 17 (d := dd17) rfl
  exact row_mk (x := "_law_new_kind") (st := top 20) (N := ["_law_stream", "_law_names", "_law_kit", "_law_ways", "_law_most", "_law_above", "_law_faces", "_law_fields", "_law_field", "_law_found", "_law_name"]) (ps := ["_law_stream", "_law_names", "_law_kit"]) F sc17 rfl rfl (fun _ _ _ _ _ _ us hl => match us, hl with | [_, _, _], _ => rfl) (fun _ _ _ _ _ _ _ _ G => bd17 T G)
theorem row18 (T : Txt (gOf K (ph K)) w mg (aOf K)) (c : He.SaysX fa fnD ts [] ex w h' K) : Row P w (gOf K (ph K)) mg base (aOf K 18) ⟨1, 5, b18⟩ := by
  obtain ⟨fd, F⟩ := c.t.d.def_ 18 (d := dd18) rfl
  exact row_mk (x := "_law_new_unit") (st := top 21) (N := ["_law_stream", "_law_names", "_law_kit", "_law_found", "_law_name"]) (ps := ["_law_stream"]) F sc18 rfl rfl (fun _ _ _ _ _ _ us hl => match us, hl with | [_], _ => rfl) (fun _ _ _ _ _ _ _ _ G => bd18 T G)
theorem row19 (T : Txt (gOf K (ph K)) w mg (aOf K)) (c : He.SaysX fa fnD ts [] ex w h' K) : Row P w (gOf K (ph K)) mg base (aOf K 19) ⟨2, 4, b19⟩ := by
  obtain ⟨fd, F⟩ := c.t.d.def_ 19 (d := dd19) rfl
  exact row_mk (x := "_law_row_line") (st := top 22) (N := ["_law_row", "_law_label", "_law_parts", "_law_part"]) (ps := ["_law_row", "_law_label"]) F sc19 rfl rfl (fun _ _ _ _ _ _ us hl => match us, hl with | [_, _], _ => rfl) (fun _ _ _ _ _ _ _ _ G => bd19 T G)
theorem row20 (T : Txt (gOf K (ph K)) w mg (aOf K)) (c : He.SaysX fa fnD ts [] ex w h' K) : Row P w (gOf K (ph K)) mg base (aOf K 20) ⟨1, 1, b20⟩ := by
  obtain ⟨fd, F⟩ := c.t.d.def_ 20 (d := dd20) rfl
  exact row_mk (x := "_law_sign_line") (st := top 23) (N := ["_law_one"]) (ps := ["_law_one"]) F sc20 rfl rfl (fun _ _ _ _ _ _ us hl => match us, hl with | [_], _ => rfl) (fun _ _ _ _ _ _ _ _ G => bd20 T G)
theorem row21 (T : Txt (gOf K (ph K)) w mg (aOf K)) (c : He.SaysX fa fnD ts [] ex w h' K) : Row P w (gOf K (ph K)) mg base (aOf K 21) ⟨1, 2, b21⟩ := by
  obtain ⟨fd, F⟩ := c.t.d.def_ 21 (d := dd21) rfl
  exact row_mk (x := "_law_head_line") (st := top 24) (N := ["_law_unit", "_law_found"]) (ps := ["_law_unit"]) F sc21 rfl rfl (fun _ _ _ _ _ _ us hl => match us, hl with | [_], _ => rfl) (fun _ _ _ _ _ _ _ _ G => bd21 T G)
theorem row22 (T : Txt (gOf K (ph K)) w mg (aOf K)) (c : He.SaysX fa fnD ts [] ex w h' K) : Row P w (gOf K (ph K)) mg base (aOf K 22) ⟨1, 7, b22⟩ := by
  obtain ⟨fd, F⟩ := c.t.d.def_ 22 (d := dd22) rfl
  exact row_mk (x := "_law_way_lines") (st := top 25) (N := ["_law_way", "_law_heights", "_law_spots", "_law_found", "_law_row", "_law_catch", "_law_spot"]) (ps := ["_law_way"]) F sc22 rfl rfl (fun _ _ _ _ _ _ us hl => match us, hl with | [_], _ => rfl) (fun _ _ _ _ _ _ _ _ G => bd22 T G)
theorem row23 (T : Txt (gOf K (ph K)) w mg (aOf K)) (c : He.SaysX fa fnD ts [] ex w h' K) : Row P w (gOf K (ph K)) mg base (aOf K 23) ⟨1, 6, b23⟩ := by
  obtain ⟨fd, F⟩ := c.t.d.def_ 23 (d := dd23) rfl
  exact row_mk (x := "_law_as_written") (st := top 26) (N := ["_law_unit", "_law_found", "_law_way", "_law_one", "_law_name", "_law_told"]) (ps := ["_law_unit"]) F sc23 rfl rfl (fun _ _ _ _ _ _ us hl => match us, hl with | [_], _ => rfl) (fun _ _ _ _ _ _ _ _ G => bd23 T G)
theorem row24 (T : Txt (gOf K (ph K)) w mg (aOf K)) (c : He.SaysX fa fnD ts [] ex w h' K) : Row P w (gOf K (ph K)) mg base (aOf K 24) ⟨1, 5, b24⟩ := by
  obtain ⟨fd, F⟩ := c.t.d.def_ 24 (d := dd24) rfl
  exact row_mk (x := "law") (st := top 27) (N := ["_law_script", "_law_stream", "_law_turn", "_law_unit", "_law_found"]) (ps := ["_law_script"]) F sc24 rfl rfl (fun _ _ _ _ _ _ us hl => match us, hl with | [_], _ => rfl) (fun _ _ _ _ _ _ _ _ G => bd24 T G)
theorem rows (T : Txt (gOf K (ph K)) w mg (aOf K)) (c : He.SaysX fa fnD ts [] ex w h' K) : ∀ i, i < 25 → ∃ fn, fs i = some fn ∧ Row P w (gOf K (ph K)) mg base (aOf K i) fn
  | 0, _ => ⟨_, rfl, row0 T c⟩
  | 1, _ => ⟨_, rfl, row1 T c⟩
  | 2, _ => ⟨_, rfl, row2 T c⟩
  | 3, _ => ⟨_, rfl, row3 T c⟩
  | 4, _ => ⟨_, rfl, row4 T c⟩
  | 5, _ => ⟨_, rfl, row5 T c⟩
  | 6, _ => ⟨_, rfl, row6 T c⟩
  | 7, _ => ⟨_, rfl, row7 T c⟩
  | 8, _ => ⟨_, rfl, row8 T c⟩
  | 9, _ => ⟨_, rfl, row9 T c⟩
  | 10, _ => ⟨_, rfl, row10 T c⟩
  | 11, _ => ⟨_, rfl, row11 T c⟩
  | 12, _ => ⟨_, rfl, row12 T c⟩
  | 13, _ => ⟨_, rfl, row13 T c⟩
  | 14, _ => ⟨_, rfl, row14 T c⟩
  | 15, _ => ⟨_, rfl, row15 T c⟩
  | 16, _ => ⟨_, rfl, row16 T c⟩
  | 17, _ => ⟨_, rfl, row17 T c⟩
  | 18, _ => ⟨_, rfl, row18 T c⟩
  | 19, _ => ⟨_, rfl, row19 T c⟩
  | 20, _ => ⟨_, rfl, row20 T c⟩
  | 21, _ => ⟨_, rfl, row21 T c⟩
  | 22, _ => ⟨_, rfl, row22 T c⟩
  | 23, _ => ⟨_, rfl, row23 T c⟩
  | 24, _ => ⟨_, rfl, row24 T c⟩
  | i + 25, h => absurd h (by omega)
theorem tabs (T : Txt (gOf K (ph K)) w mg (aOf K)) (c : He.SaysX fa fnD ts [] ex w h' K) (k : Nat) : Tb P w (gOf K (ph K)) mg base (calK fs k) k := tb_all (fun i f e => by
  obtain ⟨h1, h2⟩ := T.ph i f e
  subst h2
  exact rows T c i h1) k
theorem facts (DEPTH : Nat) (law_true : ∀ ns : List Int, ns.length ≤ 63 → Ok (wp (callF (calK fs DEPTH) ⟨1, 5, b24⟩ [.p (.list (ns.map .int))] []) (fun d _ => d = .p (.bool true)) (fun _ _ => False))) {f : Addr} (X : K.In h) (G : h.Ns mainGlobals mg) (hfa : mg ("law" : Str) = some (.ref f)) (c : He.SaysX fa fnD ts [] ex w h' K) :
    ∃ fd : FuncData, (∀ (s : Shared) (v : Value), BindsTo s fd ⟨[v], []⟩ [("_law_script", v)]) ∧ ∀ base : Heap, K.In base → base.Ns mainGlobals mg → FnOk P w K mg base CX0 (DEPTH + 1) f fd ["_law_script"] (spLaw K 63) := by
  have T := txt X G c
  obtain ⟨fd, F⟩ := c.t.d.def_ 24 (d := dd24) rfl
  have e := hfa.symm.trans T.m24
  cases e
  have b := FunD.bindsA (ps := ["_law_script"]) F fun _ _ _ _ _ _ us hl => match us, hl with | [_], _ => rfl
  exact ⟨fd, fun s v => b s [v] rfl, fun base _ _ => law_of (g := gOf K (ph K)) (fn_ok (N := ["_law_script", "_law_stream", "_law_turn", "_law_unit", "_law_found"]) (fn := ⟨1, 5, b24⟩) (fun_of (x := "law") (st := top 27) F) sc24 (tabs T c DEPTH) rfl rfl (fun _ _ _ _ _ _ G => bd24 T G)) fun ns h => (law_true ns h).h⟩
theorem says (e1 : He.obsT fa fnD ts K = He.valT fnD ts w) (e2 : ex K = true) : He.SaysX fa fnD ts [] ex w h' K := ⟨e1, e2, fun _ h => (nomatch h), fun _ h => (nomatch h), fun _ h => (nomatch h)⟩
theorem walk {l : PySem.W.OpenLaw} {q : Program} {loose : List Str} {XP : (Str → Option Value) → Heap → Prop} {YP : World → Heap → Prop} {d : DefRec} {K : Params → PySem.W.Frag} (hn : l.most = some 63) (hdf : d.params.defaults = []) (hnm : d.name = "law")
    (hY : ∀ (w : World) (h : Heap), YP w h → (K w.params).In h)
    (c1 : ∀ w : World, He.obsT fa fnD ts (K w.params) = He.valT fnD ts w) (c2 : ∀ w : World, ex (K w.params) = true) :
    PySem.W.WalkO q loose XP YP l.row.toRowW d [] (fun f vs => PySem.call f vs) :=
  L2.walk_of (n := 63) (k := deep + 1) (x := "_law_script") (CX := fun _ => CX0) (sp := fun w => spLaw (K w.params) 63) hn (by decide) hdf ⟨rfl, by decide, by decide⟩ hY
    (fun w mg fa h KX G hfa => facts deep law_true KX G (by rw [hnm] at hfa; exact hfa) (says (h' := h) (c1 w) (c2 w))) (fun _ _ a ns hl ho hS => ⟨a, ns, rfl, ho, hS, hl, fun _ => rfl⟩) fun _ _ _ _ _ z => z
end
end Ir.K04
open PySem PySem.W PyProof.Rows in
set_option maxRecDepth 100000 in
set_option maxHeartbeats 0 in
theorem PySem.Challenge.cw_strangemill_k04_units_written_holds : PySem.Challenge.rw_strangemill_k04_units_written.Holds := by
  w_on; o_law; k_head; (case hw => w_witness2)
  k_fill
  refine Ir.K04.walk (l := PySem.Challenge.rw_strangemill_k04_units_written) rfl rfl rfl (fun w h Y => PySem.W.kIn_of Y) ?c1 ?c2
  case c1 => intro w; kernel_rfl
  case c2 => intro w; kernel_rfl
